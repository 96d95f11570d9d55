import PyProof.Rows.All
import Wide.All
import OpenK.AllK
import Wide.FinOn
import Lean
import PyProof.EqAt
import PyProof.EqKinds
import PyProof.TupleCall
import PySem.Challenge.RW_whence_k06_pairs
set_option Elab.async false
set_option linter.all false
set_option bootstrap.genMatcherCode false
set_option maxRecDepth 100000
/-! THE HAND LAYER, for ints, bools, texts, own classes, LISTS and tuples (index, slices, in, append, pop ..), calls, loops. Paste it whole ahead of your own text; what your proof does not reach may be deleted. -/
namespace L2
open PySem PySem.Spec PyProof.Rows

/-- a key: an int or a str -/
noncomputable abbrev Key := Sum Int Str
noncomputable def keyIs : Key → Value → Bool
  | .inl k, v => Value.isInt k v
  | .inr x, v => Value.isStrOf x v
noncomputable def keyH (w : World) : Key → Int
  | .inl k => hashInt k
  | .inr x => hashStr w x
theorem keyIs_shape : ∀ {k : Key} {v : Value}, keyIs k v = true → (∃ i t, k = Sum.inl i ∧ v = Value.int i t) ∨ (∃ x t, k = Sum.inr x ∧ v = Value.str x t)
  | .inl i, v, h => by
    obtain ⟨t, e⟩ := Value.isInt_shape (k := i) (v := v) h
    exact .inl ⟨i, t, rfl, e⟩
  | .inr x, v, h => by
    obtain ⟨t, e⟩ := Value.isStrOf_shape (x := x) (v := v) h
    exact .inr ⟨x, t, rfl, e⟩
theorem key_ll (a b : Int) : decide ((Sum.inl a : Key) = Sum.inl b) = (a == b) := by
  by_cases e : a = b
  · subst e; simp
  · have h : ¬ (Sum.inl a : Key) = Sum.inl b := fun q => e (Sum.inl.inj q)
    rw [decide_eq_false h]
    exact (beq_eq_false_iff_ne.mpr e).symm
theorem key_rr (a b : Str) : decide ((Sum.inr a : Key) = Sum.inr b) = decide (a = b) := by
  by_cases e : a = b
  · subst e; simp
  · have h : ¬ (Sum.inr a : Key) = Sum.inr b := fun q => e (Sum.inr.inj q)
    rw [decide_eq_false h, decide_eq_false e]
theorem key_lr (a : Int) (b : Str) : decide ((Sum.inl a : Key) = Sum.inr b) = false := decide_eq_false (fun q => nomatch q)
theorem key_rl (a : Str) (b : Int) : decide ((Sum.inr a : Key) = Sum.inl b) = false := decide_eq_false (fun q => nomatch q)

noncomputable def mixKind (prog : Program) (w : World) : PySem.KeyKind prog w Key where
  is := keyIs
  hash := keyH w
  inj := fun v a b ha hb => by
    rcases keyIs_shape ha with ⟨i, t, rfl, rfl⟩ | ⟨x, t, rfl, rfl⟩
    · rcases keyIs_shape hb with ⟨j, u, rfl, e⟩ | ⟨y, u, rfl, e⟩
      · injection e with e1 _; rw [e1]
      · exact nomatch e
    · rcases keyIs_shape hb with ⟨j, u, rfl, e⟩ | ⟨y, u, rfl, e⟩
      · exact nomatch e
      · injection e with e1 _; rw [e1]
  byValue := fun k v h => by
    rcases keyIs_shape h with ⟨i, t, rfl, rfl⟩ | ⟨x, t, rfl, rfl⟩ <;> rfl
  pyHash := fun hv h => by
    rcases keyIs_shape hv with ⟨i, t, rfl, rfl⟩ | ⟨x, t, rfl, rfl⟩
    · exact wpAny_pyHash_int h
    · exact wpAny_pyHash_str h
  eqBool := fun hu hv h => by
    rcases keyIs_shape hu with ⟨i, t, rfl, rfl⟩ | ⟨x, t, rfl, rfl⟩
    · rcases keyIs_shape hv with ⟨j, u, rfl, rfl⟩ | ⟨y, u, rfl, rfl⟩
      · rw [key_ll] at h; exact wpAny_eqBool_int h
      · rw [key_lr] at h; exact SeqAt.EqAt.int_str i t y u _ _ _ _ h
    · rcases keyIs_shape hv with ⟨j, u, rfl, rfl⟩ | ⟨y, u, rfl, rfl⟩
      · rw [key_rl] at h; exact SeqAt.EqAt.str_int x t j u _ _ _ _ h
      · rw [key_rr] at h; exact wpAny_eqBool_str h
  «strs» := fun k x t v h => by
    rcases keyIs_shape h with ⟨i, u, rfl, e⟩ | ⟨y, u, rfl, e⟩
    · exact nomatch e
    · injection e with e1 _
      subst e1
      cases v <;> rfl

end L2

namespace L2
open PySem PySem.Spec PyProof.Rows

/-- a value, without the heap -/
inductive V where
  | non | bl (b : Bool) | int (i : Int) | str (x : Str) | byt (b : Array UInt8) | flt (b : UInt64) | ref (a : Addr) | ty (n : String)
  deriving DecidableEq

noncomputable def RelV : V → Value → Prop
  | .non, u => u = Value.none
  | .bl b, u => u = Value.bool b
  | .int i, u => ∃ t, u = Value.int i t
  | .str x, u => ∃ t, u = Value.str x t
  | .byt b, u => ∃ t, u = Value.bytes b t
  | .flt b, u => ∃ t, u = Value.float b t
  | .ref a, u => u = Value.ref a
  | .ty n, u => u = Value.type n

noncomputable abbrev Vals : List V → List Value → Prop := Paired RelV
theorem Vals.length {xs : List V} {us : List Value} (r : Vals xs us) : xs.length = us.length := Paired.length r
theorem Vals.get : ∀ {xs : List V} {us : List Value} {i : Nat} {x : V}, Vals xs us → xs[i]? = some x → ∃ u, us[i]? = some u ∧ RelV x u
  | _, _, _, _, .nil, e => by simp at e
  | _, _, 0, _, .cons r _, e => by simp at e; subst e; exact ⟨_, rfl, r⟩
  | _, _, i + 1, x, .cons _ t, e => by
    obtain ⟨u, h1, h2⟩ := Vals.get (i := i) (x := x) t (by simpa using e)
    exact ⟨u, by simpa using h1, h2⟩
theorem Vals.set {x : V} {u : Value} (r : RelV x u) : ∀ {xs : List V} {us : List Value} (i : Nat), Vals xs us → Vals (xs.set i x) (us.set i u)
  | _, _, _, .nil => .nil
  | _, _, 0, .cons _ t => .cons r t
  | _, _, i + 1, .cons q t => .cons q (Vals.set r i t)
theorem Vals.append : ∀ {xs ys : List V} {us ws : List Value}, Vals xs us → Vals ys ws → Vals (xs ++ ys) (us ++ ws)
  | _, _, _, _, .nil, s => s
  | _, _, _, _, .cons r t, s => .cons r (Vals.append t s)
theorem Vals.take : ∀ {xs : List V} {us : List Value} (n : Nat), Vals xs us → Vals (xs.take n) (us.take n)
  | _, _, 0, _ => .nil
  | _, _, _ + 1, .nil => .nil
  | _, _, n + 1, .cons r t => .cons r (Vals.take n t)
theorem Vals.drop : ∀ {xs : List V} {us : List Value} (n : Nat), Vals xs us → Vals (xs.drop n) (us.drop n)
  | _, _, 0, r => r
  | _, _, _ + 1, .nil => .nil
  | _, _, n + 1, .cons _ t => Vals.drop n t
noncomputable def RelO : Option V → Option Value → Prop
  | some v, some u => RelV v u
  | none, none => True
  | _, _ => False
noncomputable def KV {κ : Type} : List (κ × V) → List (κ × Value) → Prop := Paired fun (p : κ × V) (q : κ × Value) => p.1 = q.1 ∧ RelV p.2 q.2

/-- a key of a dict (00_mix): an int or a text -/
noncomputable def kV : Key → V
  | .inl i => .int i
  | .inr x => .str x

/-- what stands at a tracked address -/
inductive HO where
  /-- a list -/
  | lst (xs : List V)
  /-- a tuple (never changes) -/
  | tup (xs : List V)
  /-- a dict whose keys are ints and texts; one whose keys are tuples of ints and texts (the empty one is both) -/
  | dK (kvs : List (Key × V)) | dT (kvs : List (List Key × V))
  /-- a set of texts: its members, its size -/
  | set (S : Str → Bool) (n : Nat)
  /-- an instance of the class at C, its dict at dx, its attributes -/
  | ins (C dx : Addr) (fs : List (Str × V))
  /-- the dict of the instance at x -/
  | own (x : Addr)
  /-- the dict of an exception -/
  | xd (fs : List (Str × V))
  /-- a bound method, f of x -/
  | met (f x : Addr)
  /-- a range object lo, lo + 1, .. below hi -/
  | rng (lo hi : Int)
  /-- a thing that is known to the object (the script; a dict while a loop walks it): read, never written while it is so -/
  | frz (o : Obj) (u : HO)
  /-- a code object's table -/
  | tbl (ps : Array Value)
  /-- any other thing, by what is true of its one object (a def of one's own: SetO a S n := HO.ext fun h => ..) -/
  | ext (φ : Heap → Prop)

noncomputable abbrev Hp := Addr → Option HO
noncomputable def upd (H : Hp) (a : Addr) (o : HO) : Hp := fun b => if b = a then some o else H b
theorem upd_same {H : Hp} {a : Addr} {o : HO} : upd H a o a = some o := by unfold upd; rw [if_pos rfl]
theorem upd_ne {H : Hp} {a b : Addr} {o : HO} (h : b ≠ a) : upd H a o b = H b := by unfold upd; rw [if_neg h]
theorem ne_of_none {H : Hp} {a b : Addr} {o : HO} (h : H a = some o) (h' : H b = none) : a ≠ b := by
  intro e; subst e; rw [h] at h'; cases h'

/-- a set that may be walked: the order is by text, or its maker is led; and no text in it stands at a plain place -/
noncomputable def TxtO (w : World) (o : Obj) : Prop := ∃ es ep t, o.data = .set es ep t ∧ (w.params.followText "set-order" = true ∨ t.led = true) ∧ (es.size = 0 ∨ t.plain = false)
noncomputable def Txts (w : World) (h : Heap) (a : Addr) : Prop := ∃ o, h.get? a = some o ∧ TxtO w o
/-- a tuple's object, without a dict -/
noncomputable def TupD (h : Heap) (a : Addr) (its : Array Value) : Prop := ∃ o, h.get? a = some o ∧ o.cls = .type "tuple" ∧ (∃ n, o.data = .seq its n) ∧ o.dict = none
theorem TupD.tup {h : Heap} {a : Addr} {its : Array Value} (x : TupD h a its) : IsTup h a its := let ⟨o, e, c, d, _⟩ := x; ⟨o, e, c, d⟩
theorem TupD.lt {h : Heap} {a : Addr} {its : Array Value} (x : TupD h a its) : a < h.objs.size := let ⟨_, e, _⟩ := x; Heap.lt_size e
theorem TupD.new (h : Heap) (its : Array Value) : TupD (h.push { cls := .type "tuple", data := .seq its }) h.objs.size its := ⟨_, Heap.get?_push_size _ rfl, rfl, ⟨_, rfl⟩, rfl⟩
section
variable (P : Program) (w : World)
noncomputable def ObjOk (H : Hp) (h : Heap) (a : Addr) : HO → Prop
  | .lst xs => xs.length ≤ sizeLine ∧ ∃ (its : List Value) (n : Nat), Vals xs its ∧ h.get? a = some { cls := .type "list", data := .seq its.toArray n }
  | .tup xs => xs.length ≤ sizeLine ∧ ∃ its : List Value, Vals xs its ∧ TupD h a its.toArray
  | .dK kvs => kvs.length ≤ sizeLine ∧ (a == sysModules) = false ∧ ∃ vs, KV kvs vs ∧ h.DictOf (mixKind P w) a vs
  | .dT kvs => kvs.length ≤ sizeLine ∧ (a == sysModules) = false ∧ ∃ xs : List (List Key × Addr × Value),
      Paired (fun (p : List Key × V) (q : List Key × Addr × Value) => p.1 = q.1 ∧ H q.2.1 = some (.tup (p.1.map kV)) ∧ RelV p.2 q.2.2) kvs xs ∧
      ∃ o es ep, h.get? a = some o ∧ o.ExactDict ∧ o.data = .dict es ep ∧ es.toList = xs.map (entryOfKey (tupleKind (mixKind P w))) ∧ (xs.map (·.1)).Nodup
  | .set S n => h.SetOf (PySem.strKind P w) a S n ∧ Txts w h a
  | .ins C dx fs => H dx = some (.own a) ∧ fs.length ≤ 1000 ∧ dx ≠ a ∧ h.get? a = some (PySem.W.instObj C dx) ∧
      ∃ mA, h.Ns1 dx mA ∧ (∀ f, RelO (fs.lookup f) (mA f)) ∧ PySem.Within mA (fs.map (·.1))
  | .own _ => ∃ o, h.get? a = some o
  | .xd fs => ∃ mA, h.Ns1 a mA ∧ ∀ f, RelO (fs.lookup f) (mA f)
  | .rng lo hi => ∃ t u v, h.get? a = some { cls := .type "range", data := .fields #[.int lo t, .int hi u, .int 1 v] }
  | .frz o u => h.get? a = some o ∧ ObjOk H h a u
  | .tbl ps => h.get? a = some { cls := .none, data := .fields ps }
  | .met f x => h.get? a = some (PySem.W.methodObj (.ref f) (.ref x))
  | .ext φ => φ h ∧ (∃ o, h.get? a = some o) ∧ ∀ h1 h2 : Heap, φ h1 → (∀ o, h1.get? a = some o → h2.get? a = some o) → φ h2
/-- the abstract heap is held -/
noncomputable def HOk (H : Hp) (h : Heap) : Prop := ∀ a o, H a = some o → ObjOk P w H h a o
end

section
variable {P : Program} {w : World} {H H' : Hp} {h h' : Heap} {a : Addr} {o : HO}
theorem ObjOk.lt (x : ObjOk P w H h a o) : a < h.objs.size := by
  cases o with
  | lst xs => obtain ⟨_, _, _, _, e⟩ := x; exact Heap.lt_size e
  | tup xs => obtain ⟨_, _, _, p⟩ := x; exact p.lt
  | dK kvs => obtain ⟨_, _, _, _, o, _, _, e, _⟩ := x; exact Heap.lt_size e
  | dT kvs => obtain ⟨_, _, _, _, o, _, _, e, _⟩ := x; exact Heap.lt_size e
  | set S n => obtain ⟨⟨o, _, _, _, e, _⟩, _⟩ := x; exact Heap.lt_size e
  | ins C dx fs => obtain ⟨_, _, _, e, _⟩ := x; exact Heap.lt_size e
  | own y => obtain ⟨_, e⟩ := x; exact Heap.lt_size e
  | xd fs => obtain ⟨_, ⟨_, _, _, e, _⟩, _⟩ := x; exact Heap.lt_size e
  | rng lo hi => obtain ⟨_, _, _, e⟩ := x; exact Heap.lt_size e
  | frz ob u => obtain ⟨e, _⟩ := x; exact Heap.lt_size e
  | tbl ps => exact Heap.lt_size (show h.get? a = some _ from x)
  | met f y => exact Heap.lt_size (show h.get? a = some _ from x)
  | ext φ => obtain ⟨_, ⟨_, e⟩, _⟩ := x; exact Heap.lt_size e
theorem Paired.mapP {α β : Type} {F G : α → β → Prop} : ∀ {l₁ : List α} {l₂ : List β}, Paired F l₁ l₂ → (∀ a b, F a b → G a b) → Paired G l₁ l₂
  | _, _, .nil, _ => .nil
  | _, _, .cons r t, f => .cons (f _ _ r) (Paired.mapP t f)
/-- what an object's description leans on: its own object, its own dict, the tuples -/
theorem ObjOk.stay (x : ObjOk P w H h a o) (k : ∀ b u, (b = a ∨ H b = some (.own a)) → h.get? b = some u → h'.get? b = some u)
    (ho : ∀ b, H b = some (.own a) → H' b = some (.own a)) (ht : ∀ b xs, H b = some (.tup xs) → H' b = some (.tup xs)) : ObjOk P w H' h' a o := by
  induction o with
  | lst xs => obtain ⟨z, its, n, r, e⟩ := x; exact ⟨z, its, n, r, k _ _ (.inl rfl) e⟩
  | tup xs => obtain ⟨z, its, r, ob, e, c⟩ := x; exact ⟨z, its, r, ob, k _ _ (.inl rfl) e, c⟩
  | dK kvs => obtain ⟨z, y, vs, r, ob, es, ep, e, c⟩ := x; exact ⟨z, y, vs, r, ob, es, ep, k _ _ (.inl rfl) e, c⟩
  | dT kvs =>
    obtain ⟨z, y, xs, r, ob, es, ep, e, c⟩ := x
    exact ⟨z, y, xs, Paired.mapP r fun p q z => ⟨z.1, ht _ _ z.2.1, z.2.2⟩, ob, es, ep, k _ _ (.inl rfl) e, c⟩
  | set S n => obtain ⟨⟨ob, es, ep, t, e, c⟩, o', e', c'⟩ := x; exact ⟨⟨ob, es, ep, t, k _ _ (.inl rfl) e, c⟩, o', k _ _ (.inl rfl) e', c'⟩
  | ins C dx fs =>
    obtain ⟨d, z, ne, e, mA, ⟨od, es, ep, e2, c⟩, r⟩ := x
    exact ⟨ho _ d, z, ne, k _ _ (.inl rfl) e, mA, ⟨od, es, ep, k _ _ (.inr d) e2, c⟩, r⟩
  | own y => obtain ⟨ob, e⟩ := x; exact ⟨ob, k _ _ (.inl rfl) e⟩
  | xd fs => obtain ⟨mA, ⟨od, es, ep, e, c⟩, r⟩ := x; exact ⟨mA, ⟨od, es, ep, k _ _ (.inl rfl) e, c⟩, r⟩
  | rng lo hi => obtain ⟨t, u, v, e⟩ := x; exact ⟨t, u, v, k _ _ (.inl rfl) e⟩
  | frz ob u ih => obtain ⟨e, q⟩ := x; exact ⟨k _ _ (.inl rfl) e, ih q⟩
  | tbl ps =>
    have e : h.get? a = some { cls := .none, data := .fields ps } := x
    show h'.get? a = some { cls := .none, data := .fields ps }
    exact k a _ (.inl rfl) e
  | met f y =>
    have e : h.get? a = some (PySem.W.methodObj (.ref f) (.ref y)) := x
    show h'.get? a = some (PySem.W.methodObj (.ref f) (.ref y))
    exact k a _ (.inl rfl) e
  | ext φ => obtain ⟨p, ⟨o, e⟩, st⟩ := x; exact ⟨st _ _ p fun o q => k _ _ (.inl rfl) q, ⟨o, k _ _ (.inl rfl) e⟩, st⟩
theorem HOk.lt (x : HOk P w H h) (e : H a = some o) : a < h.objs.size := (x a o e).lt
theorem HOk.fresh (x : HOk P w H h) (e : h.objs.size ≤ a) : H a = none := by
  cases q : H a with
  | none => rfl
  | some u => exact absurd (Nat.lt_of_lt_of_le (x.lt q) e) (Nat.lt_irrefl _)
/-- every object of the heap is kept -/
theorem HOk.kept (x : HOk P w H h) (k : ∀ b u, h.get? b = some u → h'.get? b = some u) : HOk P w H h' := fun a o e =>
  (x a o e).stay (fun b u _ q => k b u q) (fun _ q => q) fun _ _ q => q
/-- a new object is laid and tracked -/
theorem HOk.laid (x : HOk P w H h) (k : ∀ b u, h.get? b = some u → h'.get? b = some u) (hp : h.objs.size ≤ a) (new : ObjOk P w (upd H a o) h' a o) : HOk P w (upd H a o) h' := fun b u e => by
  have hn := x.fresh hp
  by_cases hb : b = a
  · subst hb; rw [upd_same] at e; cases e; exact new
  · rw [upd_ne hb] at e
    exact (x b u e).stay (fun c v _ q => k c v q) (fun c q => by rw [upd_ne (ne_of_none q hn)]; exact q) fun c xs q => by rw [upd_ne (ne_of_none q hn)]; exact q
end

/-- what may be read as u: it is u, or a known u -/
noncomputable def Rd (H : Hp) (a : Addr) (u : HO) : Prop := H a = some u ∨ ∃ o, H a = some (.frz o u)
theorem Rd.of {H : Hp} {a : Addr} {u : HO} (h : H a = some u) : Rd H a u := .inl h
theorem Rd.ok {P : Program} {w : World} {H : Hp} {h : Heap} {a : Addr} {u : HO} (r : Rd H a u) (x : HOk P w H h) : ObjOk P w H h a u := by
  rcases r with r | ⟨o, r⟩
  · exact x a u r
  · obtain ⟨_, q⟩ := x a _ r
    exact q
/-- what may be written -/
noncomputable def Mut : Option HO → Prop
  | some (.lst _) => True
  | some (.dK _) => True
  | some (.dT _) => True
  | some (.set _ _) => True
  | some (.ins _ _ _) => True
  | some (.ext _) => True
  | _ => False
section
variable {P : Program} {w : World} {H : Hp} {h h' : Heap} {x e : Addr} {o' : HO}
/-- the object at e is changed: x itself, or the dict of the instance x -/
theorem HOk.write (ok : HOk P w H h) (mu : Mut (H x)) (he : e = x ∨ H e = some (.own x)) (k : ∀ b u, b ≠ e → h.get? b = some u → h'.get? b = some u) (heo : ∃ u, h'.get? e = some u)
    (new : ObjOk P w (upd H x o') h' x o') : HOk P w (upd H x o') h' := fun b u q => by
  have nown : ∀ c y, H c = some (.own y) → c ≠ x := fun c y r z => by subst z; rw [r] at mu; exact mu
  have ntup : ∀ c xs, H c = some (.tup xs) → c ≠ x := fun c xs r z => by subst z; rw [r] at mu; exact mu
  by_cases hb : b = x
  · subst hb; rw [upd_same] at q; cases q; exact new
  · rw [upd_ne hb] at q
    by_cases hbe : b = e
    · have q' : H b = some (.own x) := by
        rcases he with z | z
        · exact absurd (hbe.trans z) hb
        · rw [hbe]; exact z
      rw [q] at q'; cases q'
      obtain ⟨v, hv⟩ := heo
      exact ⟨v, by rw [hbe]; exact hv⟩
    · refine (ok b u q).stay (fun c v hc r => k c v ?_ r) (fun c r => by rw [upd_ne (nown c b r)]; exact r) fun c xs r => by rw [upd_ne (ntup c xs r)]; exact r
      rcases hc with rfl | hc
      · exact hbe
      · rintro rfl
        rcases he with z | z
        · exact nown c b hc z
        · rw [hc] at z; cases z; exact hb rfl
end

/-! ### kept unless tracked; of the frames at fs (the callers') the slots may change (an exception that passes writes there); of the records at ex (iterators) nothing is said -/
structure Un (fs ex : List Addr) (H H' : Hp) (h h' : Heap) : Prop where
  keep : ∀ b o, h.get? b = some o → H b = none → b ∉ fs → b ∉ ex → h'.get? b = some o
  slot : ∀ b o, h.get? b = some o → H b = none → b ∈ fs → b ∉ ex → ∃ sl, h'.get? b = some { o with slots := sl }
  free : ∀ b o, h.get? b = some o → H b = none → b ∉ ex → H' b = none
  there : ∀ b o, h.get? b = some o → b ∉ ex → ∃ o', h'.get? b = some o'
  tups : ∀ b xs, H b = some (.tup xs) → H' b = some (.tup xs)
  frzs : ∀ b o u, H b = some (.frz o u) → H' b = some (.frz o u)
  tbls : ∀ b ps, H b = some (.tbl ps) → ∃ more, H' b = some (.tbl (ps ++ more))
section
variable {fs fs' ex ex' : List Addr} {H H1 H2 : Hp} {h h1 h2 h' : Heap} {a x e : Addr} {o : HO}
theorem Un.any (u : Un fs ex H H1 h h1) {b : Addr} {ob : Obj} (q : h.get? b = some ob) (n : H b = none) (hx : b ∉ ex) : ∃ sl, h1.get? b = some { ob with slots := sl } := by
  by_cases hb : b ∈ fs
  · exact u.slot b ob q n hb hx
  · exact ⟨ob.slots, u.keep b ob q n hb hx⟩
theorem Un.trans (a : Un fs ex H H1 h h1) (b : Un fs ex H1 H2 h1 h2) : Un fs ex H H2 h h2 where
  keep := fun c ob q n hc hx => b.keep c ob (a.keep c ob q n hc hx) (a.free c ob q n hx) hc hx
  slot := fun c ob q n hc hx => by
    obtain ⟨sl, e1⟩ := a.slot c ob q n hc hx
    obtain ⟨sl', e2⟩ := b.slot c _ e1 (a.free c ob q n hx) hc hx
    exact ⟨sl', e2⟩
  free := fun c ob q n hx => by
    obtain ⟨o', e1⟩ := a.there c ob q hx
    exact b.free c o' e1 (a.free c ob q n hx) hx
  there := fun c ob q hx => by
    obtain ⟨o', e1⟩ := a.there c ob q hx
    exact b.there c o' e1 hx
  tups := fun c xs q => b.tups c xs (a.tups c xs q)
  frzs := fun c ob xs q => b.frzs c ob xs (a.frzs c ob xs q)
  tbls := fun c ps q => by
    obtain ⟨m1, e1⟩ := a.tbls c ps q
    obtain ⟨m2, e2⟩ := b.tbls c _ e1
    exact ⟨m1 ++ m2, by rw [e2, Array.append_assoc]⟩
theorem Un.kept (k : ∀ b u, h.get? b = some u → h'.get? b = some u) : Un fs ex H H h h' :=
  ⟨fun b ob q _ _ _ => k b ob q, fun b ob q _ _ _ => ⟨ob.slots, k b ob q⟩, fun _ _ _ n _ => n, fun b ob q _ => ⟨ob, k b ob q⟩, fun _ _ q => q, fun _ _ _ q => q, fun _ ps q => ⟨#[], by rw [q]; simp⟩⟩
theorem Un.refl : Un fs ex H H h h := Un.kept fun _ _ q => q
theorem Un.laid (k : ∀ b u, h.get? b = some u → h'.get? b = some u) (hp : h.objs.size ≤ a) (hn : H a = none) : Un fs ex H (upd H a o) h h' where
  keep := fun b u q _ _ _ => k b u q
  slot := fun b u q _ _ _ => ⟨u.slots, k b u q⟩
  free := fun b u q n _ => by rw [upd_ne (Nat.ne_of_lt (Nat.lt_of_lt_of_le (Heap.lt_size q) hp))]; exact n
  there := fun b u q _ => ⟨u, k b u q⟩
  tups := fun b xs q => by rw [upd_ne (ne_of_none q hn)]; exact q
  frzs := fun b u xs q => by rw [upd_ne (ne_of_none q hn)]; exact q
  tbls := fun b ps q => ⟨#[], by rw [upd_ne (ne_of_none q hn), q]; simp⟩
theorem Un.write (mu : Mut (H x)) (he : e = x ∨ H e = some (.own x)) (k : ∀ b u, b ≠ e → h.get? b = some u → h'.get? b = some u) (heo : ∃ u, h'.get? e = some u) : Un fs ex H (upd H x o) h h' := by
  have hx : ∀ b, H b = none → b ≠ x := fun b n z => by subst z; rw [n] at mu; exact mu
  have hb : ∀ b, H b = none → b ≠ e := fun b n z => by
    subst z
    rcases he with r | r
    · exact hx b n r
    · rw [n] at r; cases r
  have hm : ∀ b u, H b = some u → ¬ Mut (some u) → b ≠ x := fun b u q nm z => by subst z; rw [q] at mu; exact nm mu
  refine ⟨fun b u q n _ _ => k b u (hb b n) q, fun b u q n _ _ => ⟨u.slots, k b u (hb b n) q⟩, fun b u q n _ => by rw [upd_ne (hx b n)]; exact n, fun b u q _ => ?_,
    fun b xs q => by rw [upd_ne (hm b _ q fun z => z)]; exact q, fun b u xs q => by rw [upd_ne (hm b _ q fun z => z)]; exact q, fun b ps q => ⟨#[], by rw [upd_ne (hm b _ q fun z => z), q]; simp⟩⟩
  by_cases hbe : b = e
  · subst hbe; exact heo
  · exact ⟨u, k b u hbe q⟩
theorem Un.mono (u : Un fs ex H H1 h h1) (hs : ∀ b ∈ fs, b ∈ fs') (hx : ∀ b ∈ ex, b ∈ ex') : Un fs' ex' H H1 h h1 :=
  ⟨fun b ob q n hb he => u.keep b ob q n (fun z => hb (hs b z)) fun z => he (hx b z), fun _ _ q n _ he => u.any q n fun z => he (hx _ z), fun b ob q n he => u.free b ob q n fun z => he (hx b z), fun b ob q he => u.there b ob q fun z => he (hx b z), u.tups, u.frzs, u.tbls⟩
end

/-! ### the heap without what is tracked -/
noncomputable def trk (h : Heap) (H : Hp) : List Addr := (List.range h.objs.size).filter fun a => (H a).isSome
noncomputable def hidT (h : Heap) (H : Hp) : Heap := PySem.W.hideAll h (trk h H)
theorem hidT_size (h : Heap) (H : Hp) : (hidT h H).objs.size = h.objs.size := PySem.W.hideAll_size _ _
theorem hidT_get {h : Heap} {H : Hp} {b : Addr} {o : Obj} (e : h.get? b = some o) (n : H b = none) : (hidT h H).get? b = some o :=
  PySem.W.hideAll_get _ e fun hm => by
    have q : (H b).isSome = true := (List.mem_filter.mp hm).2
    rw [n] at q; simp at q
theorem of_hidT {h : Heap} {H : Hp} {b : Addr} {o : Obj} (e : (hidT h H).get? b = some o) : h.get? b = some o ∧ H b = none := by
  have e' : h.get? b = some o := PySem.W.of_hideAll (trk h H) e
  refine ⟨e', ?_⟩
  cases q : H b with
  | none => rfl
  | some x =>
    have hm : b ∈ trk h H := List.mem_filter.mpr ⟨List.mem_range.mpr (Heap.lt_size e'), by simp [q]⟩
    have z : (hidT h H).get? b = none := PySem.W.hideAll_none (trk h H) hm
    rw [z] at e; cases e

/-! ### OpenK's ledger, filled with every new object but one -/
noncomputable def allNews (g h : Heap) (L : Addr) : List (Addr × Obj) := (List.range h.objs.size).filterMap fun a => if a = L ∨ (g.get? a).isSome = true then none else (h.get? a).map fun o => (a, o)
noncomputable def rest (g h : Heap) (L d : Addr) : List (Addr × Obj) := (allNews g h L).filter fun p => decide (p.1 ≠ d)
end L2

namespace L2
open PySem PySem.Spec PyProof.Rows

/-- the module's facts, over the base: the heap at the law's entry without what is tracked there -/
structure Mod (K : PySem.W.Frag) (mg : Str → Option Value) (base : Heap) : Prop where
  kin : K.In base
  glob : base.Ns mainGlobals mg
  blt : ∃ mb, base.Ns builtinsNs mb ∧ ∀ x : Str, x ≠ "__name__" → mb x = bootBuiltins x
  nolimit : base.NoLimit

/-- the context: a def's body (or a comprehension's block) running. base: fixed through the whole law; s₀, H₀: the entry; outer: the frames whose slots others may change (a def's callers); stack: all frames that run;
   ex: iterators that were made ahead of the entry and are walked here (a comprehension's); fn: the names whose cells were made at the entry (a def: all; a comprehension's block: its own); calm: not within an except suite; pn: pins that every state bears; xe: what is wanted of an exception that leaves the code -/
structure Cx where
  prog : Program
  w : World
  K : PySem.W.Frag
  mg : Str → Option Value
  base : Heap
  A : Around
  N : List Str
  s₀ : Shared
  H₀ : Hp
  env : Env
  outer : List Env
  stack : List Env
  ex : List Addr
  fn : Str → Bool
  calm : Bool
  pn : List (Addr × Obj)
  xe : Value → Shared → Prop
/-- the callers' frames -/
noncomputable def frs (l : List Env) : List Addr := l.filterMap (·.frame)
noncomputable abbrev Cx.fs (X : Cx) : List Addr := frs X.outer

noncomputable def Vis (sc : Scope) (x : Str) : Prop := sc.names.lookup x = some .local ∨ sc.names.lookup x = some .cell ∨ sc.names.lookup x = some .free
noncomputable def Loc (sc : Scope) (x : Str) : Prop := sc.names.lookup x = some .local ∨ sc.names.lookup x = some .cell
noncomputable def Look (env : Env) (h : Heap) (m : Str → Option Value) (x : Str) (u : Value) : Prop :=
  (env.kindOf x = some .local ∧ m x = some u) ∨ ((env.kindOf x = some .cell ∨ env.kindOf x = some .free) ∧ ∃ c, env.cells.lookup x = some c ∧ h.IsCell c (some u))

structure Cx.Ok (X : Cx) : Prop where
  mod : Mod X.K X.mg X.base
  kind : X.env.scope.kind = .function
  glob : X.env.globals = mainGlobals
  blt : X.env.builtins = builtinsNs
  above : X.s₀.heap.objs.size ≤ X.env.locals
  inj : ∀ x y c, X.env.cells.lookup x = some c → X.env.cells.lookup y = some c → x = y
  has : ∀ x, (X.env.kindOf x = some .cell ∨ X.env.kindOf x = some .free) → ∃ c, X.env.cells.lookup x = some c
  cab : ∀ x c, X.fn x = true → X.env.cells.lookup x = some c → X.s₀.heap.objs.size ≤ c
  hd : X.calm = true → X.A.handled = none
  frames : X.A.frames = some X.stack
  stk : X.stack = X.outer ∨ (X.stack = X.env :: X.outer ∧ X.env.frame = some X.env.locals)
  exf : ∀ b ∈ X.ex, b ≠ X.env.locals ∧ ∀ x c, X.env.cells.lookup x = some c → c ≠ b
  bs : ∀ b o, X.base.get? b = some o → X.s₀.heap.get? b = some o ∧ X.H₀ b = none
  bsz : X.base.objs.size ≤ X.s₀.heap.objs.size
  noex : ∀ b o, X.base.get? b = some o → b ∉ X.ex
  exfs : ∀ b ∈ X.ex, b ∉ X.fs
  funs : X.s₀.heap.FunFrames X.base X.outer
  frf : ∀ b ∈ X.fs, X.H₀ b = none

structure Inv (X : Cx) (pins : List (Addr × Obj)) (σ : List (Option V)) (H : Hp) (s : Shared) : Prop where
  ok : X.Ok
  os : s.os = X.s₀.os
  bare : AllBare s.gens
  base : Un X.fs X.ex X.H₀ H X.s₀.heap s.heap
  loc : ∃ m, s.heap.Ns X.env.locals m ∧ ∀ (i : Nat) (x : Str) (v : V), X.N[i]? = some x → σ[i]? = some (some v) → Vis X.env.scope x → ∃ u, RelV v u ∧ Look X.env s.heap m x u
  cell : ∀ x c, X.env.cells.lookup x = some c → ∃ v, s.heap.IsCell c v
  free : H X.env.locals = none
  freeC : ∀ x c, X.env.cells.lookup x = some c → H c = none
  pin : ∀ p ∈ X.pn ++ pins, s.heap.get? p.1 = some p.2 ∧ H p.1 = none ∧ p.1 ≠ X.env.locals ∧ p.1 ∉ X.fs ∧ ∀ v, p.2.data ≠ .cell v
  hok : HOk X.prog X.w H s.heap
  len : σ.length = X.N.length

section
variable {X : Cx} {pins : List (Addr × Obj)} {σ : List (Option V)} {H H' : Hp} {s : Shared} {h' : Heap}

theorem Cx.Ok.nofr (ok : X.Ok) {b : Addr} {o : Obj} (e : X.base.get? b = some o) : b ∉ X.fs := fun hb => by
  have := (ok.funs.mem hb).1
  rw [e] at this; cases this
theorem Inv.bs (I : Inv X pins σ H s) : ∀ b o, X.base.get? b = some o → s.heap.get? b = some o ∧ H b = none := fun b o e =>
  ⟨I.base.keep b o (I.ok.bs b o e).1 (I.ok.bs b o e).2 (I.ok.nofr e) (I.ok.noex b o e), I.base.free b o (I.ok.bs b o e).1 (I.ok.bs b o e).2 (I.ok.noex b o e)⟩
theorem Inv.bk (I : Inv X pins σ H s) : ∀ b o, X.base.get? b = some o → s.heap.get? b = some o := fun b o e => (I.bs b o e).1
theorem Inv.mod (I : Inv X pins σ H s) : Mod X.K X.mg X.base := I.ok.mod
theorem Inv.kIn (I : Inv X pins σ H s) : X.K.In s.heap := I.ok.mod.kin.keeps I.bk
theorem Inv.lt (I : Inv X pins σ H s) : X.env.locals < s.heap.objs.size := let ⟨_, hn, _⟩ := I.loc; hn.lt
theorem Inv.sz (I : Inv X pins σ H s) : X.s₀.heap.objs.size ≤ s.heap.objs.size := Nat.le_trans I.ok.above (Nat.le_of_lt I.lt)
theorem Inv.nofs (I : Inv X pins σ H s) {a : Addr} (h : s.heap.objs.size ≤ a) : a ∉ X.fs := fun hb => by
  obtain ⟨_, o, ho, _⟩ := I.ok.funs.mem hb
  exact absurd (Nat.lt_of_lt_of_le (Heap.lt_size ho) (Nat.le_trans I.sz h)) (Nat.lt_irrefl _)
theorem Inv.cne (I : Inv X pins σ H s) : ∀ x c, X.env.cells.lookup x = some c → c ≠ X.env.locals := fun x c e z => by
  obtain ⟨v, o, ho, hd⟩ := I.cell x c e
  obtain ⟨m, ⟨o', es, ep, ho', hd', _⟩, _⟩ := I.loc
  rw [z, ho'] at ho; cases ho; rw [hd'] at hd; cases hd
theorem Inv.funs (I : Inv X pins σ H s) : s.heap.FunFrames X.base X.outer := by
  have all : ∀ (l : List Env), (∀ b ∈ frs l, b ∈ X.fs) → X.s₀.heap.FunFrames X.base l → s.heap.FunFrames X.base l := by
    intro l
    induction l with
    | nil => intro _ _; trivial
    | cons env r ih =>
      intro hs hl
      obtain ⟨hk, ⟨L, o, hf, hn, ho, hd⟩, hr⟩ := hl
      have hL : L ∈ X.fs := hs L (by unfold frs; rw [List.filterMap_cons, hf]; exact List.mem_cons_self)
      obtain ⟨sl, e⟩ := I.base.slot L o ho (I.ok.frf L hL) hL fun z => I.ok.exfs L z hL
      exact ⟨hk, ⟨L, _, hf, hn, e, hd⟩, ih (fun b hb => hs b (by unfold frs; rw [List.filterMap_cons, hf]; exact List.mem_cons_of_mem _ hb)) hr⟩
  exact all X.outer (fun _ hb => hb) I.ok.funs

/-- the frames that run, for a call -/
theorem Inv.stack (I : Inv X pins σ H s) : s.heap.FunFrames X.base X.stack := by
  rcases I.ok.stk with e | ⟨e, hf⟩
  · rw [e]; exact I.funs
  · rw [e]
    obtain ⟨m, hn, _⟩ := I.loc
    refine .cons (by rw [I.ok.kind]; decide) hf hn ?_ I.funs
    exact Heap.get?_none_of_le (Nat.le_trans I.ok.bsz I.ok.above)
theorem Inv.stkSub (I : Inv X pins σ H s) : ∀ b ∈ frs X.stack, b ∈ X.env.locals :: X.fs := fun b hb => by
  rcases I.ok.stk with e | ⟨e, hf⟩
  · rw [e] at hb; exact List.mem_cons_of_mem _ hb
  · rw [e] at hb
    unfold frs at hb
    rw [List.filterMap_cons, hf] at hb
    exact hb
theorem Inv.stkFree (I : Inv X pins σ H s) : ∀ b ∈ frs X.stack, H b = none := fun b hb => by
  rcases List.mem_cons.mp (I.stkSub b hb) with e | hb
  · rw [e]; exact I.free
  · obtain ⟨_, o, ho, _⟩ := I.ok.funs.mem hb
    exact I.base.free b o ho (I.ok.frf b hb) fun z => I.ok.exfs b z hb

/-- THE STEP: the untracked objects but the frame and the records at ch are kept (the callers' frames up to slots), the frame's map is kept, the new abstract heap is held -/
theorem Inv.step {g' : Array GenState} {t' : Nat} {d' : Drawn} {ch : List Addr} (I : Inv X pins σ H s)
    (hch : ∀ b ∈ ch, (b ∈ X.ex ∨ X.s₀.heap.objs.size ≤ b) ∧ b ≠ X.env.locals ∧ (∀ x c, X.env.cells.lookup x = some c → c ≠ b) ∧ ∀ p ∈ X.pn ++ pins, p.1 ≠ b)
    (keep : ∀ b o, b ≠ X.env.locals → b ∉ X.fs → b ∉ ch → s.heap.get? b = some o → H b = none → h'.get? b = some o)
    (slot : ∀ b o, b ≠ X.env.locals → b ∈ X.fs → b ∉ ch → s.heap.get? b = some o → H b = none → ∃ sl, h'.get? b = some { o with slots := sl }) (free : ∀ b o, b ∉ ch → s.heap.get? b = some o → H b = none → H' b = none)
    (there : ∀ b o, b ∉ ch → s.heap.get? b = some o → ∃ o', h'.get? b = some o')
    (tups : ∀ b xs, H b = some (.tup xs) → H' b = some (.tup xs)) (frzs : ∀ b o u, H b = some (.frz o u) → H' b = some (.frz o u)) (tbls : ∀ b ps, H b = some (.tbl ps) → ∃ more, H' b = some (.tbl (ps ++ more)))
    (ns : ∀ m, s.heap.Ns X.env.locals m → h'.Ns X.env.locals m) (hok : HOk X.prog X.w H' h') (hg : AllBare g') :
    Inv X pins σ H' { s with heap := h', gens := g', drawn := d', toks := t' } := by
  have neL : ∀ b o, X.s₀.heap.get? b = some o → b ≠ X.env.locals := fun b o e => Nat.ne_of_lt (Nat.lt_of_lt_of_le (Heap.lt_size e) I.ok.above)
  have neC : ∀ b o, X.s₀.heap.get? b = some o → b ∉ X.ex → b ∉ ch := fun b o e hx hb => by
    rcases (hch b hb).1 with z | z
    · exact hx z
    · exact absurd (Nat.lt_of_lt_of_le (Heap.lt_size e) z) (Nat.lt_irrefl _)
  have cellK : ∀ x c, X.env.cells.lookup x = some c → ∀ v, s.heap.IsCell c v → h'.IsCell c v := fun x c e v ⟨o, ho, hd⟩ => by
    have nch : c ∉ ch := fun z => (hch c z).2.2.1 x c e rfl
    by_cases hc : c ∈ X.fs
    · obtain ⟨sl, q⟩ := slot c o (I.cne x c e) hc nch ho (I.freeC x c e)
      exact ⟨_, q, hd⟩
    · exact ⟨o, keep c o (I.cne x c e) hc nch ho (I.freeC x c e), hd⟩
  refine ⟨I.ok, I.os, hg, ⟨fun b o e n hb hx => ?_, fun b o e n hb hx => ?_, fun b o e n hx => ?_, fun b o e hx => ?_, fun b xs e => tups b xs (I.base.tups b xs e), fun b o xs e => frzs b o xs (I.base.frzs b o xs e), fun b ps e => ?_⟩, ?_, fun x c e => ?_, ?_, fun x c e => ?_, fun p hp => ?_, hok, I.len⟩
  · exact keep b o (neL b o e) hb (neC b o e hx) (I.base.keep b o e n hb hx) (I.base.free b o e n hx)
  · obtain ⟨sl, e1⟩ := I.base.slot b o e n hb hx
    obtain ⟨sl', e2⟩ := slot b _ (neL b o e) hb (neC b o e hx) e1 (I.base.free b o e n hx)
    exact ⟨sl', e2⟩
  · obtain ⟨o', e1⟩ := I.base.there b o e hx
    exact free b o' (neC b o e hx) e1 (I.base.free b o e n hx)
  · obtain ⟨o', e1⟩ := I.base.there b o e hx
    exact there b o' (neC b o e hx) e1
  · obtain ⟨m1, e1⟩ := I.base.tbls b ps e
    obtain ⟨m2, e2⟩ := tbls b _ e1
    exact ⟨m1 ++ m2, by rw [e2, Array.append_assoc]⟩
  · obtain ⟨m, hn, hl⟩ := I.loc
    refine ⟨m, ns m hn, fun i x v e1 e2 e3 => ?_⟩
    obtain ⟨u, r, l⟩ := hl i x v e1 e2 e3
    refine ⟨u, r, ?_⟩
    rcases l with l | ⟨k, c, e, z⟩
    · exact .inl l
    · exact .inr ⟨k, c, e, cellK x c e _ z⟩
  · obtain ⟨v, z⟩ := I.cell x c e
    exact ⟨v, cellK x c e v z⟩
  · obtain ⟨m, ⟨o, _, _, ho, _⟩, _⟩ := I.loc
    exact free _ o (fun z => (hch _ z).2.1 rfl) ho I.free
  · obtain ⟨v, o, ho, hd⟩ := I.cell x c e
    exact free c o (fun z => (hch c z).2.2.1 x c e rfl) ho (I.freeC x c e)
  · obtain ⟨e, n, ne, nf, d⟩ := I.pin p hp
    have nch : p.1 ∉ ch := fun z => (hch p.1 z).2.2.2 p hp rfl
    exact ⟨keep p.1 p.2 ne nf nch e n, free p.1 p.2 nch e n, ne, nf, d⟩
/-- .. where the frame's own object is kept too -/
theorem Inv.un {t' : Nat} (I : Inv X pins σ H s) (u : Un X.fs [] H H' s.heap h') (hok : HOk X.prog X.w H' h') : Inv X pins σ H' { s with heap := h', toks := t' } := by
  obtain ⟨m, ⟨o, es, ep, ho, r⟩, _⟩ := id I.loc
  obtain ⟨sl, hL⟩ := u.any ho I.free (by simp)
  exact I.step (g' := s.gens) (d' := s.drawn) (ch := []) (fun _ z => nomatch z) (fun b o _ hb _ e n => u.keep b o e n hb (by simp)) (fun b o _ hb _ e n => u.slot b o e n hb (by simp)) (fun b o _ e n => u.free b o e n (by simp)) (fun b o _ e => u.there b o e (by simp)) u.tups u.frzs u.tbls (fun m' hm => by
    obtain ⟨o', es', ep', ho', r'⟩ := hm
    rw [ho] at ho'; cases ho'
    exact ⟨_, es', ep', hL, r'⟩) hok I.bare
/-- behind a call (or a comprehension's block): the slots of this frame may have changed too, the records at ch may have turned -/
theorem Inv.call {g' : Array GenState} {t' : Nat} {d' : Drawn} {ch : List Addr} (I : Inv X pins σ H s) (u : Un (frs X.stack) ch H H' s.heap h') (hok : HOk X.prog X.w H' h') (hg : AllBare g')
    (hch : ∀ b ∈ ch, (b ∈ X.ex ∨ X.s₀.heap.objs.size ≤ b) ∧ b ≠ X.env.locals ∧ (∀ x c, X.env.cells.lookup x = some c → c ≠ b) ∧ ∀ p ∈ X.pn ++ pins, p.1 ≠ b) :
    Inv X pins σ H' { s with heap := h', gens := g', drawn := d', toks := t' } := by
  obtain ⟨m, ⟨o, es, ep, ho, r⟩, _⟩ := id I.loc
  obtain ⟨sl, hL⟩ := u.any ho I.free fun z => (hch _ z).2.1 rfl
  exact I.step (ch := ch) hch (fun b o hL hb hc e n => u.keep b o e n (fun z => (List.mem_cons.mp (I.stkSub b z)).elim hL hb) hc) (fun b o _ _ hc e n => u.any e n hc) (fun b o hc e n => u.free b o e n hc) (fun b o hc e => u.there b o e hc) u.tups u.frzs u.tbls (fun m' hm => by
    obtain ⟨o', es', ep', ho', r'⟩ := hm
    rw [ho] at ho'; cases ho'
    exact ⟨_, es', ep', hL, r'⟩) hok hg
/-- an untracked record of ours (an iterator) has turned -/
theorem Inv.turned {t' : Nat} {it : Addr} (I : Inv X pins σ H s) (k : ∀ b o, b ≠ it → s.heap.get? b = some o → h'.get? b = some o) (hn : H it = none) (hL : it ≠ X.env.locals)
    (h1 : it ∈ X.ex ∨ X.s₀.heap.objs.size ≤ it) (h2 : ∀ x c, X.env.cells.lookup x = some c → c ≠ it) (h3 : ∀ p ∈ X.pn ++ pins, p.1 ≠ it) : Inv X pins σ H { s with heap := h', toks := t' } := by
  have nit : ∀ b u, H b = some u → b ≠ it := fun b u e z => by rw [z, hn] at e; cases e
  refine I.step (g' := s.gens) (d' := s.drawn) (ch := [it]) (fun b hb => ?_) (fun b o _ _ hc e _ => k b o (fun z => hc (by simp [z])) e) (fun b o _ _ hc e _ => ⟨o.slots, k b o (fun z => hc (by simp [z])) e⟩) (fun _ _ _ _ n => n)
    (fun b o hc e => ⟨o, k b o (fun z => hc (by simp [z])) e⟩) (fun _ _ e => e) (fun _ _ _ e => e) (fun b ps e => ⟨#[], by rw [e]; simp⟩) (fun m hm => ?_) (fun b u e => ?_) I.bare
  · have e : b = it := by simpa using hb
    subst e
    exact ⟨h1, hL, h2, h3⟩
  · obtain ⟨o, es, ep, ho, r⟩ := hm
    exact ⟨o, es, ep, k _ o (Ne.symm hL) ho, r⟩
  · refine (I.hok b u e).stay (fun c v hc q => k c v ?_ q) (fun _ q => q) fun _ _ q => q
    rcases hc with z | z
    · rw [z]; exact nit b u e
    · exact nit c _ z
theorem Inv.tok (I : Inv X pins σ H s) (t : Nat) : Inv X pins σ H { s with toks := t } := I.un (h' := s.heap) (t' := t) Un.refl I.hok
/-- all objects kept -/
theorem Inv.kept {t' : Nat} (I : Inv X pins σ H s) (k : ∀ b u, s.heap.get? b = some u → h'.get? b = some u) : Inv X pins σ H { s with heap := h', toks := t' } := I.un (Un.kept k) (I.hok.kept k)
/-- a new object laid and tracked -/
theorem Inv.laid {a : Addr} {o : HO} {t' : Nat} (I : Inv X pins σ H s) (k : ∀ b u, s.heap.get? b = some u → h'.get? b = some u) (hp : s.heap.objs.size ≤ a) (new : ObjOk X.prog X.w (upd H a o) h' a o) :
    Inv X pins σ (upd H a o) { s with heap := h', toks := t' } := I.un (Un.laid k hp (I.hok.fresh hp)) (I.hok.laid k hp new)
/-- an object written -/
theorem Inv.write {x e : Addr} {o : HO} {t' : Nat} (I : Inv X pins σ H s) (mu : Mut (H x)) (he : e = x ∨ H e = some (.own x)) (k : ∀ b u, b ≠ e → s.heap.get? b = some u → h'.get? b = some u) (heo : ∃ u, h'.get? e = some u)
    (new : ObjOk X.prog X.w (upd H x o) h' x o) : Inv X pins σ (upd H x o) { s with heap := h', toks := t' } := I.un (Un.write mu he k heo) (I.hok.write mu he k heo new)
/-- forgetting slots, pins -/
theorem Inv.weak {σ' : List (Option V)} (I : Inv X pins σ H s) (hl : σ'.length = σ.length) (w : ∀ (i : Nat) v, σ'[i]? = some (some v) → σ[i]? = some (some v)) : Inv X pins σ' H s :=
  ⟨I.ok, I.os, I.bare, I.base, let ⟨m, hn, hl'⟩ := I.loc; ⟨m, hn, fun i x v e1 e2 e3 => hl' i x v e1 (w i v e2) e3⟩, I.cell, I.free, I.freeC, I.pin, I.hok, hl.trans I.len⟩
theorem Inv.pins_of {pins' : List (Addr × Obj)} (I : Inv X pins σ H s) (h : ∀ p ∈ pins', s.heap.get? p.1 = some p.2 ∧ H p.1 = none ∧ p.1 ≠ X.env.locals ∧ p.1 ∉ X.fs ∧ ∀ v, p.2.data ≠ .cell v) : Inv X pins' σ H s :=
  ⟨I.ok, I.os, I.bare, I.base, I.loc, I.cell, I.free, I.freeC, fun p hp => (List.mem_append.mp hp).elim (fun z => I.pin p (List.mem_append_left _ z)) (h p), I.hok, I.len⟩

theorem nodup_ix {N : List Str} (hN : N.Nodup) {i j : Nat} {x : Str} (a : N[i]? = some x) (b : N[j]? = some x) : i = j := by
  obtain ⟨h1, e1⟩ := List.getElem?_eq_some_iff.mp a
  obtain ⟨h2, e2⟩ := List.getElem?_eq_some_iff.mp b
  exact (List.getElem_inj hN).mp (e1.trans e2.symm)

/-- a name is stored; what changed -/
theorem store_ok2 {M : Model} {A : Around} {E : Value → Shared → Prop} {i : Nat} {x : Str} {v : V} {u : Value} {Q : Unit → Shared → Prop} (I : Inv X pins σ H s) (hN : X.N.Nodup) (hi : X.N[i]? = some x) (hx : Loc X.env.scope x) (r : RelV v u)
    (h : ∀ s', Inv X pins (σ.set i (some v)) H s' → (∃ a, Heap.SameBut a s.heap s'.heap ∧ (a = X.env.locals ∨ X.env.cells.lookup x = some a)) → Q () s') (hf : X.fn x = true ∨ X.env.scope.names.lookup x = some .local) : wpAny M A (storeName X.env x u) Q E s := by
  obtain ⟨m, hn, hl⟩ := id I.loc
  have hcls : (X.env.scope.kind == .class || (X.env.scope.kind == .module && X.env.locals != X.env.globals)) = false := by rw [I.ok.kind]; rfl
  have hiσ : i < σ.length := by rw [I.len]; exact (List.getElem?_eq_some_iff.mp hi).1
  have cne := I.cne
  have tracked : ∀ {a : Addr} {h' : Heap}, (∃ o, s.heap.get? a = some o ∧ H a = none) → Heap.SameBut a s.heap h' → HOk X.prog X.w H h' := fun {a h'} ha hs b ob e => by
    obtain ⟨_, _, hfree⟩ := ha
    refine (I.hok b ob e).stay (fun c w' hc q => (hs.2 c ?_).trans q) (fun _ q => q) fun _ _ q => q
    rintro rfl
    rcases hc with rfl | hc
    · rw [hfree] at e; cases e
    · rw [hfree] at hc; cases hc
  rcases hx with hk | hk
  · refine wpAny_storeName_local hk hn (fun h' hn' hs => ?_) hcls
    obtain ⟨oL, _, _, hoL, _⟩ := id hn
    refine h _ ⟨I.ok, I.os, I.bare, ⟨fun b o e n hb hx => ?_, fun b o e n hb hx => ?_, I.base.free, fun b o e hx => ?_, I.base.tups, I.base.frzs, I.base.tbls⟩, ⟨_, hn', fun j y v' e1 e2 e3 => ?_⟩, fun y c e => ?_, I.free, I.freeC, fun p hp => ?_, tracked ⟨oL, hoL, I.free⟩ hs, by simpa using I.len⟩ ⟨_, hs, .inl rfl⟩
    · exact (hs.2 b (Nat.ne_of_lt (Nat.lt_of_lt_of_le (Heap.lt_size e) I.ok.above))).trans (I.base.keep b o e n hb hx)
    · obtain ⟨sl, e1⟩ := I.base.slot b o e n hb hx
      exact ⟨sl, (hs.2 b (Nat.ne_of_lt (Nat.lt_of_lt_of_le (Heap.lt_size e) I.ok.above))).trans e1⟩
    · obtain ⟨o', e1⟩ := I.base.there b o e hx
      exact ⟨o', (hs.2 b (Nat.ne_of_lt (Nat.lt_of_lt_of_le (Heap.lt_size e) I.ok.above))).trans e1⟩
    · by_cases hj : j = i
      · subst hj
        rw [hi] at e1; cases e1
        rw [List.getElem?_set_self hiσ] at e2
        cases e2
        exact ⟨u, r, .inl ⟨hk, by simp⟩⟩
      · rw [List.getElem?_set_ne (Ne.symm hj)] at e2
        obtain ⟨u', r', q⟩ := hl j y v' e1 e2 e3
        refine ⟨u', r', ?_⟩
        rcases q with ⟨k, e⟩ | ⟨k, c, e, z⟩
        · refine .inl ⟨k, ?_⟩
          have : y ≠ x := fun e => hj (nodup_ix hN e1 (e ▸ hi))
          simp [this, e]
        · exact .inr ⟨k, c, e, z.sameBut hs (cne y c e)⟩
    · obtain ⟨w', z⟩ := I.cell y c e
      exact ⟨w', z.sameBut hs (cne y c e)⟩
    · obtain ⟨e, n, ne, nf, d⟩ := I.pin p hp
      exact ⟨(hs.2 p.1 ne).trans e, n, ne, nf, d⟩
  · have hfn : X.fn x = true := by
      rcases hf with z | z
      · exact z
      · rw [z] at hk; cases hk
    obtain ⟨c, hc⟩ := I.ok.has x (.inl hk)
    obtain ⟨w', z⟩ := I.cell x c hc
    refine wpAny_storeName_cell I.ok.kind hk hc z (fun h' hc' hs => ?_)
    obtain ⟨oc, hoc, hocd⟩ := id z
    refine h { s with heap := h' } ⟨I.ok, I.os, I.bare, ⟨fun b o e n hb hx => ?_, fun b o e n hb hx => ?_, I.base.free, fun b o e hx => ?_, I.base.tups, I.base.frzs, I.base.tbls⟩, ⟨m, hn.sameBut hs (Ne.symm (cne x c hc)), fun j y v' e1 e2 e3 => ?_⟩, fun y c' e => ?_, I.free, I.freeC, fun p hp => ?_, tracked ⟨oc, hoc, I.freeC x c hc⟩ hs, by simpa using I.len⟩ ⟨c, hs, .inr hc⟩
    · exact (hs.2 b (Nat.ne_of_lt (Nat.lt_of_lt_of_le (Heap.lt_size e) (I.ok.cab x c hfn hc)))).trans (I.base.keep b o e n hb hx)
    · obtain ⟨sl, e1⟩ := I.base.slot b o e n hb hx
      exact ⟨sl, (hs.2 b (Nat.ne_of_lt (Nat.lt_of_lt_of_le (Heap.lt_size e) (I.ok.cab x c hfn hc)))).trans e1⟩
    · obtain ⟨o', e1⟩ := I.base.there b o e hx
      exact ⟨o', (hs.2 b (Nat.ne_of_lt (Nat.lt_of_lt_of_le (Heap.lt_size e) (I.ok.cab x c hfn hc)))).trans e1⟩
    · by_cases hj : j = i
      · subst hj
        rw [hi] at e1; cases e1
        rw [List.getElem?_set_self hiσ] at e2
        cases e2
        exact ⟨u, r, .inr ⟨.inl hk, c, hc, hc'⟩⟩
      · rw [List.getElem?_set_ne (Ne.symm hj)] at e2
        obtain ⟨u', r', q⟩ := hl j y v' e1 e2 e3
        refine ⟨u', r', ?_⟩
        rcases q with q | ⟨k, c', e, z'⟩
        · exact .inl q
        · refine .inr ⟨k, c', e, z'.sameBut hs ?_⟩
          rintro rfl
          exact hj (nodup_ix hN e1 (I.ok.inj _ _ _ e hc ▸ hi))
    · by_cases hcc : c' = c
      · subst hcc; exact ⟨_, hc'⟩
      · obtain ⟨w2, z2⟩ := I.cell y c' e
        exact ⟨w2, z2.sameBut hs hcc⟩
    · obtain ⟨e, n, ne, nf, d⟩ := I.pin p hp
      refine ⟨(hs.2 p.1 ?_).trans e, n, ne, nf, d⟩
      intro q
      rw [q, hoc] at e
      have q' : oc = p.2 := Option.some.inj e
      exact d w' (by rw [← q']; exact hocd)
theorem store_ok {M : Model} {A : Around} {E : Value → Shared → Prop} {i : Nat} {x : Str} {v : V} {u : Value} {Q : Unit → Shared → Prop} (I : Inv X pins σ H s) (hN : X.N.Nodup) (hi : X.N[i]? = some x) (hx : Loc X.env.scope x) (r : RelV v u)
    (h : ∀ s', Inv X pins (σ.set i (some v)) H s' → Q () s') (hf : X.fn x = true ∨ X.env.scope.names.lookup x = some .local := by first | exact .inl rfl | exact .inr rfl | assumption) : wpAny M A (storeName X.env x u) Q E s :=
  store_ok2 I hN hi hx r (fun s' I' _ => h s' I') hf
/-- behind a call or a block, the state as it is -/
theorem Inv.call' {s' : Shared} {ch : List Addr} (I : Inv X pins σ H s) (ho : s'.os = s.os) (u : Un (frs X.stack) ch H H' s.heap s'.heap) (hok : HOk X.prog X.w H' s'.heap) (hg : AllBare s'.gens)
    (hch : ∀ b ∈ ch, (b ∈ X.ex ∨ X.s₀.heap.objs.size ≤ b) ∧ b ≠ X.env.locals ∧ (∀ x c, X.env.cells.lookup x = some c → c ≠ b) ∧ ∀ p ∈ X.pn ++ pins, p.1 ≠ b) : Inv X pins σ H' s' := by
  obtain ⟨h', g', d', t', o'⟩ := s'
  have e : o' = s.os := ho
  subst e
  exact I.call (g' := g') (t' := t') (d' := d') u hok hg hch
end

/-! ### the judgements -/
/-- an exception: its class, its own dict's address (where it has one), the abstract heap behind it -/
noncomputable abbrev XK := Value → Option Addr → Hp → Prop
noncomputable abbrev St := List (Option V)
noncomputable abbrev VK := V → Hp → Prop
/-- an expression's reading; a test's; an argument list's -/
noncomputable abbrev TE := St → Hp → VK → Prop
noncomputable abbrev TT := St → Hp → (Bool → Hp → Prop) → Prop
noncomputable abbrev TA := St → Hp → (List V → Hp → Prop) → Prop
/-- what is wanted behind a statement -/
structure Ends where
  nx : St → Hp → Prop
  rt : VK
  bk : St → Hp → Prop := fun _ _ => False
  ct : St → Hp → Prop := fun _ _ => False
noncomputable abbrev TS := Ends → St → Hp → Prop

noncomputable def EP (X : Cx) (pins : List (Addr × Obj)) (σ : St) (Q : VK) (u : Value) (s' : Shared) : Prop := ∃ v H', Inv X pins σ H' s' ∧ RelV v u ∧ Q v H'
noncomputable def TP (X : Cx) (pins : List (Addr × Obj)) (σ : St) (Q : Bool → Hp → Prop) (b : Bool) (s' : Shared) : Prop := ∃ H', Inv X pins σ H' s' ∧ Q b H'
noncomputable def AP (X : Cx) (pins : List (Addr × Obj)) (σ : St) (Q : List V → Hp → Prop) (us : List Value) (s' : Shared) : Prop := ∃ vs H', Inv X pins σ H' s' ∧ Vals vs us ∧ Q vs H'
noncomputable def SP (X : Cx) (pins : List (Addr × Obj)) (D : Ends) (f : Flow) (s' : Shared) : Prop :=
  match f with
  | .next => ∃ σ' H', Inv X pins σ' H' s' ∧ D.nx σ' H'
  | .brk => ∃ σ' H', Inv X pins σ' H' s' ∧ D.bk σ' H'
  | .cont => ∃ σ' H', Inv X pins σ' H' s' ∧ D.ct σ' H'
  | .ret u => ∃ v σ' H', Inv X pins σ' H' s' ∧ RelV v u ∧ D.rt v H'

noncomputable def PE (X : Cx) (e : Expr) (t : TE) : Prop :=
  ∀ (pins : List (Addr × Obj)) (s : Shared) (σ : St) (H : Hp) (Q : VK), Inv X pins σ H s → t σ H Q → wpAny (model X.prog X.w) X.A (eval e X.env) (EP X pins σ Q) X.xe s
noncomputable def PT (X : Cx) (e : Expr) (t : TT) : Prop :=
  ∀ (pins : List (Addr × Obj)) (s : Shared) (σ : St) (H : Hp) (Q : Bool → Hp → Prop), Inv X pins σ H s → t σ H Q → wpAny (model X.prog X.w) X.A (isTrue e X.env (eval e X.env)) (TP X pins σ Q) X.xe s
/-- a test whatever its 'whole' is (and, or) -/
noncomputable def PW (X : Cx) (e : Expr) (t : TT) : Prop :=
  ∀ (whole : Sem Value) (pins : List (Addr × Obj)) (s : Shared) (σ : St) (H : Hp) (Q : Bool → Hp → Prop), Inv X pins σ H s → t σ H Q → wpAny (model X.prog X.w) X.A (isTrue e X.env whole) (TP X pins σ Q) X.xe s
theorem PW.pt {X : Cx} {e : Expr} {t : TT} (h : PW X e t) : PT X e t := h _
/-- an argument list (no star), from the left -/
noncomputable def PA (X : Cx) (es : List Expr) (t : TA) : Prop :=
  ∀ (pos : Pos) (pins : List (Addr × Obj)) (s : Shared) (σ : St) (H : Hp) (Q : List V → Hp → Prop), Inv X pins σ H s → t σ H Q → wpAny (model X.prog X.w) X.A (spliced (backTo pos (starEach es X.env))) (AP X pins σ Q) X.xe s
noncomputable def PS (X : Cx) (st : Stmt) (t : TS) : Prop :=
  ∀ (pins : List (Addr × Obj)) (s : Shared) (σ : St) (H : Hp) (D : Ends), Inv X pins σ H s → t D σ H → wpAny (model X.prog X.w) X.A (exec st X.env) (SP X pins D) X.xe s
noncomputable def PSs (X : Cx) (st : List Stmt) (t : TS) : Prop :=
  ∀ (pins : List (Addr × Obj)) (s : Shared) (σ : St) (H : Hp) (D : Ends), Inv X pins σ H s → t D σ H → wpAny (model X.prog X.w) X.A (execs st X.env) (SP X pins D) X.xe s
/-- weaken the end -/
theorem thn {α : Type} {t : Sem α} {Q Q' : α → Shared → Prop} {M : Model} {A : Around} {E : Value → Shared → Prop} {s : Shared} (h : wpAny M A t Q E s) (hQ : ∀ a s, Q a s → Q' a s) : wpAny M A t Q' E s := wpAny_mono h hQ fun _ _ x => x
end L2

namespace L2
open PySem PySem.Spec PyProof.Rows
section
variable {X : Cx}

/-! ### names and constants -/
noncomputable def tVar (i : Nat) : TE := fun σ H Q => ∃ v, σ[i]? = some (some v) ∧ Q v H
noncomputable def tC (v : V) : TE := fun _ H Q => Q v H
theorem pe_var {i : Nat} {x : Str} {pos : Pos} (hN : X.N[i]? = some x) (hv : Vis X.env.scope x) (hd : (x == ("__debug__" : Str)) = false := by decide) (hcd : (x == ("__classdict__" : Str)) = false := by decide) : PE X (.Name x pos) (tVar i) := by
  intro pins s σ H Q I h
  obtain ⟨v, e, h⟩ := h
  obtain ⟨m, hn, hl⟩ := I.loc
  obtain ⟨u, r, l⟩ := hl i x v hN e hv
  have fin : EP X pins σ Q u s := ⟨v, H, I, r, h⟩
  rcases l with ⟨hk, hm⟩ | ⟨hk, c, hc, hcell⟩
  · exact wpAny_Name (wpAny_loadName_local I.ok.kind hk hn hm fin) hd
  · rcases hk with hk | hk
    · exact wpAny_Name (wpAny_loadName_cell I.ok.kind hk hc hcell fin) hd
    · exact wpAny_Name (wpAny_loadName_free I.ok.kind hk hc hcell fin hcd) hd
theorem pe_int {i j pos} : PE X (.Constant (.int i) j pos) (tC (.int i)) := fun _ _ _ H _ I h => wpAny_Constant_int ⟨.int i, H, I.tok _, ⟨_, rfl⟩, h⟩
theorem pe_bl {b j pos} : PE X (.Constant (.bool b) j pos) (tC (.bl b)) := fun _ _ _ H _ I h => Constant_bool ⟨.bl b, H, I, rfl, h⟩
theorem pe_non {j pos} : PE X (.Constant .none j pos) (tC .non) := fun _ _ _ H _ I h => Constant_none ⟨.non, H, I, rfl, h⟩
theorem pe_str {x j pos} : PE X (.Constant (.str x) j pos) (tC (.str x)) := fun _ _ _ H _ I h => Calls.Constant_str ⟨.str x, H, I.tok _, ⟨_, rfl⟩, h⟩

/-- a global name of the def -/
noncomputable def Gl (X : Cx) (x : Str) : Prop := X.env.kindOf x = some .globalImplicit
theorem ld_glob {E : Value → Shared → Prop} {pins : List (Addr × Obj)} {s : Shared} {σ : St} {H : Hp} {x : Str} {u : Value} {pos : Pos} {Q : Value → Shared → Prop} (I : Inv X pins σ H s) (hg : Gl X x) (hm : X.mg x = some u) (h : Q u s)
    (hd : (x == ("__debug__" : Str)) = false := by decide) : wpAny (model X.prog X.w) X.A (eval (.Name x pos) X.env) Q E s :=
  Calls.Name_function_global I.ok.kind hg (Calls.loadGlobal_global (by rw [I.ok.glob]; exact I.mod.glob.keeps I.bk) hm h) hd
theorem ld_blt {E : Value → Shared → Prop} {pins : List (Addr × Obj)} {s : Shared} {σ : St} {H : Hp} {x : Str} {u : Value} {pos : Pos} {Q : Value → Shared → Prop} (I : Inv X pins σ H s) (hg : Gl X x) (hm : X.mg x = none) (hv : bootBuiltins x = some u) (h : Q u s)
    (hn : x ≠ "__name__" := by decide) (hd : (x == ("__debug__" : Str)) = false := by decide) : wpAny (model X.prog X.w) X.A (eval (.Name x pos) X.env) Q E s := by
  obtain ⟨mb, h1, h2⟩ := I.mod.blt
  exact Calls.Name_function_global I.ok.kind hg (Calls.loadGlobal_builtin (by rw [I.ok.glob]; exact I.mod.glob.keeps I.bk) hm (by rw [I.ok.blt]; exact h1.keeps I.bk) ((h2 x hn).trans hv) h) hd
theorem pe_bltn {x : Str} {v : V} {u : Value} {pos : Pos} (hg : Gl X x) (hm : X.mg x = none) (hv : bootBuiltins x = some u) (r : RelV v u) (hn : x ≠ "__name__" := by decide) (hd : (x == ("__debug__" : Str)) = false := by decide) : PE X (.Name x pos) (tC v) :=
  fun _ _ _ H _ I h => ld_blt I hg hm hv ⟨v, H, I, r, h⟩ hn hd

variable {a b : Expr} {ta tb : TE} {pos : Pos}
/-! ### and, or, not -/
variable {tA tB' : TT} {rest : List Expr}
noncomputable def tAnd (t u : TT) : TT := fun σ H Q => t σ H fun c H1 => if c = true then u σ H1 Q else Q false H1
noncomputable def tOr (t u : TT) : TT := fun σ H Q => t σ H fun c H1 => if c = true then Q true H1 else u σ H1 Q
noncomputable def tNot (t : TT) : TT := fun σ H Q => t σ H fun c H1 => Q (!c) H1
theorem pw_and1 (ha : PT X a tA) : PW X (.BoolOp .And [a] pos) tA := by
  intro wh pins s σ H Q I h
  refine isTrue_and (thn (ha pins s σ H Q I h) fun c s1 e => ?_)
  cases c with
  | true => exact isTrue_and_nil e
  | false => exact e
theorem pw_or1 (ha : PT X a tA) : PW X (.BoolOp .Or [a] pos) tA := by
  intro wh pins s σ H Q I h
  refine isTrue_or (thn (ha pins s σ H Q I h) fun c s1 e => ?_)
  cases c with
  | false => exact isTrue_or_nil e
  | true => exact e
theorem pw_and (ha : PT X a tA) (hb : PW X (.BoolOp .And (b :: rest) pos) tB') : PW X (.BoolOp .And (a :: b :: rest) pos) (tAnd tA tB') := by
  intro wh pins s σ H Q I h
  refine isTrue_and (thn (ha pins s σ H _ I h) fun c s1 ⟨H1, I1, q1⟩ => ?_)
  cases c with
  | true => exact hb wh pins s1 σ H1 Q I1 q1
  | false => exact ⟨H1, I1, q1⟩
theorem pw_or (ha : PT X a tA) (hb : PW X (.BoolOp .Or (b :: rest) pos) tB') : PW X (.BoolOp .Or (a :: b :: rest) pos) (tOr tA tB') := by
  intro wh pins s σ H Q I h
  refine isTrue_or (thn (ha pins s σ H _ I h) fun c s1 ⟨H1, I1, q1⟩ => ?_)
  cases c with
  | true => exact ⟨H1, I1, q1⟩
  | false => exact hb wh pins s1 σ H1 Q I1 q1
theorem pt_not (ha : PT X a tA) : PT X (.UnaryOp .Not a pos) (tNot tA) := by
  intro pins s σ H Q I h
  exact isTrue_not (ha pins s σ H (fun c H1 => Q (!c) H1) I h)
/-- .. as values (bools) -/
noncomputable def tAndV (ta tb : TE) : TE := fun σ H Q => ta σ H fun x H1 => ∃ c, x = .bl c ∧ if c = true then tb σ H1 Q else Q (.bl false) H1
noncomputable def tOrV (ta tb : TE) : TE := fun σ H Q => ta σ H fun x H1 => ∃ c, x = .bl c ∧ if c = true then Q (.bl true) H1 else tb σ H1 Q
noncomputable def tNotV (ta : TE) : TE := fun σ H Q => ta σ H fun x H1 => ∃ c, x = .bl c ∧ Q (.bl (!c)) H1
theorem pe_one {op} {t : TE} (h : PE X a t) : PE X (.BoolOp op [a] pos) t := fun pins s σ H Q I hw => BoolOp_one (h pins s σ H Q I hw)
theorem pe_and (ha : PE X a ta) (hb : PE X (.BoolOp .And (b :: rest) pos) tb) : PE X (.BoolOp .And (a :: b :: rest) pos) (tAndV ta tb) := by
  intro pins s σ H Q I h
  refine BoolOp_and (thn (ha pins s σ H _ I h) fun v s1 ⟨x, H1, I1, r1, q1⟩ => ?_)
  obtain ⟨c, rfl, q1⟩ := q1
  cases r1
  refine wpAny_truthy_bool ?_
  cases c with
  | true => exact hb pins s1 σ H1 Q I1 q1
  | false => exact ⟨.bl false, H1, I1, rfl, q1⟩
theorem pe_or (ha : PE X a ta) (hb : PE X (.BoolOp .Or (b :: rest) pos) tb) : PE X (.BoolOp .Or (a :: b :: rest) pos) (tOrV ta tb) := by
  intro pins s σ H Q I h
  refine BoolOp_or (thn (ha pins s σ H _ I h) fun v s1 ⟨x, H1, I1, r1, q1⟩ => ?_)
  obtain ⟨c, rfl, q1⟩ := q1
  cases r1
  refine wpAny_truthy_bool ?_
  cases c with
  | false => exact hb pins s1 σ H1 Q I1 q1
  | true => exact ⟨.bl true, H1, I1, rfl, q1⟩
theorem pe_not (ha : PE X a ta) : PE X (.UnaryOp .Not a pos) (tNotV ta) := by
  intro pins s σ H Q I h
  refine UnaryOp_ (thn (ha pins s σ H _ I h) fun v s1 ⟨x, H1, I1, r1, q1⟩ => ?_)
  obtain ⟨c, rfl, q1⟩ := q1
  cases r1
  exact not_of (wpAny_truthy_bool ⟨.bl (!c), H1, I1, rfl, q1⟩)
end
end L2

namespace L2
open PySem PySem.Spec PyProof.Rows

/-! ### a list, a tuple that is read: tracked, frozen, or an object of the module -/
noncomputable def SqL (K : PySem.W.Frag) (H : Hp) (a : Addr) (xs : List V) : Prop :=
  Rd H a (.lst xs) ∨
    ∃ (o : Obj) (its : Array Value) (n : Nat), K.lookup a = some o ∧ o.cls = .type "list" ∧ o.dict = none ∧ o.data = .seq its n ∧ its.size ≤ sizeLine ∧ Vals xs its.toList
noncomputable def SqT (K : PySem.W.Frag) (H : Hp) (a : Addr) (xs : List V) : Prop :=
  Rd H a (.tup xs) ∨
    ∃ (o : Obj) (its : Array Value) (n : Nat), K.lookup a = some o ∧ o.cls = .type "tuple" ∧ o.dict = none ∧ o.data = .seq its n ∧ its.size ≤ sizeLine ∧ Vals xs its.toList
noncomputable def absV : Value → Option V
  | .none => some .non
  | .bool b => some (.bl b)
  | .int i _ => some (.int i)
  | .str x _ => some (.str x)
  | .bytes b _ => some (.byt b)
  | .float b _ => some (.flt b)
  | .ref a => some (.ref a)
  | .type n => some (.ty n)
  | _ => none
theorem RelV.abs {x : V} {u : Value} (r : RelV x u) : absV u = some x := by
  cases x with
  | non => cases r; rfl
  | bl _ => cases r; rfl
  | int _ => obtain ⟨t, rfl⟩ := r; rfl
  | str _ => obtain ⟨t, rfl⟩ := r; rfl
  | byt _ => obtain ⟨t, rfl⟩ := r; rfl
  | flt _ => obtain ⟨t, rfl⟩ := r; rfl
  | ref _ => cases r; rfl
  | ty _ => cases r; rfl
theorem RelV.inj {x y : V} {u : Value} (r : RelV x u) (q : RelV y u) : x = y := Option.some.inj (r.abs.symm.trans q.abs)
theorem Vals.inj : ∀ {xs ys : List V} {us : List Value}, Vals xs us → Vals ys us → xs = ys
  | _, _, _, .nil, .nil => rfl
  | _, _, _, .cons r t, .cons r' t' => by rw [r.inj r', Vals.inj t t']
section
variable {X : Cx} {pins : List (Addr × Obj)} {σ : St} {H : Hp} {s : Shared} {a : Addr} {xs ys : List V}
theorem SqL.of {K : PySem.W.Frag} (h : H a = some (.lst xs)) : SqL K H a xs := .inl (.inl h)
theorem SqT.of {K : PySem.W.Frag} (h : H a = some (.tup xs)) : SqT K H a xs := .inl (.inl h)
theorem Inv.list (I : Inv X pins σ H s) (h : SqL X.K H a xs) : ∃ its : List Value, Vals xs its ∧ PlainL s.heap a its.toArray ∧ xs.length ≤ sizeLine := by
  rcases h with h | ⟨o, its, n, hk, hc, hd, hs, hz, r⟩
  · obtain ⟨z, its, n, r, e⟩ := h.ok I.hok
    exact ⟨its, r, ⟨_, n, e, rfl, rfl, rfl⟩, z⟩
  · refine ⟨its.toList, r, ⟨o, n, I.kIn a o hk, hc, hd, by simpa using hs⟩, ?_⟩
    have e := r.length
    simp only [Array.length_toList] at e
    omega
theorem Inv.tuple (I : Inv X pins σ H s) (h : SqT X.K H a xs) : ∃ its : List Value, Vals xs its ∧ IsTup s.heap a its.toArray ∧ xs.length ≤ sizeLine := by
  rcases h with h | ⟨o, its, n, hk, hc, _, hs, hz, r⟩
  · obtain ⟨z, its, r, p⟩ := h.ok I.hok
    exact ⟨its, r, p.tup, z⟩
  · refine ⟨its.toList, r, ⟨o, I.kIn a o hk, hc, n, by simpa using hs⟩, ?_⟩
    have e := r.length
    simp only [Array.length_toList] at e
    omega
theorem Inv.list_inj (I : Inv X pins σ H s) (h : SqL X.K H a xs) (h' : SqL X.K H a ys) : xs = ys := by
  obtain ⟨its, r, ⟨o, n, e, _, _, d⟩, _⟩ := I.list h
  obtain ⟨its', r', ⟨o', n', e', _, _, d'⟩, _⟩ := I.list h'
  rw [e] at e'; cases e'
  rw [d] at d'
  injection d' with d1 _
  have : its = its' := by simpa using congrArg Array.toList d1
  subst this
  exact r.inj r'
theorem Inv.tuple_inj (I : Inv X pins σ H s) (h : SqT X.K H a xs) (h' : SqT X.K H a ys) : xs = ys := by
  obtain ⟨its, r, ⟨o, e, _, n, d⟩, _⟩ := I.tuple h
  obtain ⟨its', r', ⟨o', e', _, n', d'⟩, _⟩ := I.tuple h'
  rw [e] at e'; cases e'
  rw [d] at d'
  injection d' with d1 _
  have : its = its' := by simpa using congrArg Array.toList d1
  subst this
  exact r.inj r'
end

/-! ### another wish about exceptions -/
noncomputable abbrev Cx.wish (X : Cx) (E : Value → Shared → Prop) : Cx := { X with xe := E }
/-- no exception leaves -/
noncomputable abbrev Cx.nox (X : Cx) : Cx := X.wish fun _ _ => False
theorem Cx.Ok.wish {X : Cx} (ok : X.Ok) (E : Value → Shared → Prop) : (X.wish E).Ok :=
  ⟨ok.mod, ok.kind, ok.glob, ok.blt, ok.above, ok.inj, ok.has, ok.cab, ok.hd, ok.frames, ok.stk, ok.exf, ok.bs, ok.bsz, ok.noex, ok.exfs, ok.funs, ok.frf⟩
theorem Cx.Ok.unwish {X : Cx} {E : Value → Shared → Prop} (ok : (X.wish E).Ok) : X.Ok :=
  ⟨ok.mod, ok.kind, ok.glob, ok.blt, ok.above, ok.inj, ok.has, ok.cab, ok.hd, ok.frames, ok.stk, ok.exf, ok.bs, ok.bsz, ok.noex, ok.exfs, ok.funs, ok.frf⟩
section
variable {X : Cx} {pins : List (Addr × Obj)} {σ : St} {H : Hp} {s : Shared} {E : Value → Shared → Prop}
theorem Inv.wish (I : Inv X pins σ H s) (E : Value → Shared → Prop) : Inv (X.wish E) pins σ H s := ⟨I.ok.wish E, I.os, I.bare, I.base, I.loc, I.cell, I.free, I.freeC, I.pin, I.hok, I.len⟩
theorem Inv.unwish (I : Inv (X.wish E) pins σ H s) : Inv X pins σ H s := ⟨I.ok.unwish, I.os, I.bare, I.base, I.loc, I.cell, I.free, I.freeC, I.pin, I.hok, I.len⟩
theorem SP.unwish {D : Ends} {f : Flow} {s' : Shared} (h : SP (X.wish E) pins D f s') : SP X pins D f s' := by
  cases f with
  | next => obtain ⟨σ', H', I, q⟩ := h; exact ⟨σ', H', I.unwish, q⟩
  | brk => obtain ⟨σ', H', I, q⟩ := h; exact ⟨σ', H', I.unwish, q⟩
  | cont => obtain ⟨σ', H', I, q⟩ := h; exact ⟨σ', H', I.unwish, q⟩
  | ret u => obtain ⟨v, σ', H', I, r, q⟩ := h; exact ⟨v, σ', H', I.unwish, r, q⟩
theorem PSs.nox {st : List Stmt} {t : TS} (h : PSs X.nox st t) : PSs X st t := fun pins s σ H D I hw =>
  wpAny_mono (h pins s σ H D (I.wish _) hw) (fun _ _ q => q.unwish) fun _ _ z => False.elim z
end

/-! ### blocks and small statements -/
section
variable {X : Cx} {st : Stmt} {rest : List Stmt} {t u : TS} {e : Expr} {te : TE} {pos : Pos}
noncomputable def tNext : TS := fun D σ H => D.nx σ H
noncomputable def tSeq (t u : TS) : TS := fun D σ H => t { D with nx := u D } σ H
theorem pss_nil : PSs X [] tNext := fun _ _ σ H _ I h => wpAny_execs_nil ⟨σ, H, I, h⟩
theorem pss_cons (h1 : PS X st t) (h2 : PSs X rest u) : PSs X (st :: rest) (tSeq t u) := by
  intro pins s σ H D I h
  refine wpAny_execs_cons (thn (h1 pins s σ H { D with nx := u D } I h) fun f s1 q => ?_)
  cases f with
  | next =>
    obtain ⟨σ', H', I', q⟩ := q
    exact h2 pins s1 σ' H' D I' q
  | ret v => exact q
  | brk => exact q
  | cont => exact q
/-- in a def's body nothing is shown -/
theorem Inv.quiet {pins : List (Addr × Obj)} {σ : St} {H : Hp} {s : Shared} (I : Inv X pins σ H s) : interactive X.env = false := by simp [interactive, I.ok.kind]
/-- an expression whose value is dropped -/
noncomputable def tDrop (te : TE) : TS := fun D σ H => te σ H fun _ H1 => D.nx σ H1
theorem ps_expr (he : PE X e te) (hs : swapsWith e none pos.line X.env = pure false := by rfl) : PS X (.Expr e pos) (tDrop te) := by
  intro pins s σ H D I h
  exact wpAny_Expr_any (thn (he pins s σ H _ I h) fun v s1 ⟨x, H1, I1, r1, q1⟩ => ⟨σ, H1, I1, q1⟩) I.quiet hs
noncomputable def tRet (te : TE) : TS := fun D σ H => te σ H D.rt
theorem ps_ret (he : PE X e te) : PS X (.Return (some e) pos) (tRet te) := by
  intro pins s σ H D I h
  exact wpAny_Return_some (thn (he pins s σ H _ I h) fun v s1 ⟨x, H1, I1, r1, q1⟩ => ⟨x, σ, H1, I1, r1, q1⟩)
noncomputable def tIfS (c : TT) (t u : TS) : TS := fun D σ H => c σ H fun b H1 => if b = true then t D σ H1 else u D σ H1
theorem ps_if {c : Expr} {a b : List Stmt} {tc : TT} (hc : PT X c tc) (ha : PSs X a t) (hb : PSs X b u) : PS X (.If c a b pos) (tIfS tc t u) := by
  intro pins s σ H D I h
  refine wpAny_If (thn (hc pins s σ H _ I h) fun d s1 ⟨H1, I1, q1⟩ => ?_)
  cases d with
  | true => exact ha pins s1 σ H1 D I1 q1
  | false => exact hb pins s1 σ H1 D I1 q1
end

/-! ### targets -/
noncomputable abbrev TG := V → St → Hp → (St → Hp → Prop) → Prop
noncomputable def PG (X : Cx) (target : Expr) (t : TG) : Prop :=
  ∀ (pins : List (Addr × Obj)) (s : Shared) (σ : St) (H : Hp) (v : V) (u : Value) (Q : St → Hp → Prop), Inv X pins σ H s → RelV v u → t v σ H Q →
    wpAny (model X.prog X.w) X.A (assign target X.env u) (fun _ s' => ∃ σ' H', Inv X pins σ' H' s' ∧ Q σ' H') X.xe s
section
variable {X : Cx} {pos : Pos}
noncomputable def gName (i : Nat) : TG := fun v σ H Q => Q (σ.set i (some v)) H
theorem pg_name {i : Nat} {x : Str} (hN : X.N.Nodup) (hi : X.N[i]? = some x) (hx : Loc X.env.scope x) (hf : X.fn x = true ∨ X.env.scope.names.lookup x = some .local := by first | exact .inl rfl | exact .inr rfl | assumption) : PG X (.Name x pos) (gName i) := by
  intro pins s σ H v u Q I r h
  exact wpAny_assign_Name (store_ok I hN hi hx r (fun s' I' => ⟨_, H, I', h⟩) hf)
/-- target = value -/
noncomputable def tAsg (te : TE) (g : TG) : TS := fun D σ H => te σ H fun x H1 => g x σ H1 D.nx
/-- name = value -/
theorem ps_set {i : Nat} {x : Str} {e : Expr} {te : TE} {pos' : Pos} (hN : X.N.Nodup) (hi : X.N[i]? = some x) (hx : Loc X.env.scope x) (he : PE X e te) (hs : swapsWith e (some (.Name x pos')) pos.line X.env = pure false := by rfl) (hf : X.fn x = true ∨ X.env.scope.names.lookup x = some .local := by first | exact .inl rfl | exact .inr rfl | assumption) :
    PS X (.Assign [.Name x pos'] e pos) (tAsg te (gName i)) := by
  intro pins s σ H D I h
  refine wpAny_Assign_Name (thn (he pins s σ H _ I h) fun v s1 ⟨y, H1, I1, r1, q1⟩ => ?_) hs
  exact store_ok I1 hN hi hx r1 (fun s2 I2 => ⟨_, H1, I2, q1⟩) hf
end

/-! ### while -/
section
variable {X : Cx} {pos : Pos}
end

/-! ### what a loop or a comprehension walks -/
/-- at turn i: it yields x (the heap may grow), or it stops -/
structure It where
  go : Nat → Hp → Prop
  yld : Nat → Hp → V → Hp → Prop
  stop : Nat → Hp → Prop
/-- the iterator's own objects may turn: they are not the frame's, not pinned, younger than the entry (or a comprehension's own) -/
noncomputable def FpOk (X : Cx) (pins : List (Addr × Obj)) (H : Hp) (b : Addr) : Prop :=
  H b = none ∧ b ≠ X.env.locals ∧ b ∉ X.fs ∧ (b ∈ X.ex ∨ X.s₀.heap.objs.size ≤ b) ∧ (∀ x c, X.env.cells.lookup x = some c → c ≠ b) ∧ ∀ p ∈ X.pn ++ pins, p.1 ≠ b
theorem Inv.fpOk {X : Cx} {pins : List (Addr × Obj)} {σ : St} {H H' : Hp} {s : Shared} {b : Addr} (I : Inv X pins σ H s) (hb : s.heap.objs.size ≤ b) (hn : H' b = none) : FpOk X pins H' b := by
  refine ⟨hn, Nat.ne_of_gt (Nat.lt_of_lt_of_le I.lt hb), I.nofs hb, .inr (Nat.le_trans I.sz hb), fun x c e z => ?_, fun p hp z => ?_⟩
  · obtain ⟨v, q⟩ := I.cell x c e
    exact absurd (Nat.lt_of_lt_of_le q.lt (by rw [z]; exact hb)) (Nat.lt_irrefl _)
  · exact absurd (Nat.lt_of_lt_of_le (Heap.lt_size (I.pin p hp).1) (by rw [z]; exact hb)) (Nat.lt_irrefl _)
structure Turn (P : Program) (w : World) (K : PySem.W.Frag) (tg : Expr) (J : It) (fp : List Addr) (it : Addr) (tn : Nat → Heap → Prop) : Prop where
  mem : it ∈ fp
  obj : ∀ i h, tn i h → ∀ b ∈ fp, ∃ o, h.get? b = some o ∧ ∀ v, o.data ≠ .cell v
  keep : ∀ i h h', tn i h → (∀ b ∈ fp, ∀ o, h.get? b = some o → h'.get? b = some o) → tn i h'
  item : ∀ (X : Cx), X.prog = P → X.w = w → X.K = K → X.calm = true → ∀ (i : Nat) (pins : List (Addr × Obj)) (s : Shared) (σ : St) (H : Hp) (E : Value → Shared → Prop), Inv X pins σ H s → (∀ b ∈ fp, FpOk X pins H b) → tn i s.heap → J.go i H →
    wpAny (model P w) X.A (pyNext (.ref it)) (fun r s1 => ∃ u, r = some u ∧
      wpAny (model P w) X.A (letOwnedTupleGo tg (.ref it) u) (fun _ s2 => ∃ x H', Inv X pins σ H' s2 ∧ RelV x u ∧ J.yld i H x H' ∧ tn (i + 1) s2.heap ∧ ∀ b ∈ fp, H' b = none) E s1) E s
  done : ∀ (X : Cx), X.prog = P → X.w = w → X.K = K → X.calm = true → ∀ (i : Nat) (pins : List (Addr × Obj)) (s : Shared) (σ : St) (H : Hp) (E : Value → Shared → Prop), Inv X pins σ H s → (∀ b ∈ fp, FpOk X pins H b) → tn i s.heap → J.stop i H →
    wpAny (model P w) X.A (pyNext (.ref it)) (fun r s1 => r = none ∧ Inv X pins σ H s1) E s
  self : ∀ (A : Around) (i : Nat) (s : Shared) (Q : Value → Shared → Prop) (E : Value → Shared → Prop), tn i s.heap → Q (.ref it) s → wpAny (model P w) A (pyIter (.ref it)) Q E s
noncomputable abbrev TI := St → Hp → (It → Hp → Prop) → Prop
/-- an iterator has come -/
noncomputable def PIE (X : Cx) (pins : List (Addr × Obj)) (σ : St) (tg : Expr) (R : It → Hp → Prop) (itv : Value) (s2 : Shared) : Prop :=
  ∃ (it : Addr) (fp : List Addr) (tn : Nat → Heap → Prop) (J : It) (H' : Hp), itv = .ref it ∧ Inv X pins σ H' s2 ∧ Turn X.prog X.w X.K tg J fp it tn ∧ tn 0 s2.heap ∧ (∀ b ∈ fp, FpOk X pins H' b) ∧ R J H'
noncomputable def PI (X : Cx) (tg iter : Expr) (wi : TI) : Prop :=
  ∀ (pins : List (Addr × Obj)) (s : Shared) (σ : St) (H : Hp) (R : It → Hp → Prop), Inv X pins σ H s → wi σ H R →
    wpAny (model X.prog X.w) X.A (eval iter X.env) (fun v s1 => wpAny (model X.prog X.w) X.A (pyIter v) (PIE X pins σ tg R) X.xe s1) X.xe s

/-- the step ahead of the store is nothing for an iterator that keeps no tuple -/
theorem go_of {M : Model} {A : Around} {E : Value → Shared → Prop} {s : Shared} {tg : Expr} {it : Addr} {u : Value} {o : Obj} {n : String} {vs : Array Value} {Q : Unit → Shared → Prop} (ho : s.heap.get? it = some o) (hc : o.cls = .type n) (hd : o.data = .fields vs)
    (hn : ["enumerate", "zip", "dict_itemiterator", "dict_reverseitemiterator", "odict_iterator", "itertools.zip_longest", "itertools.pairwise"].contains n = false) (hQ : Q () s) : wpAny M A (letOwnedTupleGo tg (.ref it) u) Q E s := by
  unfold letOwnedTupleGo
  cases tg <;> first
    | exact wpAny_pure hQ
    | (cases u <;> first
        | exact wpAny_pure hQ
        | (refine wpAny_bind (wpAny_load ho ?_)
           rw [hc, hd]
           show wpAny M A (if (["enumerate", "zip", "dict_itemiterator", "dict_reverseitemiterator", "odict_iterator", "itertools.zip_longest", "itertools.pairwise"].contains n && vs[0]? == some (rawInt _)) = true then _ else _) Q E s
           rw [if_neg (by intro h; rw [hn, Bool.false_and] at h; cases h)]
           exact wpAny_pure hQ))

/-- the list at a, as it stands at each turn (a loop may append to it) -/
noncomputable def Itl (K : PySem.W.Frag) (a : Addr) : It :=
  ⟨fun i H => ∃ xs x, SqL K H a xs ∧ xs[i]? = some x, fun i H x H' => H' = H ∧ ∀ xs, SqL K H a xs → xs[i]? = some x, fun i H => ∃ xs, SqL K H a xs ∧ xs.length ≤ i⟩
noncomputable def Itt (K : PySem.W.Frag) (a : Addr) : It :=
  ⟨fun i H => ∃ xs x, SqT K H a xs ∧ xs[i]? = some x, fun i H x H' => H' = H ∧ ∀ xs, SqT K H a xs → xs[i]? = some x, fun i H => ∃ xs, SqT K H a xs ∧ xs.length ≤ i⟩
/-- lo, lo + 1, .. (n of them) -/
noncomputable def Itr (lo : Int) (n : Nat) : It := ⟨fun i _ => i < n, fun i H x H' => H' = H ∧ x = .int (lo + i), fun i _ => n ≤ i⟩
theorem turn_list {P : Program} {w : World} {K : PySem.W.Frag} {tg : Expr} (a it : Addr) : Turn P w K tg (Itl K a) [it] it (fun i h => h.IsListIter it a i) where
  mem := by simp
  obj := fun i h st b hb => by
    have e : b = it := by simpa using hb
    subst e
    obtain ⟨o, e, c, d⟩ := st
    exact ⟨o, e, fun v z => by rw [d] at z; cases z⟩
  keep := fun i h h' st k => st.at fun o e => k it (by simp) o e
  item := by
    intro X hP hw hK hc i pins s σ H E I hf st hg
    subst hP hw hK
    obtain ⟨xs, x, hq, hx⟩ := hg
    obtain ⟨its, rv, p, hz⟩ := I.list hq
    obtain ⟨u, hu, ru⟩ := rv.get hx
    obtain ⟨f0, f1, f2, f3, f4, f5⟩ := hf it (by simp)
    refine wpAny_pyNext_list_item st p.isList (x := u) (by simpa using hu) fun h' st' sb => ?_
    have I1 : Inv X pins σ H { s with heap := h' } := I.turned (t' := s.toks) (fun b o hb e => (sb.2 b hb).trans e) f0 f1 f3 f4 f5
    obtain ⟨o, e, c, d⟩ := id st'
    exact ⟨u, rfl, go_of (s := { s with heap := h' }) e c d (by decide) ⟨x, H, I1, ru, ⟨rfl, fun ys hy => by rw [I.list_inj hy hq]; exact hx⟩, st', fun b hb => (hf b hb).1⟩⟩
  done := by
    intro X hP hw hK hc i pins s σ H E I hf st hg
    subst hP hw hK
    obtain ⟨xs, hq, hx⟩ := hg
    obtain ⟨its, rv, p, hz⟩ := I.list hq
    obtain ⟨f0, f1, f2, f3, f4, f5⟩ := hf it (by simp)
    have hl := rv.length
    exact wpAny_pyNext_list_end (I.ok.hd hc) st p.isList (by simp; omega) fun h' eb => ⟨rfl, I.turned (t' := s.toks) (fun b o hb e => eb b o hb e) f0 f1 f3 f4 f5⟩
  self := fun _ _ _ _ _ st h => wpAny_pyIter_listiter st h
theorem turn_tuple {P : Program} {w : World} {K : PySem.W.Frag} {tg : Expr} (a it : Addr) : Turn P w K tg (Itt K a) [it] it (fun i h => h.IsTupleIter it a i) where
  mem := by simp
  obj := fun i h st b hb => by
    have e : b = it := by simpa using hb
    subst e
    obtain ⟨o, e, c, d⟩ := st
    exact ⟨o, e, fun v z => by rw [d] at z; cases z⟩
  keep := fun i h h' st k => st.at fun o e => k it (by simp) o e
  item := by
    intro X hP hw hK hc i pins s σ H E I hf st hg
    subst hP hw hK
    obtain ⟨xs, x, hq, hx⟩ := hg
    obtain ⟨its, rv, p, hz⟩ := I.tuple hq
    obtain ⟨u, hu, ru⟩ := rv.get hx
    obtain ⟨f0, f1, f2, f3, f4, f5⟩ := hf it (by simp)
    refine wpAny_pyNext_tuple_item st (show s.heap.IsTuple a its.toArray from p) (x := u) (by simpa using hu) fun h' st' sb => ?_
    have I1 : Inv X pins σ H { s with heap := h' } := I.turned (t' := s.toks) (fun b o hb e => (sb.2 b hb).trans e) f0 f1 f3 f4 f5
    obtain ⟨o, e, c, d⟩ := id st'
    exact ⟨u, rfl, go_of (s := { s with heap := h' }) e c d (by decide) ⟨x, H, I1, ru, ⟨rfl, fun ys hy => by rw [I.tuple_inj hy hq]; exact hx⟩, st', fun b hb => (hf b hb).1⟩⟩
  done := by
    intro X hP hw hK hc i pins s σ H E I hf st hg
    subst hP hw hK
    obtain ⟨xs, hq, hx⟩ := hg
    obtain ⟨its, rv, p, hz⟩ := I.tuple hq
    obtain ⟨f0, f1, f2, f3, f4, f5⟩ := hf it (by simp)
    have hl := rv.length
    exact wpAny_pyNext_tuple_end (I.ok.hd hc) st (show s.heap.IsTuple a its.toArray from p) (by simp; omega) fun h' eb => ⟨rfl, I.turned (t' := s.toks) (fun b o hb e => eb b o hb e) f0 f1 f3 f4 f5⟩
  self := fun _ _ _ _ _ st h => wpAny_pyIter_tupleiter st h
theorem turn_range {P : Program} {w : World} {K : PySem.W.Frag} {tg : Expr} (it : Addr) (lo : Int) (n : Nat) : Turn P w K tg (Itr lo n) [it] it (fun i h => IsRangeIter h it (lo + (i : Nat) * 1) ((n : Int) - (i : Nat)) 1) where
  mem := by simp
  obj := fun i h st b hb => by
    have e : b = it := by simpa using hb
    subst e
    exact ⟨_, st, fun v z => by
      have z' : Data.fields _ = Data.cell v := z
      cases z'⟩
  keep := fun i h h' st k => k it (by simp) _ st
  item := by
    intro X hP hw hK hc i pins s σ H E I hf st hg
    subst hP hw hK
    obtain ⟨f0, f1, f2, f3, f4, f5⟩ := hf it (by simp)
    have W := Walks.range (prog := X.prog) (w := X.w) (I.ok.hd hc) it lo 1 n
    refine W.item i s _ _ hg st fun v h' tk hv st' kk => ?_
    obtain ⟨t, rfl⟩ := hv
    have I1 : Inv X pins σ H { s with heap := h', toks := tk } := I.turned (fun b o hb e => kk b o (by simpa using hb) e) f0 f1 f3 f4 f5
    refine ⟨_, rfl, go_of (s := { s with heap := h', toks := tk }) (n := "range_iterator") st' rfl rfl (by decide) ⟨.int (lo + i), H, I1, ⟨t, ?_⟩, ⟨rfl, rfl⟩, st', fun b hb => (hf b hb).1⟩⟩
    rw [Int.mul_one]
  done := by
    intro X hP hw hK hc i pins s σ H E I hf st hg
    subst hP hw hK
    obtain ⟨f0, f1, f2, f3, f4, f5⟩ := hf it (by simp)
    exact wpAny_pyNext_range_end (I.ok.hd hc) st (by have : n ≤ i := hg; omega) fun h' eb => ⟨rfl, I.turned (t' := s.toks) (fun b o hb e => eb b o hb e) f0 f1 f3 f4 f5⟩
  self := fun _ _ _ _ _ st h => wpAny_pyIter_rangeiter st h
end L2

namespace L2
open PySem PySem.Spec PyProof.Rows
section
variable {X : Cx} {tg : Expr}
/-- a range object just made, walked -/
theorem range_it {pins : List (Addr × Obj)} {σ : St} {H : Hp} {s : Shared} {R : It → Hp → Prop} {E : Value → Shared → Prop} {lo hi : Int} {t u v : Tok} {tk : Nat} (I : Inv X pins σ H s) (h1 : -(2 ^ 62) ≤ lo) (h2 : lo < 2 ^ 62) (h3 : -(2 ^ 62) ≤ hi) (h4 : hi < 2 ^ 62)
    (q : R (Itr lo (hi - lo).toNat) H) : wpAny (model X.prog X.w) X.A (pyIter (.ref s.heap.objs.size)) (PIE X pins σ tg R) E { s with heap := s.heap.push { cls := .type "range", data := .fields #[.int lo t, .int hi u, .int 1 v] }, toks := tk } := by
  refine wpAny_pyIter_range (IsRange.new ..) (small_one h1 h2 h3 h4) ?_
  have I1 : Inv X pins σ H { s with heap := s.heap.push { cls := .type "range", data := .fields #[.int lo t, .int hi u, .int 1 v] }, toks := tk } := I.kept fun b o e => Heap.get?_push_of_some _ e
  refine ⟨(s.heap.push { cls := .type "range", data := .fields #[.int lo t, .int hi u, .int 1 v] }).objs.size, [(s.heap.push { cls := .type "range", data := .fields #[.int lo t, .int hi u, .int 1 v] }).objs.size], _, _, H, rfl,
    I1.kept (t' := tk) fun b o e => Heap.get?_push_of_some _ e, turn_range _ lo (hi - lo).toNat, ?_, fun b hb => ?_, q⟩
  · have e1 : lo + ((0 : Nat) : Int) * 1 = lo := by simp
    have e2 : (((hi - lo).toNat : Nat) : Int) - ((0 : Nat) : Int) = Builtin.Range.rangeSize lo hi 1 := by rw [rangeSize_one]; split <;> omega
    show IsRangeIter _ _ (lo + ((0 : Nat) : Int) * 1) ((((hi - lo).toNat : Nat) : Int) - ((0 : Nat) : Int)) 1
    rw [e1, e2]
    exact Heap.get?_push_size _ rfl
  · have e : b = (s.heap.push { cls := .type "range", data := .fields #[.int lo t, .int hi u, .int 1 v] }).objs.size := by simpa using hb
    subst e
    exact I1.fpOk (Nat.le_refl _) (I1.hok.fresh (Nat.le_refl _))
noncomputable def iRng1 (ta : TA) : TI := fun σ H R => ta σ H fun vs H1 => ∃ j : Int, vs = [.int j] ∧ -(2 ^ 62) ≤ j ∧ j < 2 ^ 62 ∧ R (Itr 0 j.toNat) H1
theorem pi_range1 {a : Expr} {ta : TA} {p pos : Pos} (hg : Gl X "range") (hm : X.mg "range" = none) (ha : PA X [a] ta) (hs : starEach [a] X.env = [(false, eval a X.env)] := by rfl) : PI X tg (.Call (.Name "range" p) [a] [] pos) (iRng1 ta) := by
  intro pins s σ H R I h
  refine Call_ (ld_blt I hg hm boot_range (PyProof.Rows.callWith_type1 (thn (ha pos pins s σ H _ I h) fun us s1 ⟨vs, H1, I1, r1, q1⟩ => ?_) hs rfl))
  obtain ⟨j, e, q1, q2, q⟩ := q1
  subst e
  cases r1 with
  | cons r rr =>
    cases rr
    obtain ⟨t, rfl⟩ := r
    exact call_range_1 (range_it I1 (by omega) (by omega) q1 q2 (by simpa using q))
/-! ### for -/
/-- W: the invariant by the turn and a measure; N: what the body is to reach -/
noncomputable def tFor (wi : TI) (g : TG) (tb : TS) : TS := fun D σ H => wi σ H fun J H1 => ∃ W : Nat → Nat → St → Hp → Prop, (∃ m, W 0 m σ H1) ∧ ∀ i m σ H, W i m σ H →
  (J.stop i H ∧ D.nx σ H) ∨ (J.go i H ∧ ∃ N : St → Hp → Prop, (∀ σ' H', N σ' H' → ∃ m', m' < m ∧ W (i + 1) m' σ' H') ∧ ∀ x H', J.yld i H x H' → g x σ H' fun σ2 H2 => tb { D with nx := N, ct := N, bk := D.nx } σ2 H2)
/-- the records at fp as they stand -/
noncomputable def pinsAt (fp : List Addr) (h : Heap) : List (Addr × Obj) := fp.filterMap fun b => (h.get? b).map fun o => (b, o)
theorem mem_pinsAt {fp : List Addr} {h : Heap} {b : Addr} {o : Obj} (hb : b ∈ fp) (e : h.get? b = some o) : (b, o) ∈ pinsAt fp h := List.mem_filterMap.mpr ⟨b, hb, by rw [e]; rfl⟩
theorem of_pinsAt {fp : List Addr} {h : Heap} {p : Addr × Obj} (hp : p ∈ pinsAt fp h) : p.1 ∈ fp ∧ h.get? p.1 = some p.2 := by
  obtain ⟨b, hb, e⟩ := List.mem_filterMap.mp hp
  cases q : h.get? b with
  | none => rw [q] at e; cases e
  | some o =>
    rw [q] at e
    have e' : (b, o) = p := Option.some.inj e
    subst e'
    exact ⟨hb, q⟩
theorem Inv.pinned {pins : List (Addr × Obj)} {σ : St} {H : Hp} {s : Shared} {fp : List Addr} (I : Inv X pins σ H s) (hf : ∀ b ∈ fp, FpOk X pins H b) (ho : ∀ b ∈ fp, ∃ o, s.heap.get? b = some o ∧ ∀ v, o.data ≠ .cell v) : Inv X (pins ++ pinsAt fp s.heap) σ H s :=
  I.pins_of fun p hp => (List.mem_append.mp hp).elim (fun z => I.pin p (List.mem_append_right _ z)) fun z => by
    obtain ⟨hb, e⟩ := of_pinsAt z
    obtain ⟨f0, f1, f2, _⟩ := hf p.1 hb
    obtain ⟨o, e', d⟩ := ho p.1 hb
    rw [e] at e'; cases e'
    exact ⟨e, f0, f1, f2, d⟩
theorem Inv.unpinned {pins pl : List (Addr × Obj)} {σ : St} {H : Hp} {s : Shared} (I : Inv X (pins ++ pl) σ H s) : Inv X pins σ H s := I.pins_of fun p hp => I.pin p (List.mem_append_right _ (List.mem_append_left _ hp))
theorem ps_for {iter : Expr} {body : List Stmt} {wi : TI} {g : TG} {tb : TS} {pos : Pos} (hp : PassesOwn (model X.prog X.w) X.A X.env X.xe) (hc : X.calm = true) (hi : PI X tg iter wi) (hg : PG X tg g) (hb : PSs X body tb)
    (hs : ∀ x, foldedSetIterable iter X.env x = pure x := by intro _; rfl) : PS X (.For tg iter body [] pos) (tFor wi g tb) := by
  intro pins s σ H D I h
  refine wpAny_For (thn (hi pins s σ H _ I h) fun v s1 h1 => thn h1 fun itv s2 h2 => ?_) hs
  obtain ⟨it, fp, tn, J, H2, e, I2, T, st2, f2, W, ⟨m0, w0⟩, turn⟩ := h2
  subst e
  -- what stays true of the iterator's objects through the loop
  have stat : ∀ {H' : Hp}, (∀ b ∈ fp, H' b = none) → ∀ b ∈ fp, FpOk X pins H' b := fun hn b hb => ⟨hn b hb, (f2 b hb).2⟩
  refine codeAny_forLoop_any (fun n s' => ∃ i σ' H', Inv X pins σ' H' s' ∧ tn i s'.heap ∧ (∀ b ∈ fp, H' b = none) ∧ W i n σ' H') ?_ m0 ⟨0, σ, H2, I2, st2, fun b hb => (f2 b hb).1, w0⟩
  rintro n s3 ⟨i, σ3, H3, I3, st3, fr3, w3⟩
  rcases turn i n σ3 H3 w3 with ⟨stop, qn⟩ | ⟨go, N, hN, step⟩
  · refine wpAny_passesOwn hp (thn (T.done X rfl rfl rfl hc i pins s3 σ3 H3 X.xe I3 (stat fr3) st3 stop) fun r s4 ⟨hr, I4⟩ => ?_)
    subst hr
    exact wpAny_execs_nil ⟨σ3, H3, I4, qn⟩
  · refine wpAny_passesOwn hp (thn (T.item X rfl rfl rfl hc i pins s3 σ3 H3 X.xe I3 (stat fr3) st3 go) fun r s4 ⟨u, hr, h4⟩ => ?_)
    subst hr
    refine wpAny_passesOwn hp (thn h4 fun _ s5 ⟨x, H5, I5, r5, y5, st5, fr5⟩ => ?_)
    have I5' := I5.pinned (stat fr5) (T.obj _ _ st5)
    refine wpAny_passesOwn hp (thn (hg _ s5 σ3 H5 x u _ I5' r5 (step x H5 y5)) fun _ s6 ⟨σ6, H6, I6, q6⟩ => ?_)
    refine wpAny_passesOwn hp (thn (hb _ s6 σ6 H6 _ I6 q6) fun f s7 q7 => ?_)
    have again : ∀ {σ7 : St} {H7 : Hp}, Inv X (pins ++ pinsAt fp s5.heap) σ7 H7 s7 → N σ7 H7 → ∃ m, m < n ∧ ∃ i σ' H', Inv X pins σ' H' s7 ∧ tn i s7.heap ∧ (∀ b ∈ fp, H' b = none) ∧ W i m σ' H' := fun {σ7 H7} I7 n7 => by
      obtain ⟨m', hm, w7⟩ := hN σ7 H7 n7
      refine ⟨m', hm, i + 1, σ7, H7, I7.unpinned, T.keep _ _ _ st5 fun b hb o e => (I7.pin (b, o) (List.mem_append_right _ (List.mem_append_right _ (mem_pinsAt hb e)))).1, fun b hb => ?_, w7⟩
      obtain ⟨o, e, d⟩ := T.obj _ _ st5 b hb
      exact (I7.pin (b, o) (List.mem_append_right _ (List.mem_append_right _ (mem_pinsAt hb e)))).2.1
    cases f with
    | next => obtain ⟨σ7, H7, I7, n7⟩ := q7; exact again I7 n7
    | cont => obtain ⟨σ7, H7, I7, n7⟩ := q7; exact again I7 n7
    | brk => obtain ⟨σ7, H7, I7, q7⟩ := q7; exact ⟨σ7, H7, I7.unpinned, q7⟩
    | ret v => obtain ⟨x7, σ7, H7, I7, r7, q7⟩ := q7; exact ⟨x7, σ7, H7, I7.unpinned, r7, q7⟩
end

end L2

namespace L2
open PySem PySem.Spec PyProof.Rows

noncomputable abbrev R2 := V → V → Hp → VK → Prop
/-- a two-place operation on values: f is binaryOp op, inplaceOp op or compareOp op -/
noncomputable def OpR (X : Cx) (f : Value → Value → Sem Value) (r : R2) : Prop :=
  ∀ (pins : List (Addr × Obj)) (s : Shared) (σ : St) (H : Hp) (x y : V) (v u : Value) (Q : VK), Inv X pins σ H s → RelV x v → RelV y u → r x y H Q →
    wpAny (model X.prog X.w) X.A (f v u) (EP X pins σ Q) X.xe s
/-- a call of a value that is known (a builtin, a type) with values -/
noncomputable def CallR (X : Cx) (f : Value) (r : List V → Hp → VK → Prop) : Prop :=
  ∀ (pins : List (Addr × Obj)) (s : Shared) (σ : St) (H : Hp) (xs : List V) (us : List Value) (Q : VK), Inv X pins σ H s → Vals xs us → r xs H Q →
    wpAny (model X.prog X.w) X.A (call f us) (EP X pins σ Q) X.xe s
/-- a value's truth -/
noncomputable def TruR (X : Cx) (r : V → Hp → (Bool → Hp → Prop) → Prop) : Prop :=
  ∀ (pins : List (Addr × Obj)) (s : Shared) (σ : St) (H : Hp) (x : V) (v : Value) (Q : Bool → Hp → Prop), Inv X pins σ H s → RelV x v → r x H Q →
    wpAny (model X.prog X.w) X.A (truthy v) (TP X pins σ Q) X.xe s

noncomputable def tOp (r : R2) (ta tb : TE) : TE := fun σ H Q => ta σ H fun x H1 => tb σ H1 fun y H2 => r x y H2 Q
/-- ints in, under C, and a value out -/
noncomputable def rI (C : Int → Int → Prop) (g : Int → Int → V) : R2 := fun x y H Q => ∃ i j, x = .int i ∧ y = .int j ∧ C i j ∧ Q (g i j) H
noncomputable def rI0 (g : Int → Int → V) : R2 := fun x y H Q => ∃ i j, x = .int i ∧ y = .int j ∧ Q (g i j) H
section
variable {X : Cx} {a b c : Expr} {ta tb tc : TE} {pos : Pos}

theorem binT (ha : PE X a ta) (hb : PE X b tb) {pins : List (Addr × Obj)} {s : Shared} {σ : St} {H : Hp} {R : V → V → Hp → Prop} (I : Inv X pins σ H s)
    (h : ta σ H fun x H1 => tb σ H1 fun y H2 => R x y H2) {Q : Value → Shared → Prop} {f : Value → Value → Sem Value}
    (hf : ∀ v u s2 x y H2, Inv X pins σ H2 s2 → RelV x v → RelV y u → R x y H2 → wpAny (model X.prog X.w) X.A (f v u) Q X.xe s2) :
    wpAny (model X.prog X.w) X.A (eval a X.env) (fun v s₁ => wpAny (model X.prog X.w) X.A (eval b X.env) (fun u s₂ => wpAny (model X.prog X.w) X.A (f v u) Q X.xe s₂) X.xe s₁) X.xe s := by
  refine thn (ha pins s σ H _ I h) fun v s1 ⟨x, H1, I1, r1, q1⟩ => ?_
  refine thn (hb pins s1 σ H1 _ I1 q1) fun u s2 ⟨y, H2, I2, r2, q2⟩ => ?_
  exact hf v u s2 x y H2 I2 r1 r2 q2

theorem pe_op {op : Operator} {r : R2} (ho : OpR X (binaryOp op) r) (ha : PE X a ta) (hb : PE X b tb) : PE X (.BinOp a op b pos) (tOp r ta tb) := by
  intro pins s σ H Q I h
  exact wpAny_BinOp (binT ha hb I h fun v u s2 x y H2 I2 rx ry q => ho pins s2 σ H2 x y v u Q I2 rx ry q)
/-! ### ints -/
theorem opI {f : Value → Value → Sem Value} {C : Int → Int → Prop} {g : Int → Int → Int}
    (rule : ∀ (i j : Int) (t u : Tok) (s : Shared) (Q : Value → Shared → Prop) (E : Value → Shared → Prop), C i j → Q (.int (g i j) s.toks) { s with toks := s.toks + 1 } → wpAny (model X.prog X.w) X.A (f (.int i t) (.int j u)) Q E s) :
    OpR X f (rI C fun i j => .int (g i j)) := by
  intro pins s σ H x y v u Q I rx ry h
  obtain ⟨i, j, rfl, rfl, hc, q⟩ := h
  obtain ⟨t, rfl⟩ := rx
  obtain ⟨t', rfl⟩ := ry
  exact rule i j t t' s _ _ hc ⟨.int (g i j), H, I.tok _, ⟨_, rfl⟩, q⟩
theorem opI0 {f : Value → Value → Sem Value} {g : Int → Int → Int}
    (rule : ∀ (i j : Int) (t u : Tok) (s : Shared) (Q : Value → Shared → Prop) (E : Value → Shared → Prop), Q (.int (g i j) s.toks) { s with toks := s.toks + 1 } → wpAny (model X.prog X.w) X.A (f (.int i t) (.int j u)) Q E s) :
    OpR X f (rI0 fun i j => .int (g i j)) := by
  intro pins s σ H x y v u Q I rx ry h
  obtain ⟨i, j, rfl, rfl, q⟩ := h
  obtain ⟨t, rfl⟩ := rx
  obtain ⟨t', rfl⟩ := ry
  exact rule i j t t' s _ _ ⟨.int (g i j), H, I.tok _, ⟨_, rfl⟩, q⟩
theorem opB0 {f : Value → Value → Sem Value} {g : Int → Int → Bool}
    (rule : ∀ (i j : Int) (t u : Tok) (s : Shared) (Q : Value → Shared → Prop) (E : Value → Shared → Prop), Q (.bool (g i j)) s → wpAny (model X.prog X.w) X.A (f (.int i t) (.int j u)) Q E s) :
    OpR X f (rI0 fun i j => .bl (g i j)) := by
  intro pins s σ H x y v u Q I rx ry h
  obtain ⟨i, j, rfl, rfl, q⟩ := h
  obtain ⟨t, rfl⟩ := rx
  obtain ⟨t', rfl⟩ := ry
  exact rule i j t t' s _ _ ⟨.bl (g i j), H, I, rfl, q⟩

noncomputable def CDiv (i j : Int) : Prop := 0 < j ∧ j < 1073741824
noncomputable def CPow (i j : Int) : Prop := 0 ≤ j ∧ j ≤ 1000000 ∧ i.natAbs < 2 ^ 64
theorem op_add : OpR X (binaryOp .Add) (rI0 fun i j => .int (i + j)) := opI0 fun _ _ _ _ _ _ _ q => add_int q
/-- // by a positive divisor -/
theorem op_fdiv : OpR X (binaryOp .FloorDiv) (rI CDiv fun i j => .int (i / j)) := opI fun i j _ _ _ _ _ hc q => by
  have h1 : (0 : Int) < j := hc.1
  have h2 : j < 1073741824 := hc.2
  exact floordiv_int (by omega) (by rw [Int.fdiv_eq_ediv_of_nonneg i (by omega)]; exact q) (.inl (PyProof.noPylong_small (by omega)))
/-- % by a positive divisor of any size -/
theorem op_mod : OpR X (binaryOp .Mod) (rI (fun _ j => 0 < j) fun i j => .int (i % j)) := opI fun i j _ _ _ _ _ hc q => by
  have h1 : (0 : Int) < j := hc
  exact mod_int' (by omega) (by rw [Int.fmod_eq_emod_of_nonneg i (by omega)]; exact q)
theorem op_pow : OpR X (binaryOp .Pow) (rI CPow fun i j => .int (i ^ j.toNat)) := opI fun _ _ _ _ _ _ _ hc q => pow_int_small hc.1 hc.2.1 hc.2.2 q
end

/-! ### comparisons -/
/-- the scalars that == tells apart as data does -/
noncomputable def scal : V → V → Bool
  | .non, .non => true | .non, .int _ => true | .int _, .non => true | .non, .bl _ => true | .bl _, .non => true | .non, .str _ => true | .str _, .non => true
  | .int _, .int _ => true | .bl _, .bl _ => true | .str _, .str _ => true | .byt _, .byt _ => true
  | .int _, .str _ => true | .str _, .int _ => true | .bl _, .str _ => true | .str _, .bl _ => true
  | _, _ => false
noncomputable def rEq : R2 := fun x y H Q => scal x y = true ∧ Q (.bl (decide (x = y))) H
noncomputable def rNe : R2 := fun x y H Q => scal x y = true ∧ Q (.bl (!decide (x = y))) H

theorem dec_int {i j : Int} : decide (V.int i = V.int j) = (i == j) := by
  rw [Bool.eq_iff_iff]
  simp
theorem dec_bl {i j : Bool} : decide (V.bl i = V.bl j) = (i == j) := by
  rw [Bool.eq_iff_iff]
  simp
theorem dec_str {i j : Str} : decide (V.str i = V.str j) = (i == j) := by
  rw [Bool.eq_iff_iff]
  simp
theorem dec_byt {i j : Array UInt8} : decide (V.byt i = V.byt j) = (i.toList == j.toList) := by
  rw [Bool.eq_iff_iff]
  cases i
  cases j
  simp

section
variable {X : Cx} {a b c : Expr} {ta tb tc : TE} {pos : Pos}
theorem fin_bl {pins : List (Addr × Obj)} {σ : St} {H : Hp} {s : Shared} {Q : VK} {k k' : Bool} (I : Inv X pins σ H s) (q : Q (.bl k) H) (e : k = k') : EP X pins σ Q (.bool k') s := by
  subst e
  exact ⟨.bl k, H, I, rfl, q⟩
theorem op_eq : OpR X (compareOp .Eq) rEq := by
  intro pins s σ H x y v u Q I rx ry h
  obtain ⟨hs, q⟩ := h
  cases x with
  | non =>
    cases rx
    cases y with
    | non => cases ry; exact PySem.EqNone.eq_none_none (fin_bl I q (by simp))
    | bl j => cases ry; exact PySem.EqNone.eq_none_bool (fin_bl I q (by simp))
    | int j => obtain ⟨t', rfl⟩ := ry; exact PySem.EqNone.eq_none_int (fin_bl I q (by simp))
    | str j => obtain ⟨t', rfl⟩ := ry; exact PySem.EqNone.eq_none_str (fin_bl I q (by simp))
    | _ => exact absurd (show false = true from hs) Bool.false_ne_true
  | bl i =>
    cases rx
    cases y with
    | non => cases ry; exact PySem.EqNone.eq_bool_none (fin_bl I q (by simp))
    | bl j => cases ry; exact eq_bool (fin_bl I q dec_bl)
    | str j => obtain ⟨t', rfl⟩ := ry; exact PySem.EqMixed.eq_bool_str (fin_bl I q (by simp))
    | _ => exact absurd (show false = true from hs) Bool.false_ne_true
  | int i =>
    obtain ⟨t, rfl⟩ := rx
    cases y with
    | non => cases ry; exact PySem.EqNone.eq_int_none (fin_bl I q (by simp))
    | int j => obtain ⟨t', rfl⟩ := ry; exact eq_int (fin_bl I q dec_int)
    | str j => obtain ⟨t', rfl⟩ := ry; exact PySem.EqMixed.eq_int_str (fin_bl I q (by simp))
    | _ => exact absurd (show false = true from hs) Bool.false_ne_true
  | str i =>
    obtain ⟨t, rfl⟩ := rx
    cases y with
    | non => cases ry; exact PySem.EqNone.eq_str_none (fin_bl I q (by simp))
    | bl j => cases ry; exact PySem.EqMixed.eq_str_bool (fin_bl I q (by simp))
    | int j => obtain ⟨t', rfl⟩ := ry; exact PySem.EqMixed.eq_str_int (fin_bl I q (by simp))
    | str j => obtain ⟨t', rfl⟩ := ry; exact eq_str (fin_bl I q dec_str)
    | _ => exact absurd (show false = true from hs) Bool.false_ne_true
  | byt i =>
    obtain ⟨t, rfl⟩ := rx
    cases y with
    | byt j => obtain ⟨t', rfl⟩ := ry; exact PySem.W.eq_bytes (fin_bl I q dec_byt)
    | _ => exact absurd (show false = true from hs) Bool.false_ne_true
  | _ => cases y <;> exact absurd (show false = true from hs) Bool.false_ne_true
theorem op_ne : OpR X (compareOp .NotEq) rNe := by
  intro pins s σ H x y v u Q I rx ry h
  obtain ⟨hs, q⟩ := h
  cases x with
  | non =>
    cases rx
    cases y with
    | non => cases ry; exact PySem.EqNone.ne_none_none (fin_bl I q (by simp))
    | bl j => cases ry; exact PySem.EqNone.ne_none_bool (fin_bl I q (by simp))
    | int j => obtain ⟨t', rfl⟩ := ry; exact PySem.EqNone.ne_none_int (fin_bl I q (by simp))
    | str j => obtain ⟨t', rfl⟩ := ry; exact PySem.EqNone.ne_none_str (fin_bl I q (by simp))
    | _ => exact absurd (show false = true from hs) Bool.false_ne_true
  | bl i =>
    cases rx
    cases y with
    | non => cases ry; exact PySem.EqNone.ne_bool_none (fin_bl I q (by simp))
    | bl j => cases ry; exact ne_bool (fin_bl I q (congrArg not dec_bl))
    | str j => obtain ⟨t', rfl⟩ := ry; exact PySem.EqMixed.ne_bool_str (fin_bl I q (by simp))
    | _ => exact absurd (show false = true from hs) Bool.false_ne_true
  | int i =>
    obtain ⟨t, rfl⟩ := rx
    cases y with
    | non => cases ry; exact PySem.EqNone.ne_int_none (fin_bl I q (by simp))
    | int j => obtain ⟨t', rfl⟩ := ry; exact ne_int (fin_bl I q (congrArg not dec_int))
    | str j => obtain ⟨t', rfl⟩ := ry; exact PySem.EqMixed.ne_int_str (fin_bl I q (by simp))
    | _ => exact absurd (show false = true from hs) Bool.false_ne_true
  | str i =>
    obtain ⟨t, rfl⟩ := rx
    cases y with
    | non => cases ry; exact PySem.EqNone.ne_str_none (fin_bl I q (by simp))
    | bl j => cases ry; exact PySem.EqMixed.ne_str_bool (fin_bl I q (by simp))
    | int j => obtain ⟨t', rfl⟩ := ry; exact PySem.EqMixed.ne_str_int (fin_bl I q (by simp))
    | str j => obtain ⟨t', rfl⟩ := ry; exact ne_str (fin_bl I q (congrArg not dec_str))
    | _ => exact absurd (show false = true from hs) Bool.false_ne_true
  | byt i =>
    obtain ⟨t, rfl⟩ := rx
    cases y with
    | byt j => obtain ⟨t', rfl⟩ := ry; exact PySem.W.ne_bytes (fin_bl I q (congrArg not dec_byt))
    | _ => exact absurd (show false = true from hs) Bool.false_ne_true
  | _ => cases y <;> exact absurd (show false = true from hs) Bool.false_ne_true

theorem op_lt : OpR X (compareOp .Lt) (rI0 fun i j => .bl (decide (i < j))) := opB0 fun _ _ _ _ _ _ _ q => lt_int q
theorem op_ge : OpR X (compareOp .GtE) (rI0 fun i j => .bl (decide (j ≤ i))) := opB0 fun _ _ _ _ _ _ _ q => ge_int q
/-- is None, is not None: the right side a value none -/
theorem op_isN : OpR X (compareOp .Is) (fun x y H Q => y = .non ∧ Q (.bl (decide (x = .non))) H) := by
  intro pins s σ H x y v u Q I rx ry h
  obtain ⟨rfl, q⟩ := h
  cases ry
  refine is_none_gen (fin_bl I q ?_)
  cases x <;> first
    | (cases rx; rfl)
    | (obtain ⟨t, rfl⟩ := rx; rfl)
/-- two rules for one operation: by cases -/
theorem OpR.or {f : Value → Value → Sem Value} {r r' : R2} (h : OpR X f r) (h' : OpR X f r') : OpR X f (fun x y H Q => r x y H Q ∨ r' x y H Q) := by
  intro pins s σ H x y v u Q I rx ry q
  rcases q with q | q
  · exact h pins s σ H x y v u Q I rx ry q
  · exact h' pins s σ H x y v u Q I rx ry q

theorem nomark (b : Expr) {op : CmpOp} (h : op ≠ .In := by decide) (h2 : op ≠ .NotIn := by decide) : behindInMarks op b = false := by
  have e1 : (op == CmpOp.In) = false := by cases op <;> first | rfl | exact absurd rfl h
  have e2 : (op == CmpOp.NotIn) = false := by cases op <;> first | rfl | exact absurd rfl h2
  cases b <;> simp [behindInMarks, e1, e2]
/-- a comparison as a value; hm: nomark b, or (for in, not in) by with_unfolding_all rfl -/
theorem pe_cmpR {op : CmpOp} {r : R2} (ho : OpR X (compareOp op) r) (ha : PE X a ta) (hb : PE X b tb) (hm : behindInMarks op b = false) : PE X (.Compare a [op] [b] pos) (tOp r ta tb) := by
  intro pins s σ H Q I h
  exact wpAny_Compare1 (binT ha hb I h fun v u s2 x y H2 I2 rx ry q => ho pins s2 σ H2 x y v u Q I2 rx ry q) hm
/-- a reading of a value as a test -/
noncomputable def tTest (t : TE) : TT := fun σ H Q => t σ H fun x H' => ∃ k, x = .bl k ∧ Q k H'
theorem pt_cmpR {op : CmpOp} {r : R2} (ho : OpR X (compareOp op) r) (ha : PE X a ta) (hb : PE X b tb) (hm : behindInMarks op b = false) : PT X (.Compare a [op] [b] pos) (tTest (tOp r ta tb)) := by
  intro pins s σ H Q I h
  refine wpAny_isTrue_Compare1 (thn (ha pins s σ H _ I h) fun v s1 ⟨x, H1, I1, r1, q1⟩ => thn (hb pins s1 σ H1 _ I1 q1) fun u s2 ⟨y, H2, I2, r2, q2⟩ =>
    thn (ho pins s2 σ H2 x y v u _ I2 r1 r2 q2) fun c s3 ⟨z, H3, I3, r3, k, e, q3⟩ => ?_) hm
  subst e
  cases r3
  exact wpAny_truthy_bool ⟨H3, I3, q3⟩
/-! ### truth -/
/-- a value's truth by the abstract heap -/
noncomputable def TruV (K : PySem.W.Frag) (x : V) (H : Hp) (k : Bool) : Prop :=
  match x with
  | .non => k = false
  | .bl b => k = b
  | .int i => k = (i != 0)
  | .str y => y.length ≤ sizeLine ∧ k = ((y.length : Int) != 0)
  | .byt y => y.size ≤ sizeLine ∧ k = ((y.size : Int) != 0)
  | .ref p => (∃ xs, SqL K H p xs ∧ k = !xs.isEmpty) ∨ (∃ xs, SqT K H p xs ∧ k = !xs.isEmpty) ∨ ∃ kvs, H p = some (.dK kvs) ∧ k = !kvs.isEmpty
  | _ => False
theorem isEmpty_kv {κ : Type} {kvs : List (κ × V)} {vs : List (κ × Value)} (r : KV kvs vs) : (!vs.isEmpty) = !kvs.isEmpty := by
  cases r <;> rfl
theorem isEmpty_of {xs : List V} {its : List Value} (r : Vals xs its) : (!its.toArray.isEmpty) = !xs.isEmpty := by
  cases r <;> simp
theorem line63 : (sizeLine : Nat) < 2 ^ 63 := by rw [sizeLine_eq]; decide
theorem tru_ok : TruR X (fun x H Q => ∃ k, TruV X.K x H k ∧ Q k H) := by
  intro pins s σ H x v Q I rx h
  obtain ⟨k, e, q⟩ := h
  have hl := line63
  have hs : sizeLine = 16777216 := sizeLine_eq
  cases x with
  | non =>
    cases rx
    have e' : k = false := e
    subst e'
    exact truthy_none ⟨H, I, q⟩
  | bl b =>
    cases rx
    have e' : k = b := e
    subst e'
    exact wpAny_truthy_bool ⟨H, I, q⟩
  | int i =>
    obtain ⟨t, rfl⟩ := rx
    have e' : k = (i != 0) := e
    subst e'
    exact PySem.P.truthy_int ⟨H, I, q⟩
  | str y =>
    obtain ⟨t, rfl⟩ := rx
    obtain ⟨hy, e'⟩ : y.length ≤ sizeLine ∧ k = ((y.length : Int) != 0) := e
    subst e'
    exact PySem.P.truthy_str (by omega) ⟨H, I.tok _, q⟩
  | byt y =>
    obtain ⟨t, rfl⟩ := rx
    obtain ⟨hy, e'⟩ : y.size ≤ sizeLine ∧ k = ((y.size : Int) != 0) := e
    subst e'
    exact PySem.W.truthy_bytes (by omega) ⟨H, I.tok _, q⟩
  | ref p =>
    cases rx
    have e' : (∃ xs, SqL X.K H p xs ∧ k = !xs.isEmpty) ∨ (∃ xs, SqT X.K H p xs ∧ k = !xs.isEmpty) ∨ ∃ kvs, H p = some (.dK kvs) ∧ k = !kvs.isEmpty := e
    rcases e' with ⟨xs, hx, e'⟩ | ⟨xs, hx, e'⟩ | ⟨kvs, hx, e'⟩
    · subst e'
      obtain ⟨its, r, pl, hz⟩ := I.list hx
      have hlen := r.length
      exact wpAny_truthy_list pl.isList (by simp only [List.size_toArray]; omega) ⟨H, I.tok _, by rw [isEmpty_of r]; exact q⟩
    · subst e'
      obtain ⟨its, r, pl, hz⟩ := I.tuple hx
      have hlen := r.length
      exact truthy_tuple pl (by simp only [List.size_toArray]; omega) ⟨H, I.tok _, by rw [isEmpty_of r]; exact q⟩
    · subst e'
      obtain ⟨hz, hS, vs, r, m⟩ : kvs.length ≤ sizeLine ∧ (p == sysModules) = false ∧ ∃ vs, KV kvs vs ∧ s.heap.DictOf (mixKind X.prog X.w) p vs := I.hok p _ hx
      have hlen : kvs.length = vs.length := Paired.length r
      exact wpAny_truthy_dict hS m (by omega) ⟨H, I.tok _, by rw [isEmpty_kv r]; exact q⟩
  | _ => exact (show False from e).elim
/-- any expression whose test is its value's truth (a name, a call, a subscript, a field ..: he by fun _ => rfl) -/
theorem pt_truth (ha : PE X a ta) (he : ∀ whole, isTrue a X.env whole = (do let v ← whole; standAt a.pos; holding [v] (truthy v))) :
    PT X a (fun σ H Q => ta σ H fun x H' => ∃ k, TruV X.K x H' k ∧ Q k H') := by
  intro pins s σ H Q I h
  exact isTrue_plain (thn (ha pins s σ H _ I h) fun v s1 ⟨x, H1, I1, r1, q1⟩ => tru_ok pins s1 σ H1 x v Q I1 r1 q1) (he _)

theorem op_add_str : OpR X (binaryOp .Add) (fun x y H Q => ∃ i j, x = .str i ∧ y = .str j ∧ i.length + j.length ≤ sizeLine ∧ Q (.str (i ++ j)) H) := by
  intro pins s σ H x y v u Q I rx ry h
  obtain ⟨i, j, rfl, rfl, hz, q⟩ := h
  obtain ⟨t, rfl⟩ := rx
  obtain ⟨t', rfl⟩ := ry
  exact add_str (fun t' tk => ⟨.str (i ++ j), H, I.tok _, ⟨_, rfl⟩, q⟩) hz
/-! ### scalar builtins, by CallR -/
theorem vals1 {x : V} {us : List Value} (r : Vals [x] us) : ∃ u, us = [u] ∧ RelV x u := by
  cases r with
  | cons r1 r2 => cases r2; exact ⟨_, rfl, r1⟩
theorem vals2 {x y : V} {us : List Value} (r : Vals [x, y] us) : ∃ u w', us = [u, w'] ∧ RelV x u ∧ RelV y w' := by
  cases r with
  | cons r1 r2 =>
    cases r2 with
    | cons r3 r4 => cases r4; exact ⟨_, _, rfl, r1, r3⟩
theorem call_min2 (hc : X.calm = true) : CallR X (.builtin "min") (fun xs H Q => ∃ i j, xs = [.int i, .int j] ∧ Q (.int (if j < i then j else i)) H) := by
  intro pins s σ H xs us Q I r h
  obtain ⟨i, j, rfl, q⟩ := h
  obtain ⟨u, w', rfl, ⟨t, rfl⟩, ⟨t', rfl⟩⟩ := vals2 r
  refine min_two_ints (I.ok.hd hc) fun h' tk k => ⟨_, H, I.kept k, ?_, q⟩
  by_cases hj : j < i
  · rw [if_pos hj, if_pos hj]; exact ⟨_, rfl⟩
  · rw [if_neg hj, if_neg hj]; exact ⟨_, rfl⟩
end
end L2

namespace L2
open PySem PySem.Spec PyProof.Rows

/-! ### an instance, its attributes a map -/
structure ObjM (h : Heap) (x dx C : Addr) (mA : Str → Option Value) : Prop where
  obj : h.get? x = some (PySem.W.instObj C dx)
  ns : h.Ns1 dx mA
  ne : dx ≠ x

theorem lookIn_ns {h : Heap} {dx : Addr} {mA : Str → Option Value} (n : h.Ns1 dx mA) : ∃ od, h.get? dx = some od ∧ ∀ name, PySem.W.lookIn name od = some (mA name) := by
  obtain ⟨o, es, ep, ho, hd, hk, _, hm⟩ := n
  refine ⟨o, ho, fun name => ?_⟩
  have e := hm name
  unfold nsFind findBy at e
  rw [← Array.find?_toList] at e
  unfold PySem.W.lookIn
  rw [hd]
  dsimp only
  split
  · rename_i y q
    rw [q] at e
    exact congrArg some e
  · rename_i q
    rw [q] at e
    have a : es.toList.any (·.refKey) = false := by
      rw [List.any_eq_false]
      intro y hy
      obtain ⟨z, t, hkey⟩ := hk y (Array.mem_toList_iff.mp hy)
      simp [DictEntry.refKey, hkey]
    have a' : ¬ es.toList.any (·.refKey) = true := by rw [a]; exact Bool.false_ne_true
    rw [if_neg a']
    exact congrArg some e

theorem ObjM.look {h : Heap} {x dx C : Addr} {mA : Str → Option Value} (I : ObjM h x dx C mA) : ∃ od, PySem.W.InstAt h x (PySem.W.instObj C dx) C (some od) ∧ ∀ name, PySem.W.lookIn name od = some (mA name) :=
  let ⟨od, ho, hl⟩ := lookIn_ns I.ns
  ⟨od, ⟨I.obj, rfl, rfl, ho⟩, hl⟩

section
variable {prog : Program} {w : World} {A : Around} {E : Value → Shared → Prop} {s : Shared} {K : PySem.W.Frag} {x dx C f : Addr} {mA : Str → Option Value} {name : Str} {v : Value}

theorem get_map {expr : Bool} {Q : Value → Shared → Prop} (X : K.In s.heap) (I : ObjM s.heap x dx C mA) (hg : PySem.W.plainGet K C name = true) (hh : PySem.W.hasDictIn K C = true)
    (ha : PySem.W.findIn K (.ref C) name = some none) (hv : mA name = some v) (hv' : PySem.W.handedIn v = true) (h : Q v { s with toks := s.toks + 1 }) :
    wpAny (model prog w) A (getAttr (.ref x) name expr) Q E s := by
  obtain ⟨od, J, hl⟩ := I.look
  exact PySem.W.get_value X J (PySem.W.plainGet_of hg).1 (PySem.W.findObj_own hh ha rfl (by rw [hl, hv])) hv' h

theorem get_meth {pl : Sem Bool} {Q : Value × List Value → Shared → Prop} (X : K.In s.heap) (I : ObjM s.heap x dx C mA) (hg : PySem.W.plainGet K C name = true)
    (hf : PySem.W.findIn K (.ref C) name = some (some (.ref f))) (ht : PySem.W.isFn K (.ref f) = true) (hv : mA name = none) (h : Q (.ref f, [.ref x]) s) :
    wpAny (model prog w) A (getMethod (.ref x) name pl) Q E s := by
  obtain ⟨od, J, hl⟩ := I.look
  exact PySem.W.method_fn X J (PySem.W.plainGet_of hg).1 (PySem.W.plainGet_of hg).2 hf (beq_iff_eq.mp ht) (by show (PySem.W.lookIn name od).map (·.isSome) = some false; rw [hl, hv]; rfl) h

theorem set_map {ns : List Str} {Q : Unit → Shared → Prop} (X : K.In s.heap) (I : ObjM s.heap x dx C mA)
    (hs : PySem.W.findIn K (.ref C) "__setattr__" = some (some (.builtin "object.__setattr__"))) (hp : PySem.W.plainOver K C = true) (ht : PySem.W.takerIn K C name = some none) (hh : PySem.W.hasDictIn K C = true)
    (hw : PySem.Within mA ns) (hsz : ns.length ≤ sizeLine)
    (h : ∀ h', ObjM h' x dx C (fun y => if y = name then some v else mA y) → Heap.SameBut dx s.heap h' → Q () { s with heap := h', toks := s.toks + 2 }) :
    wpAny (model prog w) A (setAttr (.ref x) name v) Q E s := by
  obtain ⟨od, J, hl⟩ := I.look
  refine PySem.W.set_plain X J hs (PySem.W.osa_open (s := { s with toks := s.toks + 1 }) (r := none) X J hp ht fun b => ?_)
  obtain ⟨cd, hc, hd'⟩ := PySem.W.any_some hh
  have hx : s.heap.get? x = some ⟨.ref C, some dx, .plain, #[]⟩ := I.obj
  refine wpAny_bind (wpAny_pure (wpAny_bind (wpAny_bind (wpAny_loadPart hx (wpAny_bind (PySem.W.Looks.here (s := { s with toks := s.toks + 1 }) (PySem.W.looks_clsIn X hc) ?_))))))
  rw [hd']
  refine wpAny_pure (a := some dx) (wpAny_bind (wpAny_pure (wpAny_bind ?_)))
  refine wpAny_nsSet1 (s := { s with toks := s.toks + 1 }) I.ns fun h' hn2 hs2 => ?_
  obtain ⟨oD, esD, epD, hoD, hdD, hcD⟩ := hn2.count (PySem.Within.cons name v hw)
  refine wpAny_bind (wpAny_lookBehind hoD (by rw [hdD]; exact pastItsLine_dict (Nat.le_trans hcD (by rw [List.length_cons]; omega))) ?_)
  exact wpAny_pure (h _ ⟨(hs2.2 _ (Ne.symm I.ne)).trans I.obj, hn2, I.ne⟩ hs2)

/-- C(..): the dict at the heap's end, the instance behind it; then its __init__ -/
theorem make_map {R : Result → Shared → Prop} {vs : List Value} {kw : List (Str × Value)} (X : K.In s.heap) (hm : PySem.W.makesIn K C = true)
    (hi : PySem.W.findIn K (.ref C) "__init__" = some (some (.ref f))) (hf : PySem.W.typeIn K (.ref f) = some (.type "function"))
    (h : codeAny (model prog w) (A.under (.builtin "type.__call__" ⟨.ref C :: vs, kw⟩)) (.call (.ref f) ⟨.ref (s.heap.objs.size + 1) :: vs, kw⟩) (PySem.W.InitBack (s.heap.objs.size + 1) R)
      { s with heap := (s.heap.push PySem.W.emptyDict).push (PySem.W.instObj C s.heap.objs.size) }) :
    codeAny (model prog w) A (.call (.ref C) ⟨vs, kw⟩) R s := by
  obtain ⟨hh, g, d, t, os⟩ := s
  exact PySem.W.make_core (PySem.W.makes_of X hm) (PySem.W.looks_findIn X hi) (fun self => PySem.W.bind_fn X self hf) (.inl rfl) h
end

/-! ### the attributes as a list of pairs -/
noncomputable def putF (f : Str) (v : V) : List (Str × V) → List (Str × V)
  | [] => [(f, v)]
  | (g, x) :: r => if g = f then (g, v) :: r else (g, x) :: putF f v r
theorem lookup_putF (f g : Str) (v : V) : ∀ fs : List (Str × V), (putF f v fs).lookup g = if g = f then some v else fs.lookup g
  | [] => by
    show List.lookup g [(f, v)] = _
    by_cases h : g = f
    · have hb : (g == f) = true := beq_iff_eq.mpr h
      simp only [List.lookup, hb, if_pos h]
    · have hb : (g == f) = false := beq_eq_false_iff_ne.mpr h
      simp only [List.lookup, hb, if_neg h]
  | (k, x) :: r => by
    have ih := lookup_putF f g v r
    rw [show putF f v ((k, x) :: r) = (if k = f then (k, v) :: r else (k, x) :: putF f v r) from rfl]
    by_cases hk : k = f
    · rw [if_pos hk]
      by_cases h : g = k
      · have hb : (g == k) = true := beq_iff_eq.mpr h
        simp only [List.lookup, hb, if_pos (h.trans hk)]
      · have hb : (g == k) = false := beq_eq_false_iff_ne.mpr h
        simp only [List.lookup, hb, if_neg (fun e : g = f => h (e.trans hk.symm))]
    · rw [if_neg hk]
      by_cases h : g = k
      · have hb : (g == k) = true := beq_iff_eq.mpr h
        simp only [List.lookup, hb, if_neg (fun e : g = f => hk (h.symm.trans e))]
      · have hb : (g == k) = false := beq_eq_false_iff_ne.mpr h
        simp only [List.lookup, hb]
        exact ih
theorem keys_putF (f : Str) (v : V) : ∀ fs : List (Str × V), f ∈ (putF f v fs).map (·.1) ∧ ∀ g, g ∈ fs.map (·.1) → g ∈ (putF f v fs).map (·.1)
  | [] => ⟨by simp [putF], fun g h => by simp at h⟩
  | (k, x) :: r => by
    obtain ⟨i1, i2⟩ := keys_putF f v r
    rw [show putF f v ((k, x) :: r) = (if k = f then (k, v) :: r else (k, x) :: putF f v r) from rfl]
    by_cases hk : k = f
    · rw [if_pos hk]
      subst hk
      exact ⟨by simp, fun g h => by simpa using h⟩
    · rw [if_neg hk]
      refine ⟨?_, fun g h => ?_⟩
      · rw [List.map_cons]
        exact List.mem_cons_of_mem _ i1
      · rw [List.map_cons] at h ⊢
        rcases List.mem_cons.mp h with e | e
        · exact List.mem_cons.mpr (.inl e)
        · exact List.mem_cons_of_mem _ (i2 g e)
theorem length_putF (f : Str) (v : V) : ∀ fs : List (Str × V), (putF f v fs).length ≤ fs.length + 1
  | [] => by simp [putF]
  | (k, x) :: r => by
    have ih := length_putF f v r
    rw [show putF f v ((k, x) :: r) = (if k = f then (k, v) :: r else (k, x) :: putF f v r) from rfl]
    by_cases hk : k = f
    · rw [if_pos hk, List.length_cons, List.length_cons]; omega
    · rw [if_neg hk, List.length_cons, List.length_cons]; omega

theorem RelO.some_of {v : V} {o : Option Value} (r : RelO (some v) o) : ∃ u, o = some u ∧ RelV v u := by
  cases o with
  | none => exact (show False from r).elim
  | some u => exact ⟨u, rfl, r⟩
theorem RelO.none_of {o : Option Value} (r : RelO none o) : o = none := by
  cases o with
  | none => rfl
  | some u => exact (show False from r).elim
theorem handed_of {v : V} {u : Value} (r : RelV v u) : PySem.W.handedIn u = true := by
  cases v with
  | non => cases (show u = Value.none from r); rfl
  | bl b => cases (show u = Value.bool b from r); rfl
  | int i => obtain ⟨t, e⟩ := (show ∃ t, u = Value.int i t from r); cases e; rfl
  | str x => obtain ⟨t, e⟩ := (show ∃ t, u = Value.str x t from r); cases e; rfl
  | byt b => obtain ⟨t, e⟩ := (show ∃ t, u = Value.bytes b t from r); cases e; rfl
  | flt b => obtain ⟨t, e⟩ := (show ∃ t, u = Value.float b t from r); cases e; rfl
  | ref a => cases (show u = Value.ref a from r); rfl
  | ty n => cases (show u = Value.type n from r); rfl

section
variable {P : Program} {w : World} {H H' : Hp} {h h' : Heap} {a C dx : Addr} {fs fs' : List (Str × V)}
theorem ins_get (hok : HOk P w H h) (e : H a = some (.ins C dx fs)) : ∃ mA, ObjM h a dx C mA ∧ (∀ f, RelO (fs.lookup f) (mA f)) ∧ PySem.Within mA (fs.map (·.1)) ∧ fs.length ≤ 1000 ∧ H dx = some (.own a) := by
  obtain ⟨d, z, ne, ob, mA, n, r, q⟩ := (show ObjOk P w H h a (.ins C dx fs) from hok a _ e)
  exact ⟨mA, ⟨ob, n, ne⟩, r, q, z, d⟩
end

/-! ### what of the text a class must have -/
structure Cls (K : PySem.W.Frag) (C : Addr) : Prop where
  pg : PySem.W.plainGet K C Str.empty = true
  hd : PySem.W.hasDictIn K C = true
  po : PySem.W.plainOver K C = true
  sa : PySem.W.findIn K (.ref C) "__setattr__" = some (some (.builtin "object.__setattr__"))
theorem Cls.get {K : PySem.W.Frag} {C : Addr} (c : Cls K C) (f : Str) : PySem.W.plainGet K C f = true := c.pg
/-- no class of it has the name -/
noncomputable def NoAttr (K : PySem.W.Frag) (C : Addr) (f : Str) : Prop := PySem.W.findIn K (.ref C) f = some none
theorem NoAttr.taker {K : PySem.W.Frag} {C : Addr} {f : Str} (n : NoAttr K C f) : PySem.W.takerIn K C f = some none := by
  unfold PySem.W.takerIn
  rw [show PySem.W.findIn K (.ref C) f = some none from n]
  rfl
/-- a method: a plain def of the class or of one above it -/
structure Meth (K : PySem.W.Frag) (C : Addr) (m : Str) (f : Addr) : Prop where
  at_ : PySem.W.findIn K (.ref C) m = some (some (.ref f))
  fn : PySem.W.isFn K (.ref f) = true
  kp : PySem.W.keepIn K (.ref f) = true

section
variable {X : Cx} {pins : List (Addr × Obj)} {σ : St} {H : Hp} {s : Shared} {a C dx : Addr} {fs : List (Str × V)} {f : Str} {v : V} {A : Around} {E : Value → Shared → Prop}

theorem getattr_ok {b : Bool} {Q : Value → Shared → Prop} (I : Inv X pins σ H s) (e : H a = some (.ins C dx fs)) (c : Cls X.K C) (n : NoAttr X.K C f) (l : fs.lookup f = some v)
    (h : ∀ u s', Inv X pins σ H s' → RelV v u → Q u s') : wpAny (model X.prog X.w) A (getAttr (.ref a) f b) Q E s := by
  obtain ⟨mA, O, r, _, _, _⟩ := ins_get I.hok e
  obtain ⟨u, hu, ru⟩ := RelO.some_of (v := v) (o := mA f) (by rw [← l]; exact r f)
  exact get_map I.kIn O (c.get f) c.hd n hu (handed_of ru) (h u _ (I.tok _) ru)

theorem getmeth_ok {m : Str} {g : Addr} {pl : Sem Bool} {Q : Value × List Value → Shared → Prop} (I : Inv X pins σ H s) (e : H a = some (.ins C dx fs)) (c : Cls X.K C) (k : Meth X.K C m g) (l : fs.lookup m = none)
    (h : Q (.ref g, [.ref a]) s) : wpAny (model X.prog X.w) A (getMethod (.ref a) m pl) Q E s := by
  obtain ⟨mA, O, r, _, _, _⟩ := ins_get I.hok e
  have hn : mA m = none := RelO.none_of (by rw [← l]; exact r m)
  exact get_meth I.kIn O (c.get m) k.at_ k.fn hn h

theorem setattr_ok {y : V} {u : Value} {Q : Unit → Shared → Prop} (I : Inv X pins σ H s) (e : H a = some (.ins C dx fs)) (c : Cls X.K C) (n : NoAttr X.K C f) (hl : fs.length < 1000) (ry : RelV y u)
    (h : ∀ s', Inv X pins σ (upd H a (.ins C dx (putF f y fs))) s' → Q () s') : wpAny (model X.prog X.w) A (setAttr (.ref a) f u) Q E s := by
  obtain ⟨mA, O, r, wi, _, ho⟩ := ins_get I.hok e
  have hz : (fs.map (·.1)).length ≤ sizeLine := by rw [List.length_map, sizeLine_eq]; omega
  refine set_map I.kIn O c.sa c.po n.taker c.hd wi hz fun h' O' sb => h _ ?_
  have hd : ∃ o, h'.get? dx = some o := let ⟨o, _, _, e', _⟩ := O'.ns; ⟨o, e'⟩
  refine I.write (x := a) (e := dx) (by rw [e]; exact True.intro) (.inr ho) (fun b q hb z => (sb.2 b hb).trans z) hd ?_
  refine ⟨by rw [upd_ne O.ne]; exact ho, ?_, O.ne, O'.obj, _, O'.ns, fun g => ?_, fun g hg => ?_⟩
  · have := length_putF f y fs; omega
  · show RelO ((putF f y fs).lookup g) (if g = f then some u else mA g)
    rw [lookup_putF]
    by_cases q : g = f
    · rw [if_pos q, if_pos q]; exact ry
    · rw [if_neg q, if_neg q]; exact r g
  · by_cases q : g = f
    · rw [q]; exact (keys_putF f y fs).1
    · refine (keys_putF f y fs).2 g (wi g fun z => hg ?_)
      show (if g = f then some u else mA g) = none
      rw [if_neg q]; exact z

/-- a new instance, tracked, without attributes -/
theorem Inv.made (I : Inv X pins σ H s) : Inv X pins σ (upd (upd H s.heap.objs.size (.own (s.heap.objs.size + 1))) (s.heap.objs.size + 1) (.ins C s.heap.objs.size []))
    { s with heap := (s.heap.push PySem.W.emptyDict).push (PySem.W.instObj C s.heap.objs.size) } := by
  have e1 : (s.heap.push PySem.W.emptyDict).get? s.heap.objs.size = some PySem.W.emptyDict := Heap.get?_push_size s.heap rfl
  have e2 : ((s.heap.push PySem.W.emptyDict).push (PySem.W.instObj C s.heap.objs.size)).get? (s.heap.objs.size + 1) = some (PySem.W.instObj C s.heap.objs.size) := by
    have := Heap.get?_push_size (s.heap.push PySem.W.emptyDict) (o := PySem.W.instObj C s.heap.objs.size) rfl
    rwa [Heap.size_push] at this
  have e3 : (s.heap.push PySem.W.emptyDict).Ns s.heap.objs.size (fun _ => none) := ⟨PySem.W.emptyDict, #[], _, e1, rfl, (fun e he => absurd he (by simp)), fun _ => rfl⟩
  have I1 := I.laid (a := s.heap.objs.size) (o := .own (s.heap.objs.size + 1)) (h' := s.heap.push PySem.W.emptyDict) (t' := s.toks) (fun b u q => Heap.get?_push_of_some _ q) (Nat.le_refl _) ⟨_, e1⟩
  refine I1.laid (a := s.heap.objs.size + 1) (o := .ins C s.heap.objs.size []) (t' := s.toks) (fun b u q => Heap.get?_push_of_some _ q) (Nat.le_of_eq (Heap.size_push _ _)) ?_
  have ne : s.heap.objs.size ≠ s.heap.objs.size + 1 := Nat.ne_of_lt (Nat.lt_succ_self _)
  refine ⟨by rw [upd_ne ne, upd_same], Nat.zero_le _, ne, e2, fun _ => none, (Heap.Ns1.of_empty e3).at fun o q => Heap.get?_push_of_some _ q, fun _ => True.intro, fun y hy => absurd rfl hy⟩

/-- e.f where nothing but the object is asked: through attributeBase (super) and the last hold -/
theorem attr_of {prog : Program} {w : World} {env : Env} {e : Expr} {f : Str} {pos : Pos} {s : Shared} {Q : Value → Shared → Prop} (hb : attributeBase e f env (eval e env) = eval e env)
    (h : wpAny (model prog w) A (eval e env) (fun o s₁ => wpAny (model prog w) A (getAttr o f true) Q E s₁) E s) : wpAny (model prog w) A (eval (.Attribute e f pos) env) Q E s :=
  Attribute_any_ h (by rw [arm_eval_Attribute, hb])
end

/-! ### readings and rules -/
/-- e.f, an attribute of the instance -/
noncomputable def tFld (K : PySem.W.Frag) (ta : TE) (f : Str) : TE := fun σ H Q => ta σ H fun x H1 => ∃ a C dx fs v, x = .ref a ∧ H1 a = some (.ins C dx fs) ∧ Cls K C ∧ NoAttr K C f ∧ fs.lookup f = some v ∧ Q v H1
/-- e.f = value -/
noncomputable def sFld (K : PySem.W.Frag) (ta tv : TE) (f : Str) : TS := fun D σ H => tv σ H fun y H1 => ta σ H1 fun x H2 => ∃ a C dx fs, x = .ref a ∧ H2 a = some (.ins C dx fs) ∧ Cls K C ∧ NoAttr K C f ∧ fs.length < 1000 ∧
  D.nx σ (upd H2 a (.ins C dx (putF f y fs)))
section
variable {X : Cx} {o e value : Expr} {f : Str} {pos pos' tpos : Pos} {ta tv : TE}
theorem pe_fld (he : PE X e ta) (hb : attributeBase e f X.env (eval e X.env) = eval e X.env) : PE X (.Attribute e f pos) (tFld X.K ta f) := by
  intro pins s σ H Q I h
  refine attr_of hb (thn (he pins s σ H _ I h) fun u s1 hP => ?_)
  obtain ⟨x, H1, I1, rx, a, C, dx, fs, v, ex, ea, c, n, l, q⟩ := hP
  subst ex
  obtain rfl : u = Value.ref a := rx
  exact getattr_ok I1 ea c n l fun u' s2 I2 ru => ⟨v, H1, I2, ru, q⟩
theorem ps_fld (ha : PE X o ta) (hv : PE X value tv) (hs : swapsWith value (some (.Attribute o f pos')) pos.line X.env = pure false) : PS X (.Assign [.Attribute o f pos'] value pos) (sFld X.K ta tv f) := by
  intro pins s σ H D I h
  refine plainObj_wpAny_Assign_Attribute (thn (hv pins s σ H _ I h) fun u s1 ⟨y, H1, I1, ry, q⟩ => thn (ha pins s1 σ H1 _ I1 q) fun ov s2 hP => ?_) hs
  obtain ⟨x, H2, I2, rx, a, C, dx, fs, ex, ea, c, n, l, q2⟩ := hP
  subst ex
  obtain rfl : ov = Value.ref a := rx
  exact setattr_ok I2 ea c n l ry fun s3 I3 => ⟨σ, _, I3, q2⟩
end

/-! ### isinstance -/
section
variable {X : Cx} {pins : List (Addr × Obj)} {σ : St} {H : Hp} {s : Shared} {A : Around} {E : Value → Shared → Prop} {Q : Value → Shared → Prop} {c : Value} {b : Bool}
end
end L2

namespace L2
open PySem PySem.Spec PyProof.Rows

/-! ### room -/
structure Room (k : Nat) (A : Around) : Prop where
  hd : A.handled = none
  dp : A.depth + 3 * k + 5 < recursionLimit
  un : A.units + 16 * k + 200 < cLine
theorem Room.mono {j k : Nat} {A : Around} (r : Room k A) (h : j ≤ k) : Room j A := ⟨r.hd, by have := r.dp; omega, by have := r.un; omega⟩
theorem Room.deeper {k : Nat} {A : Around} (r : Room (k + 1) A) (env : Env) : Room k (A.deeper env) :=
  ⟨r.hd, by have := r.dp; show A.depth + 1 + 3 * k + 5 < _; omega, by have := r.un; show A.units + 3 + 16 * k + 200 < _; omega⟩
theorem make_depth {A : Around} {C : Addr} {us : List Value} {kw : List (Str × Value)} : (A.under (.builtin "type.__call__" ⟨.ref C :: us, kw⟩)).depth = A.depth + 1 := by
  first | rfl | simp [Around.under, Code.weight, Code.isCreation, Code.isGuard, Code.isCaller, Code.frames, Code.isFrame, guardIds]
theorem make_units {A : Around} {C : Addr} {us : List Value} {kw : List (Str × Value)} : (A.under (.builtin "type.__call__" ⟨.ref C :: us, kw⟩)).units = A.units + 1 := by
  first | rfl | simp [Around.under, Code.cUnits, Code.frames, Code.isFrame]
theorem Room.make {k : Nat} {A : Around} (r : Room (k + 1) A) (C : Addr) (us : List Value) (kw : List (Str × Value)) : Room k (A.under (.builtin "type.__call__" ⟨.ref C :: us, kw⟩)) :=
  ⟨r.hd, by have := r.dp; rw [make_depth]; omega, by have := r.un; rw [make_units]; omega⟩
theorem Room.depth {k : Nat} {A : Around} (r : Room k A) : A.depth < recursionLimit := by have := r.dp; omega
/-! ### argument lists and displays -/
noncomputable def tNil : TA := fun _ H Q => Q [] H
noncomputable def tCons (ta : TE) (tr : TA) : TA := fun σ H Q => ta σ H fun x H1 => tr σ H1 fun xs H2 => Q (x :: xs) H2
section
variable {X : Cx} {e : Expr} {es : List Expr} {te : TE} {t : TA} {pos : Pos}
theorem pa_nil : PA X [] tNil := fun _ _ _ _ H Q I h => Calls.spliced_nil ⟨[], H, I, .nil, h⟩
theorem pa_cons (ha : PE X e te) (hr : PA X es t) (hs : starEach (e :: es) X.env = (false, eval e X.env) :: starEach es X.env := by rfl) : PA X (e :: es) (tCons te t) := by
  intro pos pins s σ H Q I h
  rw [hs]
  show wpAny _ _ (spliced ((false, eval e X.env) :: backTo pos (starEach es X.env))) _ _ s
  refine Calls.spliced_cons (thn (ha pins s σ H _ I h) fun u s1 ⟨x, H1, I1, r1, q1⟩ => ?_)
  exact thn (hr pos pins s1 σ H1 _ I1 q1) fun us s2 ⟨xs, H2, I2, r2, q2⟩ => ⟨x :: xs, H2, I2, .cons r1 r2, q2⟩

/-- a tuple, a list of written items -/
noncomputable def tTup (t : TA) : TE := fun σ H Q => t σ H fun xs H1 => xs.length ≤ sizeLine ∧ ∀ p, H1 p = none → Q (.ref p) (upd H1 p (.tup xs))
noncomputable def tLst (t : TA) : TE := fun σ H Q => t σ H fun xs H1 => xs.length ≤ sizeLine ∧ ∀ p, H1 p = none → Q (.ref p) (upd H1 p (.lst xs))
theorem pe_tup {x1} (h : PA X es t) : PE X (.Tuple es x1 pos) (tTup t) := by
  intro pins s σ H Q I hq
  refine wpAny_Tuple_spliced (thn (h pos pins s σ H _ I hq) fun us s1 ⟨xs, H1, I1, r, z, q⟩ => ⟨by rw [← r.length]; exact z, ?_⟩)
  have hf : H1 s1.heap.objs.size = none := I1.hok.fresh (Nat.le_refl _)
  refine ⟨.ref s1.heap.objs.size, upd H1 s1.heap.objs.size (.tup xs), I1.laid (t' := s1.toks) (fun b u e => Heap.get?_push_of_some _ e) (Nat.le_refl _) ?_, rfl, q _ hf⟩
  exact ⟨z, us, r, ⟨_, Heap.get?_push_size _ rfl, rfl, ⟨_, rfl⟩, rfl⟩⟩
theorem pe_lst (h : PA X es t) : PE X (.List es pos) (tLst t) := by
  intro pins s σ H Q I hq
  refine wpAny_List_spliced (thn (h pos pins s σ H _ I hq) fun us s1 ⟨xs, H1, I1, r, z, q⟩ => ⟨by rw [← r.length]; exact z, ?_⟩)
  have hf : H1 s1.heap.objs.size = none := I1.hok.fresh (Nat.le_refl _)
  refine ⟨.ref s1.heap.objs.size, upd H1 s1.heap.objs.size (.lst xs), I1.laid (t' := s1.toks) (fun b u e => Heap.get?_push_of_some _ e) (Nat.le_refl _) ?_, rfl, q _ hf⟩
  exact ⟨z, us, 0, r, Heap.get?_push_size _ rfl⟩
end

/-! ### what a def promises -/
/-- a def's promise: the bound arguments in the parameters' order, the heap, the wanted end, the wanted exception -/
noncomputable abbrev Sp := List V → Hp → VK → XK → Prop
/-- how an exception lies behind a call (file 08 gives it): the callers' frames, abstract heap and state ahead of the call, the wish, the exception, the state -/
noncomputable abbrev CXT := List Env → Hp → Shared → XK → Value → Shared → Prop

/-- the state at a call -/
structure Env0 (P : Program) (w : World) (K : PySem.W.Frag) (mg : Str → Option Value) (base : Heap) (A : Around) (outer : List Env) (s : Shared) (H : Hp) : Prop where
  frames : A.frames = some outer
  mod : Mod K mg base
  bs : ∀ b o, base.get? b = some o → s.heap.get? b = some o ∧ H b = none
  bsz : base.objs.size ≤ s.heap.objs.size
  funs : s.heap.FunFrames base outer
  frf : ∀ b ∈ frs outer, H b = none
  hok : HOk P w H s.heap
  bare : AllBare s.gens
/-- a call's end -/
noncomputable def CE (outer : List Env) (P : Program) (w : World) (H : Hp) (s : Shared) (Q : VK) (u : Value) (s' : Shared) : Prop :=
  ∃ v H', s'.os = s.os ∧ AllBare s'.gens ∧ Un (frs outer) [] H H' s.heap s'.heap ∧ HOk P w H' s'.heap ∧ RelV v u ∧ Q v H'
noncomputable def CR (CX : CXT) (outer : List Env) (P : Program) (w : World) (H : Hp) (s : Shared) (Q : VK) (E : XK) (r : Result) (s' : Shared) : Prop :=
  match r with
  | .ok (.ret u) => CE outer P w H s Q u s'
  | .ok _ => False
  | .error e => CX outer H s E e s'
structure FnOk (P : Program) (w : World) (K : PySem.W.Frag) (mg : Str → Option Value) (base : Heap) (CX : CXT) (k : Nat) (f : Addr) (fd : FuncData) (ps : List Str) (sp : Sp) : Prop where
  len : ∀ vs H Q E, sp vs H Q E → vs.length = ps.length
  run : ∀ (A : Around) (outer : List Env) (s : Shared) (H : Hp) (args : Args) (us : List Value) (vs : List V) (Q : VK) (E : XK), Room k A → Env0 P w K mg base A outer s H → BindsTo s fd args (ps.zip us) → Vals vs us → sp vs H Q E →
    codeAny (model P w) A (.call (.ref f) args) (CR CX outer P w H s Q E) s
/-- a weaker promise -/
theorem FnOk.imp {P : Program} {w : World} {K : PySem.W.Frag} {mg : Str → Option Value} {base : Heap} {CX : CXT} {k : Nat} {f : Addr} {fd : FuncData} {ps : List Str} {sp sp' : Sp} (F : FnOk P w K mg base CX k f fd ps sp)
    (h : ∀ vs H Q E, sp' vs H Q E → sp vs H Q E) : FnOk P w K mg base CX k f fd ps sp' :=
  ⟨fun vs H Q E q => F.len vs H Q E (h _ _ _ _ q), fun A outer s H args us vs Q E hr he hb hv hs => F.run A outer s H args us vs Q E hr he hb hv (h _ _ _ _ hs)⟩

theorem Env0.make {P : Program} {w : World} {K : PySem.W.Frag} {mg : Str → Option Value} {base : Heap} {A : Around} {outer : List Env} {s : Shared} {H : Hp} (e : Env0 P w K mg base A outer s H) (C : Addr) (us : List Value) (kw : List (Str × Value)) :
    Env0 P w K mg base (A.under (.builtin "type.__call__" ⟨.ref C :: us, kw⟩)) outer s H := ⟨by first | exact e.frames | (simpa [Around.under, Code.envs, Code.isFrame, pushEnvs] using e.frames), e.mod, e.bs, e.bsz, e.funs, e.frf, e.hok, e.bare⟩
section
variable {X : Cx} {pins : List (Addr × Obj)} {σ : St} {H : Hp} {s s' : Shared}
/-- from a body: what a callee wants -/
theorem Inv.env0 (I : Inv X pins σ H s) : Env0 X.prog X.w X.K X.mg X.base X.A X.stack s H :=
  ⟨I.ok.frames, I.ok.mod, I.bs, Nat.le_trans I.ok.bsz I.sz, I.stack, I.stkFree, I.hok, I.bare⟩
/-- behind a call -/
theorem Inv.after {Q : VK} {u : Value} (I : Inv X pins σ H s) (h : CE X.stack X.prog X.w H s Q u s') : EP X pins σ Q u s' := by
  obtain ⟨v, H', os, bare, un, hok, r, q⟩ := h
  obtain ⟨hh, g, d, t, os'⟩ := s'
  obtain rfl : os' = s.os := os
  exact ⟨v, H', I.call (h' := hh) (g' := g) (d' := d) (t' := t) (ch := []) un hok bare (fun b z => absurd z (by simp)), r, q⟩
end

/-! ### calls -/
/-- how the parameters are bound: us the positional arguments, kw the keywords' values by name, ds the defaults that fill up -/
noncomputable def Binds (K : PySem.W.Frag) (fd : FuncData) (ps : List Str) (ds : List Value) : Prop :=
  ∀ (s : Shared) (us : List Value), K.In s.heap → (us ++ ds).length = ps.length → BindsTo s fd ⟨us, []⟩ (ps.zip (us ++ ds))
/-- every parameter is given -/
theorem Binds.all {K : PySem.W.Frag} {fd : FuncData} {ps : List Str} (h : ∀ us : List Value, us.length = ps.length → bindArgs fd ⟨us, []⟩ = pure (ps.zip us)) : Binds K fd ps [] := fun s us _ hl => by
  rw [List.append_nil] at hl ⊢
  exact .of_eq (h us hl)

section
variable {X : Cx} {CX : CXT} {k : Nat} {f C : Addr} {fd : FuncData} {ps : List Str} {sp : Sp} {dvs : List V} {ds : List Value} {E : XK} {x m : Str} {p pos apos : Pos} {e o : Expr} {es : List Expr} {ta : TE} {t : TA}

/-- what a class must have to be made -/
structure Mk (K : PySem.W.Frag) (C f : Addr) : Prop where
  makes : PySem.W.makesIn K C = true
  init : PySem.W.findIn K (.ref C) "__init__" = some (some (.ref f))
  fn : PySem.W.isFn K (.ref f) = true
  kp : PySem.W.keepIn K (.ref C) = true

end

/-! ### keywords -/
section
variable {X : Cx} {CX : CXT} {k : Nat} {f C : Addr} {fd : FuncData} {ps ks : List Str} {sp : Sp} {E : XK} {x m : Str} {p pos apos kpos : Pos} {e o : Expr} {es : List Expr} {kws : List Keyword} {te ta : TE} {t tk : TA} {nm : Option Str}
variable {g : List Value → List Value → List Value} {gV : List V → List V → List V}
end

/-! ### a def's body keeps its promise -/
/-- names: the parameters first -/
structure FnScope (N P : List Str) (sc : Scope) : Prop where
  kind : sc.kind = .function
  co : sc.isCoroutine = false
  gen : sc.isGenerator = false
  nd : N.Nodup
  pre : N.take P.length = P
  par : ∀ x ∈ P, sc.names.lookup x = some .local ∨ sc.names.lookup x = some .cell
  nofree : ∀ y ∈ sc.names, y.2 ≠ .free

theorem bindL_out {kindOf : Str → Option NameKind} {x : Str} : ∀ {binds : List (Str × Value)} {m : Str → Option Value}, (∀ v, (x, v) ∉ binds) → bindL kindOf binds m x = m x
  | [], _, _ => rfl
  | (n, v) :: r, m, h => by
    unfold bindL
    rw [bindL_out fun w hw => h w (List.mem_cons_of_mem _ hw)]
    split
    · have : x ≠ n := by rintro rfl; exact h v List.mem_cons_self
      simp [this]
    · rfl
theorem bindC_out {kindOf : Str → Option NameKind} {x : Str} : ∀ {binds : List (Str × Value)} {m : Str → Option Value}, (∀ v, (x, v) ∉ binds) → bindC kindOf binds m x = m x
  | [], _, _ => rfl
  | (n, v) :: r, m, h => by
    unfold bindC
    rw [bindC_out fun w hw => h w (List.mem_cons_of_mem _ hw)]
    split
    · rfl
    · have : x ≠ n := by rintro rfl; exact h v List.mem_cons_self
      simp [this]
theorem bindL_get {kindOf : Str → Option NameKind} {x : Str} {v : Value} : ∀ {P : List Str} {vs : List Value} {i : Nat} {m : Str → Option Value}, P.Nodup → P[i]? = some x → vs[i]? = some v → kindOf x = some .local →
    bindL kindOf (P.zip vs) m x = some v
  | [], _, _, _, _, h, _, _ => by simp at h
  | _ :: _, [], _, _, _, _, h, _ => by simp at h
  | p :: P, w :: vs, 0, m, nd, h1, h2, hk => by
    simp at h1 h2; subst h1; subst h2
    show bindL kindOf ((p, w) :: P.zip vs) m p = _
    unfold bindL
    rw [bindL_out fun v hv => (List.nodup_cons.mp nd).1 (List.of_mem_zip hv).1, if_pos hk]
    simp
  | p :: P, w :: vs, i + 1, m, nd, h1, h2, hk => by
    show bindL kindOf ((p, w) :: P.zip vs) m x = _
    unfold bindL
    exact bindL_get (i := i) (List.nodup_cons.mp nd).2 (by simpa using h1) (by simpa using h2) hk
theorem bindC_get {kindOf : Str → Option NameKind} {x : Str} {v : Value} : ∀ {P : List Str} {vs : List Value} {i : Nat} {m : Str → Option Value}, P.Nodup → P[i]? = some x → vs[i]? = some v → kindOf x ≠ some .local →
    bindC kindOf (P.zip vs) m x = some v
  | [], _, _, _, _, h, _, _ => by simp at h
  | _ :: _, [], _, _, _, _, h, _ => by simp at h
  | p :: P, w :: vs, 0, m, nd, h1, h2, hk => by
    simp at h1 h2; subst h1; subst h2
    show bindC kindOf ((p, w) :: P.zip vs) m p = _
    unfold bindC
    rw [bindC_out fun v hv => (List.nodup_cons.mp nd).1 (List.of_mem_zip hv).1, if_neg hk]
    simp
  | p :: P, w :: vs, i + 1, m, nd, h1, h2, hk => by
    show bindC kindOf ((p, w) :: P.zip vs) m x = _
    unfold bindC
    exact bindC_get (i := i) (List.nodup_cons.mp nd).2 (by simpa using h1) (by simpa using h2) hk

/-- the names' values at the entry -/
noncomputable def start (N : List Str) (vs : List V) : St := vs.map some ++ List.replicate (N.length - vs.length) none

/-- the context of a def's body, at its entry; an exception leaves the frame, then lies as CX says -/
noncomputable def cxOf (CX : CXT) (P : Program) (w : World) (K : PySem.W.Frag) (mg : Str → Option Value) (base : Heap) (N : List Str) (qual : Str) (scope : Scope) (f : Addr) (cd : Value) (A : Around) (outer : List Env) (s : Shared) (H : Hp) (E : XK) : Cx where
  prog := P
  w := w
  K := K
  mg := mg
  base := base
  A := A.deeper (envOfC qual scope s.heap.objs.size f cd)
  N := N
  s₀ := s
  H₀ := H
  env := envOfC qual scope s.heap.objs.size f cd
  outer := outer
  stack := envOfC qual scope s.heap.objs.size f cd :: outer
  ex := []
  calm := true
  fn := fun _ => true
  pn := []
  xe := fun e s' => wpAny (model P w) (A.deeper (envOfC qual scope s.heap.objs.size f cd)) (leaving (envOfC qual scope s.heap.objs.size f cd) e) (fun _ s'' => CX outer H s E e s'') (fun e' s'' => CX outer H s E e' s'') s'

theorem cell_has {sc : Scope} {n : Nat} {x : Str} (h : sc.names.lookup x = some .cell) : ∃ c, (cellsFrom n sc.names []).lookup x = some c := by
  have q := PySem.W.cellsFrom_some sc.names n [] (.inl h)
  exact Option.isSome_iff_exists.mp q

theorem inv_start {CX : CXT} {P : Program} {w : World} {K : PySem.W.Frag} {mg : Str → Option Value} {base : Heap} {N ps : List Str} {qual : Str} {scope : Scope} {f : Addr} {cd : Value} {A : Around} {outer : List Env} {s s1 : Shared} {H : Hp} {E : XK} {us : List Value} {vs : List V}
    (S : FnScope N ps scope) (hd : A.handled = none) (e0 : Env0 P w K mg base A outer s H) (hl : vs.length = ps.length) (r : Vals vs us)
    (x : InCallC s s.heap.objs.size (bindL (envOfC qual scope s.heap.objs.size f cd).kindOf (ps.zip us) fun _ => none) (cellsFrom (s.heap.objs.size + 1) scope.names []) (bindC (envOfC qual scope s.heap.objs.size f cd).kindOf (ps.zip us) fun _ => none) s1) :
    Inv (cxOf CX P w K mg base N qual scope f cd A outer s H E) [] (start N vs) H s1 := by
  have hpl : ps.length ≤ N.length := by have := congrArg List.length S.pre; rw [List.length_take] at this; omega
  obtain ⟨h1, tk, rfl, hk⟩ := x.done
  have noA : ∀ b : Addr, b ∉ (cxOf CX P w K mg base N qual scope f cd A outer s H E).ex := fun b z => absurd (show b ∈ ([] : List Addr) from z) (by simp)
  refine ⟨⟨e0.mod, S.kind, rfl, rfl, Nat.le_refl _, fun y z c h1 h2 => ?_, fun y hy => ?_, fun y c _ h => ?_, fun _ => hd, Around.frames_deeper e0.frames, .inr ⟨rfl, rfl⟩, fun b z => absurd z (noA b), e0.bs, e0.bsz, fun b _ _ => noA b, fun b z => absurd z (noA b), e0.funs, e0.frf⟩,
    rfl, e0.bare, Un.kept hk, ⟨_, x.toInCall.ns, fun i y v h1 h2 h3 => ?_⟩, fun y c h => ⟨_, x.cell y c h⟩, e0.hok.fresh (Nat.le_refl _), fun y c h => ?_, fun p hp => absurd (show p ∈ ([] : List (Addr × Obj)) from hp) (by simp), e0.hok.kept hk, ?_⟩
  · exact name_of_addr x.apart (PySem.mem_of_lookup h1) (PySem.mem_of_lookup h2)
  · have hy : scope.names.lookup y = some .cell ∨ scope.names.lookup y = some .free := hy
    rcases hy with hy | hy
    · exact cell_has hy
    · exact absurd rfl (S.nofree _ (PySem.mem_of_lookup hy))
  · exact Nat.le_of_lt (x.above y c (PySem.mem_of_lookup h))
  · have hi : i < vs.length := by
      unfold start at h2
      by_cases hi : i < vs.length
      · exact hi
      · rw [List.getElem?_append_right (by simpa using hi)] at h2
        rw [List.getElem?_replicate] at h2
        split at h2 <;> cases h2
    have ha : vs[i]? = some v := by
      unfold start at h2
      rw [List.getElem?_append_left (by simpa using hi), List.getElem?_map] at h2
      cases e : vs[i]? with
      | none => rw [e] at h2; cases h2
      | some a => rw [e] at h2; cases h2; rfl
    obtain ⟨u, hu, rv⟩ := r.get ha
    have hp : ps[i]? = some y := by
      rw [← S.pre, List.getElem?_take_of_lt (by omega)]; exact h1
    have ndP : ps.Nodup := by rw [← S.pre]; exact S.nd.sublist (List.take_sublist _ _)
    refine ⟨u, rv, ?_⟩
    rcases S.par y (List.mem_of_getElem? hp) with k | k
    · exact .inl ⟨k, bindL_get ndP hp hu k⟩
    · obtain ⟨c, e⟩ := cell_has (n := s.heap.objs.size + 1) k
      refine .inr ⟨.inl k, c, e, ?_⟩
      have q := x.cell y c e
      rw [bindC_get ndP hp hu (by show scope.names.lookup y ≠ _; rw [k]; decide)] at q
      exact q
  · exact e0.hok.fresh (Nat.le_of_lt (x.above y c (PySem.mem_of_lookup h)))
  · unfold start
    show _ = N.length
    rw [List.length_append, List.length_map, List.length_replicate]
    omega

/-- THE RULE: a def (or a method) of the text, by its body. The body's reading t is chosen for each entry; it is run at the parameters' values -/
theorem fn_of {CX : CXT} {P : Program} {w : World} {K : PySem.W.Frag} {mg : Str → Option Value} {base : Heap} {k : Nat} {f : Addr} {name qual : Str} {params : Arguments} {body : List Stmt} {scope : Scope} {dV kV doc pm cdv ct oc : Value} {an od : Option Addr}
    {osl : Array (Option Value)} {N ps : List Str} {sp : Sp} (lk : K.lookup f = some ⟨oc, od, .func (PySem.W.fnOf name qual params body scope dV kV doc pm an cdv ct), osl⟩) (hcd : PySem.W.codeIn K cdv qual = true) (S : FnScope N ps scope)
    (len : ∀ vs H Q E, sp vs H Q E → vs.length = ps.length)
    (hbody : ∀ (A : Around) (outer : List Env) (s : Shared) (H : Hp) (vs : List V) (Q : VK) (E : XK), Room k (A.deeper (envOfC qual scope s.heap.objs.size f cdv)) → sp vs H Q E →
      ∃ t, PSs (cxOf CX P w K mg base N qual scope f cdv A outer s H E) body t ∧ t { nx := fun _ H' => Q .non H', rt := Q } (start N vs) H) :
    FnOk P w K mg base CX (k + 1) f (PySem.W.fnOf name qual params body scope dV kV doc pm an cdv ct) ps sp := by
  refine ⟨len, fun A outer s H args us vs Q E hr e0 hb r hsp => ?_⟩
  have hl := len _ _ _ _ hsp
  have KX : K.In s.heap := e0.mod.kin.keeps fun b o e => (e0.bs b o e).1
  have lim : s.heap.NoLimit := e0.mod.nolimit.keeps fun b o e => (e0.bs b o e).1
  have hkind : ∀ y ∈ ps.zip us, scope.names.lookup y.1 = some .local ∨ (scope.names.lookup y.1 = some .cell ∧ ((cellsFrom (s.heap.objs.size + 1) scope.names []).lookup y.1).isSome = true) := fun ⟨n, v⟩ hy => by
    rcases S.par n (List.of_mem_zip hy).1 with q | q
    · exact .inl q
    · exact .inr ⟨q, PySem.W.cellsFrom_some _ _ _ (.inl q)⟩
  refine codeAny_call_function hr.depth (KX _ _ lk) rfl S.co S.gen rfl (PySem.W.codeRec_of KX hcd) (hb _ _ _ _ ?_)
  refine wpAny_newFunctionEnv_cells S.kind hkind fun env he s1 x => ?_
  subst he
  refine ⟨lim.keeps x.toInCall.keep, codeAny_func ?_⟩
  obtain ⟨t, ht, hq⟩ := hbody A outer s H vs Q E (hr.deeper _) hsp
  have I : Inv (cxOf CX P w K mg base N qual scope f cdv A outer s H E) [] (start N vs) H s1 := inv_start S hr.hd e0 hl r x
  refine wpAny_mono (ht [] s1 (start N vs) H _ I hq) (fun fl s' hs => ?_) fun e s' hs => hs
  have fin : ∀ {σ' : St} {H' : Hp} {v : V} {u : Value}, Inv (cxOf CX P w K mg base N qual scope f cdv A outer s H E) [] σ' H' s' → RelV v u → Q v H' → CE outer P w H s Q u s' :=
    fun {σ' H' v u} J rv q => ⟨v, H', J.os, J.bare, J.base, J.hok, rv, q⟩
  cases fl with
  | ret u =>
    obtain ⟨v, σ', H', J, rv, q⟩ := hs
    exact fin J rv q
  | next =>
    obtain ⟨σ', H', J, q⟩ := hs
    exact fin (v := V.non) (u := Value.none) J rfl q
  | brk =>
    obtain ⟨_, _, _, q⟩ := hs
    exact False.elim q
  | cont =>
    obtain ⟨_, _, _, q⟩ := hs
    exact False.elim q
end L2

namespace L2
open PySem PySem.Spec PyProof.Rows
section
variable {X : Cx} {x : Str} {p pos : Pos} {e : Expr} {es : List Expr} {t : TA} {id T : String} {r : List V → Hp → VK → Prop}

noncomputable def tCB (r : List V → Hp → VK → Prop) (t : TA) : TE := fun σ H Q => t σ H fun vs H1 => r vs H1 Q
/-- f(e, ..), f a built-in function -/
theorem pe_callB (hc : CallR X (.builtin id) r) (hg : Gl X x) (hm : X.mg x = none) (hv : bootBuiltins x = some (.builtin id)) (ha : PA X (e :: es) t) (hn : x ≠ "__name__" := by decide) (hdb : (x == ("__debug__" : Str)) = false := by decide)
    (he : starEach (e :: es) X.env = (false, eval e X.env) :: starEach es X.env := by rfl) (hpl : (backTo pos (starEach es X.env)).any (·.1) = false := by rfl) : PE X (.Call (.Name x p) (e :: es) [] pos) (tCB r t) := by
  intro pins s σ H Q I h
  refine wpAny_Call_Name_kw (ld_blt I hg hm hv ?_ hn hdb)
  exact PyProof.Rows.callWith_builtin1 (thn (ha pos pins s σ H _ I h) fun us s1 ⟨vs, H1, I1, r1, q1⟩ => hc pins s1 σ H1 vs us Q I1 r1 q1) he hpl
/-- T(e, ..), T a built-in type -/
theorem pe_callTy (hc : CallR X (.type T) r) (hg : Gl X x) (hm : X.mg x = none) (hv : bootBuiltins x = some (.type T)) (ha : PA X (e :: es) t) (hn : x ≠ "__name__" := by decide) (hdb : (x == ("__debug__" : Str)) = false := by decide)
    (he : starEach (e :: es) X.env = (false, eval e X.env) :: starEach es X.env := by rfl) (hpl : (backTo pos (starEach es X.env)).any (·.1) = false := by rfl) : PE X (.Call (.Name x p) (e :: es) [] pos) (tCB r t) := by
  intro pins s σ H Q I h
  refine wpAny_Call_Name_kw (ld_blt I hg hm hv ?_ hn hdb)
  exact PyProof.Rows.callWith_type1 (thn (ha pos pins s σ H _ I h) fun us s1 ⟨vs, H1, I1, r1, q1⟩ => hc pins s1 σ H1 vs us Q I1 r1 q1) he hpl
end
end L2

namespace HT
open PySem PyProof.Rows

section
open PySem.SeqAt
open PySem.AutoSeq1 (wpAny_loadPart')
open PySem.MeetsSeq PySem.MeetsSeq2 PySem.MeetsSeq3

end

section
variable {prog : Program} {w : World} {A : Around} {E : Value → Shared → Prop} {s : Shared}

/-- t + u, t not empty -/
theorem cat_tup {t b : Addr} {vs ws : List Value} {Q : Value → Shared → Prop} (ht : IsTup s.heap t vs.toArray) (hb : IsTup s.heap b ws.toArray) (hv : vs ≠ [])
    (h1 : ws = [] → Q (.ref t) s) (h2 : ws ≠ [] → Q (.ref s.heap.objs.size) { s with heap := s.heap.push { cls := .type "tuple", data := .seq (vs ++ ws).toArray } })
    (hsz : vs.length + ws.length ≤ sizeLine) : wpAny (model prog w) A (binaryOp .Add (.ref t) (.ref b)) Q E s := by
  obtain ⟨⟨cls, dd, data, sl⟩, ho, hc, n, hd⟩ := id ht
  obtain ⟨⟨cls2, dd2, data2, sl2⟩, ho2, hc2, n2, hd2⟩ := id hb
  simp only at hc hd hc2 hd2
  subst hc hd hc2 hd2
  have e : vs.toArray ++ ws.toArray = (vs ++ ws).toArray := by simp
  by_cases hw : ws = []
  · exact concat_meets ⟨_, ho, rfl⟩ ⟨_, ho2, rfl⟩ noFill_tuple_add seq_tuple_add PySem.F.slot_tuple_add PySem.F.entry_tuple_add (PySem.F.args_tuple_add_2 _ _)
      (tuple_addW1 t b vs.toArray ws.toArray n n2 dd dd2 sl sl2 (by simpa using hv) (by simp [hw])) ⟨ho, ho2, h1 hw⟩
  · refine concat_meets ⟨_, ho, rfl⟩ ⟨_, ho2, rfl⟩ noFill_tuple_add seq_tuple_add PySem.F.slot_tuple_add PySem.F.entry_tuple_add (PySem.F.args_tuple_add_2 _ _)
      (tuple_addW2 t b vs.toArray ws.toArray n n2 dd dd2 sl sl2 (by simpa using hv) (by simpa using hw) (by rw [List.size_toArray, List.size_toArray]; exact hsz)) ⟨ho, ho2, ?_⟩
    rw [e]
    exact h2 hw

/-! ### t[a:b], not the whole -/
/-- a slice's bound as a place among n (d where it is left out) -/
noncomputable def sIx (n d : Nat) : Option Int → Nat
  | none => d
  | some v => if v < 0 then (v + (n : Int)).toNat else min v.toNat n
theorem sIx_none (n d : Nat) : sIx n d none = d := rfl
theorem sIx_nat (n d k : Nat) : sIx n d (some (k : Int)) = min k n := by
  show (if (k : Int) < 0 then ((k : Int) + (n : Int)).toNat else min (k : Int).toNat n) = min k n
  rw [if_neg (by omega), Int.toNat_natCast]
theorem sIx_le (n d : Nat) (hd : d ≤ n) (o : Option Int) : sIx n d o ≤ n := by
  cases o with
  | none => exact hd
  | some v =>
    show (if v < 0 then (v + (n : Int)).toNat else min v.toNat n) ≤ n
    by_cases hv : v < 0
    · rw [if_pos hv]; omega
    · rw [if_neg hv]; exact Nat.min_le_right _ _
theorem clip_eq (v : Int) (n d : Nat) : (if v < 0 then max (v + (n : Int)) 0 else min v (n : Int)) = ((sIx n d (some v) : Nat) : Int) := by
  show (if v < 0 then max (v + (n : Int)) 0 else min v (n : Int)) = (((if v < 0 then (v + (n : Int)).toNat else min v.toNat n) : Nat) : Int)
  by_cases hv : v < 0
  · simp only [if_pos hv]; omega
  · simp only [if_neg hv]; omega
theorem adjust_gen (lo hi : Option Int) (n : Nat) : Builtin.Slice.sliceAdjust lo hi 1 (n : Int) = (((sIx n 0 lo : Nat) : Int), ((sIx n n hi : Nat) : Int)) := by
  have h1 : ¬ ((1 : Int) < 0) := by omega
  unfold Builtin.Slice.sliceAdjust
  simp only [h1, if_false]
  refine Prod.ext ?_ ?_
  · cases lo with
    | none => rfl
    | some v => exact clip_eq v n 0
  · cases hi with
    | none => rfl
    | some v => exact clip_eq v n n
theorem places_gen (i j : Nat) : Builtin.Slice.slicePlaces (i : Int) (j : Int) 1 = j - i := by
  unfold Builtin.Slice.slicePlaces
  have h1 : (1 : Int) > 0 := by omega
  simp only [h1, if_true, Int.ediv_one]
  split <;> omega
theorem slicePart_ {v : Value} {o : Option Int} {Q : Option Int → Shared → Prop} (p : IsPart v o) (h : Q o s) : wpAny (model prog w) A (Builtin.Slice.slicePartIndex v) Q E s := by
  cases p with
  | none => exact slicePart_none h
  | int i t => exact slicePart_int h
theorem sliceApplied_gen {sl : Addr} {vl vu : Value} {lo hi : Option Int} {n : Nat} {Q : Int × Int × Nat → Shared → Prop} (hs : s.heap.IsSliceOf sl vl vu .none) (pl : IsPart vl lo) (pu : IsPart vu hi)
    (h : Q (((sIx n 0 lo : Nat) : Int), 1, sIx n n hi - sIx n 0 lo) s) : wpAny (model prog w) A (Builtin.Slice.sliceApplied (.ref sl) (pure (n : Int))) Q E s := by
  obtain ⟨os, hos, hcs, hds⟩ := id hs
  unfold Builtin.Slice.sliceApplied Builtin.Slice.sliceFields
  refine wpAny_bind (wpAny_bind (wpAny_field hos hds (x := vl) rfl (wpAny_bind (wpAny_field hos hds (x := vu) rfl (wpAny_bind (wpAny_field hos hds (x := .none) rfl (wpAny_pure ?_)))))))
  refine wpAny_bind (slicePart_none ?_)
  show wpAny _ _ (if ((1 : Int) == 0) = true then _ else _) _ _ s
  rw [if_neg (by decide)]
  refine wpAny_bind (slicePart_ pl (wpAny_bind (slicePart_ pu (wpAny_bind (wpAny_pure ?_)))))
  show wpAny _ _ (match Builtin.Slice.sliceAdjust lo hi 1 (n : Int) with | (lo, hi) => pure (lo, (1 : Int), Builtin.Slice.slicePlaces lo hi 1)) _ _ s
  rw [adjust_gen lo hi n]
  show wpAny _ _ (pure (((sIx n 0 lo : Nat) : Int), (1 : Int), Builtin.Slice.slicePlaces ((sIx n 0 lo : Nat) : Int) ((sIx n n hi : Nat) : Int) 1)) _ _ s
  rw [places_gen]
  exact wpAny_pure h
theorem pick_gen (xs : Array Value) (i k : Nat) : ((List.range k).filterMap fun (m : Nat) => xs[((i : Int) + (m : Int) * 1).toNat]?).toArray = ((xs.toList.drop i).take k).toArray := by
  have e : (fun (m : Nat) => xs[((i : Int) + (m : Int) * 1).toNat]?) = fun m => xs[i + m]? := by
    funext m
    have : ((i : Int) + (m : Int) * 1).toNat = i + m := by omega
    rw [this]
  rw [e]
  have := pick_run xs i k
  rw [List.filterMap_map] at this
  have e2 : ((fun x => xs[x]?) ∘ fun x => i + x) = fun m => xs[i + m]? := rfl
  rw [e2] at this
  rw [this]

theorem getItem_tuple_cut {t sl : Addr} {items : Array Value} {vl vu : Value} {lo hi : Option Int} {Q : Value → Shared → Prop} (ht : IsTup s.heap t items) (hs : s.heap.IsSliceOf sl vl vu .none) (pl : IsPart vl lo) (pu : IsPart vu hi)
    (hw : ¬ (sIx items.size 0 lo = 0 ∧ sIx items.size items.size hi = items.size))
    (h : Q (.ref s.heap.objs.size) { s with heap := s.heap.push { cls := .type "tuple", data := .seq ((items.toList.drop (sIx items.size 0 lo)).take (sIx items.size items.size hi - sIx items.size 0 lo)).toArray } })
    (hsz : items.size ≤ sizeLine) : wpAny (model prog w) A (getItem (.ref t) (.ref sl)) Q E s := by
  have htake : sizeOk (.seq ((items.toList.drop (sIx items.size 0 lo)).take (sIx items.size items.size hi - sIx items.size 0 lo)).toArray) := by
    show ((items.toList.drop (sIx items.size 0 lo)).take (sIx items.size items.size hi - sIx items.size 0 lo)).toArray.size ≤ sizeLine
    rw [List.size_toArray, List.length_take, List.length_drop, Array.length_toList]
    omega
  have hj : sIx items.size items.size hi ≤ items.size := sIx_le _ _ (Nat.le_refl _) hi
  obtain ⟨os, hos, hcs, hds⟩ := id hs
  have hTs : s.TypeIs (.ref sl) "slice" := ⟨os, hos, hcs⟩
  unfold getItem
  try with_reducible refine wpAny_holding ?_
  first | refine wpAny_bind (wpAny_pure ?_) | skip
  refine wpAny_bind (wpAny_sequenceKey ht.typeIs (by decide) ?_)
  refine wpAny_bind (wpAny_callSpecial?_slot (name := Str.ofString "__getitem__") ht.typeIs PyProof.Rows.slot_tuple_getitem
    (wpAny_call_entry PyProof.Rows.slot_tuple_getitem ht.typeIs entry_tuple_getitem ?_ (args_tuple_getitem _ _)))
  show wpAny _ _ (Builtin.Tuple.tupleItemsOf (.ref t) >>= _) _ _ s
  refine wpAny_bind (tupleItemsOf_ ht ?_)
  refine wpAny_bind (wpAny_typeOf hTs ?_)
  rw [if_pos (by decide)]
  refine wpAny_bind (sliceApplied_gen hs pl pu ?_)
  have hno : ¬ ((((sIx items.size 0 lo : Nat) : Int) == 0 && (1 : Int) == 1 && (sIx items.size items.size hi - sIx items.size 0 lo) == items.size) = true) := by
    intro q
    rw [Bool.and_eq_true, Bool.and_eq_true] at q
    have q1 : ((sIx items.size 0 lo : Nat) : Int) = 0 := eq_of_beq q.1.1
    have q2 : sIx items.size items.size hi - sIx items.size 0 lo = items.size := eq_of_beq q.2
    exact hw ⟨by omega, by omega⟩
  show wpAny _ _ (if (((sIx items.size 0 lo : Nat) : Int) == 0 && (1 : Int) == 1 && (sIx items.size items.size hi - sIx items.size 0 lo) == items.size) = true then _ else _) _ _ s
  rw [if_neg hno, pick_gen]
  first
    | exact wpAny_bind (m := Builtin.Tuple.tupleExact _) (wpAny_newObj_type (wpAny_pure ⟨_, rfl, wpAny_pure h⟩) htake)
    | exact wpAny_bind (m := Builtin.Tuple.tupleExact _) (wpAny_newObj_type (wpAny_bind (wpAny_pure (wpAny_pure ⟨_, rfl, wpAny_pure h⟩))) htake)
    | exact wpAny_bind (wpAny_bind (m := Builtin.Tuple.tupleExact _) (wpAny_newObj_type (wpAny_pure (wpAny_pure ⟨_, rfl, wpAny_pure h⟩)) htake))
    | exact wpAny_bind (wpAny_bind (m := Builtin.Tuple.tupleExact _) (wpAny_newObj_type (wpAny_pure ⟨_, rfl, wpAny_pure h⟩) htake))
end
end HT

namespace L2
open PySem PySem.Spec PyProof.Rows

/-! ### the parts of a slice -/
noncomputable abbrev TO := St → Hp → (Option Int → Hp → Prop) → Prop
/-- a slice's part (left out, or an int) -/
noncomputable def PO (X : Cx) (e : Option Expr) (t : TO) : Prop :=
  ∀ (pins : List (Addr × Obj)) (s : Shared) (σ : St) (H : Hp) (Q : Option Int → Hp → Prop), Inv X pins σ H s → t σ H Q →
    wpAny (model X.prog X.w) X.A (evalPart e X.env) (fun u s' => ∃ o H', Inv X pins σ H' s' ∧ IsPart u o ∧ Q o H') X.xe s
noncomputable def tNoPart : TO := fun _ H Q => Q none H
noncomputable def tPart (t : TE) : TO := fun σ H Q => t σ H fun x H1 => ∃ i, x = .int i ∧ Q (some i) H1

section
variable {X : Cx} {e : Expr} {te : TE} {lo hi : Option Expr} {tl th : TO} {pos p2 : Pos}

theorem po_none : PO X none tNoPart := by
  intro pins s σ H Q I h
  rw [evalPart_none]
  exact wpAny_pure ⟨none, H, I, .none, h⟩
theorem po_some (h : PE X e te) : PO X (some e) (tPart te) := by
  intro pins s σ H Q I hw
  rw [evalPart_some]
  refine thn (h pins s σ H _ I hw) fun u s1 ⟨x, H1, I1, r1, q1⟩ => ?_
  obtain ⟨i, rfl, q⟩ := q1
  obtain ⟨t, rfl⟩ := r1
  exact ⟨some i, H1, I1, .int i t, q⟩

/-- what a slice of a value is, by values: the slice object stands at sl -/
noncomputable def SlR (X : Cx) (r : V → Option Int → Option Int → Hp → VK → Prop) : Prop :=
  ∀ (pins : List (Addr × Obj)) (s : Shared) (σ : St) (H : Hp) (x : V) (v vl vu : Value) (lo hi : Option Int) (sl : Addr) (Q : VK), Inv X pins σ H s → RelV x v → s.heap.IsSliceOf sl vl vu .none → IsPart vl lo → IsPart vu hi → r x lo hi H Q →
    ∃ T id, typeLookup (.type T) "__getitem__" = pure (some (.builtin id)) ∧ s.TypeIs v T ∧ wpAny (model X.prog X.w) X.A (getItem v (.ref sl)) (EP X pins σ Q) X.xe s
theorem SlR.or {r r' : V → Option Int → Option Int → Hp → VK → Prop} (h : SlR X r) (h' : SlR X r') : SlR X (fun x lo hi H Q => r x lo hi H Q ∨ r' x lo hi H Q) := by
  intro pins s σ H x v vl vu lo hi sl Q I rx hs pl pu q
  rcases q with q | q
  · exact h pins s σ H x v vl vu lo hi sl Q I rx hs pl pu q
  · exact h' pins s σ H x v vl vu lo hi sl Q I rx hs pl pu q
noncomputable def tSl (r : V → Option Int → Option Int → Hp → VK → Prop) (te : TE) (tl th : TO) : TE := fun σ H Q => te σ H fun x H1 => tl σ H1 fun l H2 => th σ H2 fun u H3 => r x l u H3 Q
/-- a[lo:hi], any a -/
theorem pe_slice {r : V → Option Int → Option Int → Hp → VK → Prop} (hr : SlR X r) (he : PE X e te) (hl : PO X lo tl) (hu : PO X hi th) : PE X (.Subscript e (.Slice lo hi none p2) pos) (tSl r te tl th) := by
  intro pins s σ H Q I h
  refine Subscript_ (thn (he pins s σ H _ I h) fun v s1 ⟨x, H1, I1, r1, q1⟩ => ?_)
  refine wpAny_Slice (thn (hl pins s1 σ H1 _ I1 q1) fun vl s2 ⟨l, H2, I2, pl, q2⟩ => thn (hu pins s2 σ H2 _ I2 q2) fun vu s3 ⟨u, H3, I3, pu, q3⟩ => ?_)
  rw [evalPart_none]
  refine wpAny_pure ?_
  have I4 : Inv X pins σ H3 { s3 with heap := s3.heap.push { cls := .type "slice", data := .fields #[vl, vu, .none] } } := I3.kept (t' := s3.toks) fun b ob q => Heap.get?_push_of_some _ q
  obtain ⟨T, id, hT, ht, hg⟩ := hr pins { s3 with heap := s3.heap.push { cls := .type "slice", data := .fields #[vl, vu, .none] } } σ H3 x v vl vu l u s3.heap.objs.size Q I4 r1 (Heap.IsSliceOf.new ..) pl pu q3
  show wpAny (model X.prog X.w) X.A (subscriptTail e (.Slice lo hi none p2) v (.ref s3.heap.objs.size)) (EP X pins σ Q) X.xe { s3 with heap := s3.heap.push { cls := .type "slice", data := .fields #[vl, vu, .none] } }
  exact tail_any (ops := [.ref s3.heap.objs.size, v]) ht hT hg (by with_unfolding_all rfl)

/-- the items of xs[lo:hi] -/
noncomputable def cutV (xs : List V) (lo hi : Option Int) : List V := (xs.drop (HT.sIx xs.length 0 lo)).take (HT.sIx xs.length xs.length hi - HT.sIx xs.length 0 lo)
theorem cutV_length (xs : List V) (lo hi : Option Int) : (cutV xs lo hi).length ≤ xs.length := by
  unfold cutV
  rw [List.length_take, List.length_drop]
  omega
/-- t[lo:hi], not the whole of it (the whole would be t itself) -/
noncomputable def rSlT (K : PySem.W.Frag) : V → Option Int → Option Int → Hp → VK → Prop := fun x lo hi H Q => ∃ a xs, x = .ref a ∧ SqT K H a xs ∧
  ¬ (HT.sIx xs.length 0 lo = 0 ∧ HT.sIx xs.length xs.length hi = xs.length) ∧ ∀ p, H p = none → Q (.ref p) (upd H p (.tup (cutV xs lo hi)))
theorem sl_tup : SlR X (rSlT X.K) := by
  intro pins s σ H x v vl vu lo hi sl Q I rx hs pl pu h
  obtain ⟨a, xs, rfl, hx, hw, q⟩ := h
  cases rx
  obtain ⟨its, r, ht, hz⟩ := I.tuple hx
  have hlen : its.toArray.size = xs.length := by rw [List.size_toArray]; exact r.length.symm
  refine ⟨"tuple", _, PyProof.Rows.slot_tuple_getitem.lookup, ht.typeIs, ?_⟩
  refine HT.getItem_tuple_cut ht hs pl pu (by rw [hlen]; exact hw) ?_ (by rw [hlen]; exact hz)
  rw [hlen]
  refine ⟨.ref s.heap.objs.size, _, I.laid (t' := s.toks) (o := .tup (cutV xs lo hi)) (fun b ob q => Heap.get?_push_of_some _ q) (Nat.le_refl _) ?_, rfl, q _ (I.hok.fresh (Nat.le_refl _))⟩
  exact ⟨Nat.le_trans (cutV_length xs lo hi) hz, _, (r.drop (HT.sIx xs.length 0 lo)).take (HT.sIx xs.length xs.length hi - HT.sIx xs.length 0 lo), TupD.new _ _⟩

/-- t + u, t not empty: u empty gives t itself -/
noncomputable def rCatT (K : PySem.W.Frag) : R2 := fun x y H Q => ∃ a b xs ys, x = .ref a ∧ y = .ref b ∧ SqT K H a xs ∧ SqT K H b ys ∧ xs ≠ [] ∧ xs.length + ys.length ≤ sizeLine ∧
  (ys = [] → Q (.ref a) H) ∧ (ys ≠ [] → ∀ p, H p = none → Q (.ref p) (upd H p (.tup (xs ++ ys))))
theorem Vals.nil_iff {xs : List V} {us : List Value} (r : Vals xs us) : us = [] ↔ xs = [] := by
  cases r with
  | nil => simp
  | cons _ _ => simp
theorem op_catT : OpR X (binaryOp .Add) (rCatT X.K) := by
  intro pins s σ H x y v u Q I rx ry h
  obtain ⟨a, b, xs, ys, rfl, rfl, ha, hb, hx, hz, q1, q2⟩ := h
  cases rx
  cases ry
  obtain ⟨its, r1, p1, _⟩ := I.tuple ha
  obtain ⟨its2, r2, p2, _⟩ := I.tuple hb
  refine HT.cat_tup p1 p2 (fun z => hx (r1.nil_iff.mp z)) (fun z => ⟨.ref a, H, I, rfl, q1 (r2.nil_iff.mp z)⟩) (fun z => ?_) (by rw [← r1.length, ← r2.length]; exact hz)
  refine ⟨.ref s.heap.objs.size, _, I.laid (t' := s.toks) (o := .tup (xs ++ ys)) (fun b ob q => Heap.get?_push_of_some _ q) (Nat.le_refl _) ?_, rfl, q2 (fun w => z (r2.nil_iff.mpr w)) _ (I.hok.fresh (Nat.le_refl _))⟩
  exact ⟨by rw [List.length_append]; exact hz, _, r1.append r2, TupD.new _ _⟩
end
end L2

namespace L2
open PySem PySem.Spec PyProof.Rows

/-! ### places -/
/-- the place that an index of any sign means -/
noncomputable def ixN (n : Nat) (i : Int) : Option Nat := if 0 ≤ i then (if i < n then some i.toNat else none) else if -(n : Int) ≤ i then some (i + n).toNat else none
noncomputable def atI {α : Type} (xs : List α) (i : Int) : Option α := (ixN xs.length i).bind fun j => xs[j]?
theorem ixN_seq {n : Nat} {i : Int} {j : Nat} (h : ixN n i = some j) : seqIndex? i n = some j ∧ j < n ∧ -(n : Int) ≤ i ∧ i < n := by
  unfold ixN at h
  by_cases h0 : 0 ≤ i
  · rw [if_pos h0] at h
    by_cases h1 : i < n
    · rw [if_pos h1] at h
      have e : i.toNat = j := Option.some.inj h
      exact ⟨by rw [seqIndex_of h0 h1, e], by omega, by omega, h1⟩
    · rw [if_neg h1] at h; cases h
  · rw [if_neg h0] at h
    by_cases h1 : -(n : Int) ≤ i
    · rw [if_pos h1] at h
      have e : (i + n).toNat = j := Option.some.inj h
      exact ⟨by rw [seqIndex_neg (by omega) h1, e], by omega, h1, by omega⟩
    · rw [if_neg h1] at h; cases h
theorem atI_get {α : Type} {xs : List α} {i : Int} {v : α} (h : atI xs i = some v) : ∃ j, seqIndex? i xs.length = some j ∧ xs[j]? = some v ∧ j < xs.length ∧ -(xs.length : Int) ≤ i ∧ i < xs.length := by
  unfold atI at h
  cases e : ixN xs.length i with
  | none => rw [e] at h; cases h
  | some j =>
    rw [e] at h
    obtain ⟨h1, h2, h3, h4⟩ := ixN_seq e
    exact ⟨j, h1, h, h2, h3, h4⟩
theorem atI_nat {α : Type} {xs : List α} {j : Nat} {v : α} (h : xs[j]? = some v) : atI xs (j : Int) = some v := by
  have hj : j < xs.length := (List.getElem?_eq_some_iff.mp h).1
  have e : ixN xs.length (j : Int) = some j := by
    unfold ixN
    rw [if_pos (by omega), if_pos (by omega)]; simp
  unfold atI; rw [e]; exact h
/-! ### what may be subscripted -/
/-- what stands as an index of a plain subscript -/
noncomputable def PlainIx (b : Expr) : Prop := ∀ o i, subscripted b false o i = operate [o, i] (getItem o i)
/-- a subscript by values -/
noncomputable def IxR (X : Cx) (r : R2) : Prop :=
  ∀ (value slice : Expr) (pins : List (Addr × Obj)) (s : Shared) (σ : St) (H : Hp) (x y : V) (v u : Value) (Q : VK), Inv X pins σ H s → RelV x v → RelV y u → r x y H Q →
    subscripted slice false v u = operate [v, u] (getItem v u) → wpAny (model X.prog X.w) X.A (subscriptTail value slice v u) (EP X pins σ Q) X.xe s
/-- a call of a builtin's method by values: the receiver, the arguments -/
noncomputable def MtR (X : Cx) (id : String) (r : V → List V → Hp → VK → Prop) : Prop :=
  ∀ (pins : List (Addr × Obj)) (s : Shared) (σ : St) (H : Hp) (x : V) (xs : List V) (v : Value) (us : List Value) (Q : VK), Inv X pins σ H s → RelV x v → Vals xs us → r x xs H Q →
    wpAny (model X.prog X.w) X.A (call (.builtin id) (v :: us)) (EP X pins σ Q) X.xe s
section
variable {X : Cx} {a b : Expr} {ta tb : TE} {pos : Pos}
theorem IxR.or {r r' : R2} (h : IxR X r) (h' : IxR X r') : IxR X (fun x y H Q => r x y H Q ∨ r' x y H Q) := by
  intro value slice pins s σ H x y v u Q I rx ry q hs
  rcases q with q | q
  · exact h value slice pins s σ H x y v u Q I rx ry q hs
  · exact h' value slice pins s σ H x y v u Q I rx ry q hs
/-- a[b] -/
theorem pe_ix {r : R2} (hr : IxR X r) (ha : PE X a ta) (hb : PE X b tb) (hs : PlainIx b) : PE X (.Subscript a b pos) (tOp r ta tb) := by
  intro pins s σ H Q I h
  exact Subscript_ (binT ha hb I h fun v u s2 x y H2 I2 rx ry q => hr a b pins s2 σ H2 x y v u Q I2 rx ry q (hs _ _))

noncomputable def rIxL (K : PySem.W.Frag) : R2 := fun x y H Q => ∃ p xs i v, x = .ref p ∧ y = .int i ∧ SqL K H p xs ∧ atI xs i = some v ∧ Q v H
noncomputable def rIxT (K : PySem.W.Frag) : R2 := fun x y H Q => ∃ p xs i v, x = .ref p ∧ y = .int i ∧ SqT K H p xs ∧ atI xs i = some v ∧ Q v H
noncomputable def rIxS : R2 := fun x y H Q => ∃ z i c, x = .str z ∧ y = .int i ∧ z.length ≤ sizeLine ∧ atI z.cps.toList i = some c ∧ Q (.str ⟨#[c]⟩) H
theorem ix_list : IxR X (rIxL X.K) := by
  intro value slice pins s σ H x y v u Q I rx ry h hs
  obtain ⟨p, xs, i, z, rfl, rfl, hq, he, q⟩ := h
  cases rx
  obtain ⟨t, rfl⟩ := ry
  obtain ⟨its, r, pl, hz⟩ := I.list hq
  obtain ⟨j, h1, h2, h3, h4, h5⟩ := atI_get he
  obtain ⟨w, ew, rw'⟩ := r.get h2
  have hl := r.length
  have hn := line63
  have fin : EP X pins σ Q w s := ⟨z, H, I, rw', q⟩
  by_cases h0 : 0 ≤ i
  · have hj : i.toNat = j := by
      rw [seqIndex_of h0 h5] at h1
      exact Option.some.inj h1
    exact item_listR pl.isList h0 (by omega) (by rw [hj]; simpa using ew) fin hs
  · have hj : (i + (its.toArray.size : Int)).toNat = j := by
      rw [seqIndex_neg (by omega) h4] at h1
      rw [List.size_toArray, ← hl]
      exact Option.some.inj h1
    exact subscriptTail_builtinR (x := w) pl.isList.typeIs slot_list_getitem.lookup
      (wpAny_getItem_list_neg (Q := fun r s' => r = w ∧ EP X pins σ Q r s') pl.isList (by omega) (by rw [List.size_toArray] <;> omega) (by omega) (by rw [hj]; simpa using ew) ⟨rfl, fin⟩) hs
theorem ix_tup : IxR X (rIxT X.K) := by
  intro value slice pins s σ H x y v u Q I rx ry h hs
  obtain ⟨p, xs, i, z, rfl, rfl, hq, he, q⟩ := h
  cases rx
  obtain ⟨t, rfl⟩ := ry
  obtain ⟨its, r, pl, hz⟩ := I.tuple hq
  obtain ⟨j, h1, h2, h3, h4, h5⟩ := atI_get he
  obtain ⟨w, ew, rw'⟩ := r.get h2
  have hl := r.length
  have hn := line63
  have fin : EP X pins σ Q w s := ⟨z, H, I, rw', q⟩
  exact subscriptTail_builtinR (x := w) pl.typeIs slot_tuple_getitem.lookup
    (getItem_tuple (j := j) (Q := fun r s' => r = w ∧ EP X pins σ Q r s') pl (by omega) (by omega) (by rw [List.size_toArray, ← hl]; exact h1) (by simpa using ew) ⟨rfl, fin⟩) hs
theorem ix_str : IxR X rIxS := by
  intro value slice pins s σ H x y v u Q I rx ry h hs
  obtain ⟨z, i, c, rfl, rfl, hz, he, q⟩ := h
  obtain ⟨t, rfl⟩ := rx
  obtain ⟨t', rfl⟩ := ry
  obtain ⟨j, h1, h2, h3, h4, h5⟩ := atI_get he
  have hl : z.cps.toList.length = z.length := by simp [Str.length]
  rw [hl] at h1 h4 h5
  have hn := line63
  exact tail_any (typeIs_str s z t) slot_str_getitem.lookup (getItem_str (c := c) (by
    have e1 : decide (i < -(2 ^ 63 : Int)) = false := decide_eq_false (by omega)
    have e2 : decide (i ≥ 2 ^ 63) = false := decide_eq_false (by omega)
    rw [e1, e2, Bool.or_false]) (by rw [h1]; simpa using h2) ⟨.str ⟨#[c]⟩, H, I.tok _, ⟨_, rfl⟩, q⟩) hs
/-- list, tuple or str -/
noncomputable def rIx (K : PySem.W.Frag) : R2 := fun x y H Q => rIxL K x y H Q ∨ rIxT K x y H Q ∨ rIxS x y H Q
theorem ix_seq : IxR X (rIx X.K) := ix_list.or (ix_tup.or ix_str)

/-! ### slices -/
theorem slice_bounds (lo hi : Option Int) (n : Nat) : (sliceBounds lo hi none n).1 = ((HT.sIx n 0 lo : Nat) : Int) ∧ (sliceBounds lo hi none n).2.1 = ((HT.sIx n n hi : Nat) : Int) ∧ (sliceBounds lo hi none n).2.2 = 1 := by
  refine ⟨?_, ?_, rfl⟩
  · cases lo with
    | none => simp [sliceBounds, HT.sIx]
    | some i =>
      simp only [sliceBounds, HT.sIx, Option.getD_none, show (1 : Int) > 0 by decide, if_true]
      by_cases h : i < 0
      · simp only [h, if_true] <;> omega
      · simp only [h, if_false] <;> omega
  · cases hi with
    | none => simp [sliceBounds, HT.sIx]
    | some i =>
      simp only [sliceBounds, HT.sIx, Option.getD_none, show (1 : Int) > 0 by decide, if_true]
      by_cases h : i < 0
      · simp only [h, if_true] <;> omega
      · simp only [h, if_false] <;> omega
theorem slicePick_cut (its : List Value) (lo hi : Option Int) : slicePick its.toArray lo hi none = ((its.drop (HT.sIx its.length 0 lo)).take (HT.sIx its.length its.length hi - HT.sIx its.length 0 lo)).toArray := by
  obtain ⟨h1, h2, h3⟩ := slice_bounds lo hi its.toArray.size
  unfold slicePick
  rw [h1, h2, h3]
  simp only [sliceRange_one, pick_run, List.size_toArray] <;> rfl
/-- xs[lo:hi] of a list: a new list -/
noncomputable def rSlL (K : PySem.W.Frag) : V → Option Int → Option Int → Hp → VK → Prop := fun x lo hi H Q => ∃ a xs, x = .ref a ∧ SqL K H a xs ∧ ∀ p, H p = none → Q (.ref p) (upd H p (.lst (cutV xs lo hi)))
theorem sl_list : SlR X (rSlL X.K) := by
  intro pins s σ H x v vl vu lo hi sl Q I rx hs pl pu h
  obtain ⟨a, xs, rfl, hx, q⟩ := h
  cases rx
  obtain ⟨its, r, ht, hz⟩ := I.list hx
  have hlen := r.length
  refine ⟨"list", _, slot_list_getitem.lookup, ht.isList.typeIs, ?_⟩
  refine wpAny_getItem_list_slice ht.isList hs pl pu .none (by simp) ?_ (by rw [List.size_toArray] <;> omega)
  rw [slicePick_cut, ← hlen]
  refine ⟨.ref s.heap.objs.size, _, I.laid (t' := s.toks) (o := .lst (cutV xs lo hi)) (fun b ob q => Heap.get?_push_of_some _ q) (Nat.le_refl _) ?_, rfl, q _ (I.hok.fresh (Nat.le_refl _))⟩
  exact ⟨Nat.le_trans (cutV_length xs lo hi) hz, _, 0, (r.drop (HT.sIx xs.length 0 lo)).take (HT.sIx xs.length xs.length hi - HT.sIx xs.length 0 lo), Heap.get?_push_size _ rfl⟩

/-! ### in, not in: flat items -/
noncomputable def flatV : V → Bool
  | .non => true
  | .bl _ => true
  | .int _ => true
  | .str _ => true
  | _ => false
/-- == of flat values -/
noncomputable def eqV : V → V → Bool
  | .non, .non => true
  | .bl a, .bl b => a == b
  | .bl a, .int b => (if a then 1 else 0) == b
  | .int a, .bl b => a == (if b then 1 else 0)
  | .int a, .int b => a == b
  | .str a, .str b => a == b
  | _, _ => false
theorem eqAt_V {A : Around} {s : Shared} {y x : V} {u v : Value} (ry : RelV y u) (rx : RelV x v) (fy : flatV y = true) (fx : flatV x = true) : SeqAt.EqAt A s u v (eqV y x) := by
  cases y with
  | non =>
    cases ry
    cases x with
    | non => cases rx; exact SeqAt.EqAt.same _
    | bl b => cases rx; exact SeqAt.EqAt.none_bool b
    | int b => obtain ⟨t, rfl⟩ := rx; exact SeqAt.EqAt.none_int b t
    | str b => obtain ⟨t, rfl⟩ := rx; exact SeqAt.EqAt.none_str b t
    | _ => exact absurd (show false = true from fx) Bool.false_ne_true
  | bl a =>
    cases ry
    cases x with
    | non => cases rx; exact SeqAt.EqAt.bool_none a
    | bl b => cases rx; exact SeqAt.EqAt.bool_bool a b
    | int b => obtain ⟨t, rfl⟩ := rx; exact SeqAt.EqAt.bool_int a b t
    | str b => obtain ⟨t, rfl⟩ := rx; exact SeqAt.EqAt.bool_str a b t
    | _ => exact absurd (show false = true from fx) Bool.false_ne_true
  | int a =>
    obtain ⟨t', rfl⟩ := ry
    cases x with
    | non => cases rx; exact SeqAt.EqAt.int_none a t'
    | bl b => cases rx; exact SeqAt.EqAt.int_bool a t' b
    | int b => obtain ⟨t, rfl⟩ := rx; exact SeqAt.EqAt.int_int a t' b t
    | str b => obtain ⟨t, rfl⟩ := rx; exact SeqAt.EqAt.int_str a t' b t
    | _ => exact absurd (show false = true from fx) Bool.false_ne_true
  | str a =>
    obtain ⟨t', rfl⟩ := ry
    cases x with
    | non => cases rx; exact SeqAt.EqAt.str_none a t'
    | bl b => cases rx; exact SeqAt.EqAt.str_bool a t' b
    | int b => obtain ⟨t, rfl⟩ := rx; exact SeqAt.EqAt.str_int a t' b t
    | str b => obtain ⟨t, rfl⟩ := rx; exact SeqAt.EqAt.str_str a t' b t
    | _ => exact absurd (show false = true from fx) Bool.false_ne_true
  | _ => exact absurd (show false = true from fy) Bool.false_ne_true
/-- the items' answers, read off the values (a value's own answer does not lean on its token) -/
noncomputable def eqU (x : V) (u : Value) : Bool := match u with
  | .none => eqV .non x
  | .bool b => eqV (.bl b) x
  | .int i _ => eqV (.int i) x
  | .str z _ => eqV (.str z) x
  | _ => false
theorem eqU_of {x y : V} {u : Value} (r : RelV y u) (f : flatV y = true) : eqU x u = eqV y x := by
  cases y with
  | non => cases r; rfl
  | bl b => cases r; rfl
  | int i => obtain ⟨t, rfl⟩ := r; rfl
  | str z => obtain ⟨t, rfl⟩ := r; rfl
  | _ => exact absurd (show false = true from f) Bool.false_ne_true
theorem any_eqU {x : V} : ∀ {xs : List V} {us : List Value}, Vals xs us → xs.all flatV = true → us.any (eqU x) = xs.any fun y => eqV y x
  | _, _, .nil, _ => rfl
  | y :: xs, u :: us, .cons r t, f => by
    rw [List.all_cons, Bool.and_eq_true] at f
    rw [List.any_cons, List.any_cons, eqU_of r f.1, any_eqU t f.2]
theorem mem_eqAt {A : Around} {s : Shared} {x : V} {v : Value} (rx : RelV x v) (fx : flatV x = true) : ∀ {xs : List V} {us : List Value}, Vals xs us → xs.all flatV = true → ∀ u ∈ us, SeqAt.EqAt A s u v (eqU x u)
  | _, _, .nil, _ => fun u hu => by cases hu
  | y :: xs, u :: us, .cons r t, f => fun u' hu => by
    rw [List.all_cons, Bool.and_eq_true] at f
    rcases List.mem_cons.mp hu with rfl | hu
    · rw [eqU_of r f.1]; exact eqAt_V r rx f.1 fx
    · exact mem_eqAt rx fx t f.2 u' hu
noncomputable def inV (x : V) (xs : List V) : Bool := xs.any fun y => eqV y x
/-- x in a list or tuple of flat items -/
noncomputable def rIn (K : PySem.W.Frag) (neg : Bool) : R2 := fun x y H Q => ∃ p xs, y = .ref p ∧ (SqL K H p xs ∨ SqT K H p xs) ∧ flatV x = true ∧ xs.all flatV = true ∧ Q (.bl (if neg then !inV x xs else inV x xs)) H
theorem op_in_seq : OpR X (compareOp .In) (rIn X.K false) := by
  intro pins s σ H x y v u Q I rx ry h
  obtain ⟨p, xs, rfl, hq, fx, fs, q⟩ := h
  cases ry
  rcases hq with hq | hq
  · obtain ⟨its, r, pl, hz⟩ := I.list hq
    refine SeqAt.in_listAt (eqU x) pl.isList (fun w hw => mem_eqAt rx fx r fs w (by simpa using hw)) ⟨.bl _, H, I, rfl, ?_⟩
    rw [show its.toArray.any (eqU x) = its.any (eqU x) by simp, any_eqU r fs]
    exact q
  · obtain ⟨its, r, pl, hz⟩ := I.tuple hq
    refine SeqAt.in_tupleAt (eqU x) pl (fun w hw => mem_eqAt rx fx r fs w (by simpa using hw)) ⟨.bl _, H, I, rfl, ?_⟩
    rw [show its.toArray.any (eqU x) = its.any (eqU x) by simp, any_eqU r fs]
    exact q
/-! ### len, list(x), tuple(x) of any list or tuple that is read -/
theorem call_len_seq : CallR X (.builtin "len") (fun xs H Q => ∃ p ys, xs = [.ref p] ∧ (SqL X.K H p ys ∨ SqT X.K H p ys) ∧ Q (.int ys.length) H) := by
  intro pins s σ H xs us Q I r h
  obtain ⟨p, ys, rfl, hq, q⟩ := h
  obtain ⟨u, rfl, rx⟩ := vals1 r
  cases rx
  have hn := line63
  rcases hq with hq | hq
  · obtain ⟨its, r', pl, hz⟩ := I.list hq
    have hlen := r'.length
    exact Calls.call_len_list pl.isList (by simp only [List.size_toArray] <;> omega) ⟨.int ys.length, H, I.tok _, ⟨s.toks + 1, by rw [List.size_toArray, hlen]⟩, q⟩
  · obtain ⟨its, r', pl, hz⟩ := I.tuple hq
    have hlen := r'.length
    exact len_tuple pl (by simp only [List.size_toArray] <;> omega) ⟨.int ys.length, H, I.tok _, ⟨s.toks + 1, by rw [List.size_toArray, hlen]⟩, q⟩
theorem call_list_of : CallR X (.type "list") (fun xs H Q => ∃ p ys, xs = [.ref p] ∧ (SqL X.K H p ys ∨ SqT X.K H p ys) ∧ ∀ l, H l = none → Q (.ref l) (upd H l (.lst ys))) := by
  intro pins s σ H xs us Q I r h
  obtain ⟨p, ys, rfl, hq, q⟩ := h
  obtain ⟨u, rfl, rx⟩ := vals1 r
  cases rx
  have fin : ∀ (its : List Value), Vals ys its → ys.length ≤ sizeLine → ∀ (h' : Heap) (c' : Nat), (∀ b o', s.heap.get? b = some o' → h'.get? b = some o') →
      h'.get? s.heap.objs.size = some { cls := .type "list", dict := none, data := .seq its.toArray c', slots := #[] } → EP X pins σ Q (.ref s.heap.objs.size) { s with heap := h' } := fun its r' hz h' c' kp e =>
    ⟨.ref s.heap.objs.size, _, I.laid (t' := s.toks) kp (Nat.le_refl _) (show ObjOk X.prog X.w _ h' _ (.lst ys) from ⟨hz, its, c', r', e⟩), rfl, q _ (I.hok.fresh (Nat.le_refl _))⟩
  rcases hq with hq | hq
  · obtain ⟨its, r', pl, hz⟩ := I.list hq
    have hlen := r'.length
    obtain ⟨o, ho, hc, n, hd⟩ := pl.isList
    exact call_list_seq p (.inl rfl) ho hc hd (fun h' c' kp e => fin its r' hz h' c' kp e) (by simp only [List.size_toArray] <;> omega)
  · obtain ⟨its, r', pl, hz⟩ := I.tuple hq
    have hlen := r'.length
    obtain ⟨o, ho, hc, n, hd⟩ := pl
    exact call_list_seq p (.inr rfl) ho hc hd (fun h' c' kp e => fin its r' hz h' c' kp e) (by simp only [List.size_toArray] <;> omega)
theorem call_tuple_of : CallR X (.type "tuple") (fun xs H Q => ∃ p ys, xs = [.ref p] ∧ ((SqL X.K H p ys ∧ ∀ l, H l = none → Q (.ref l) (upd H l (.tup ys))) ∨ (SqT X.K H p ys ∧ Q (.ref p) H))) := by
  intro pins s σ H xs us Q I r h
  obtain ⟨p, ys, rfl, h⟩ := h
  obtain ⟨u, rfl, rx⟩ := vals1 r
  cases rx
  rcases h with ⟨hq, q⟩ | ⟨hq, q⟩
  · obtain ⟨its, r', pl, hz⟩ := I.list hq
    have hlen := r'.length
    refine call_tuple_list pl.isList (fun h' kp => ?_) (by simp only [List.size_toArray] <;> omega)
    have I1 : Inv X pins σ H { s with heap := h' } := I.kept (t' := s.toks) kp
    have I2 : Inv X pins σ (upd H h'.objs.size (.tup ys)) { s with heap := h'.push { cls := .type "tuple", data := .seq its.toArray } } :=
      I1.laid (t' := s.toks) (fun b o e => Heap.get?_push_of_some _ e) (Nat.le_refl _) (show ObjOk X.prog X.w _ _ _ (.tup ys) from ⟨hz, its, r', TupD.new _ _⟩)
    exact ⟨.ref h'.objs.size, _, I2, rfl, q _ (I1.hok.fresh (Nat.le_refl _))⟩
  · obtain ⟨its, r', pl, hz⟩ := I.tuple hq
    exact call_tuple_same pl ⟨.ref p, H, I, rfl, q⟩

/-! ### the call of a builtin's method: o.m(..) -/
/-- the value is of that builtin type -/
noncomputable def tyV (K : PySem.W.Frag) (T : String) (x : V) (H : Hp) : Prop := match x with
  | .str _ => T = "str"
  | .int _ => T = "int"
  | .ref p => (T = "list" ∧ ∃ xs, SqL K H p xs) ∨ (T = "tuple" ∧ ∃ o, K.lookup p = some o ∧ o.cls = .type "tuple" ∧ o.dict = none) ∨
      (T = "dict" ∧ ((∃ kvs, H p = some (.dK kvs)) ∨ ∃ kvs, H p = some (.dT kvs))) ∨ (T = "set" ∧ ∃ S n, H p = some (.set S n))
  | _ => False
theorem tyV_is {pins : List (Addr × Obj)} {σ : St} {H : Hp} {s : Shared} {T : String} {x : V} {v : Value} (I : Inv X pins σ H s) (r : RelV x v) (ty : tyV X.K T x H) :
    s.TypeIs v T ∧ ∀ a, v = .ref a → ∃ ob, s.heap.get? a = some ob ∧ ob.dict = none := by
  cases x with
  | str z =>
    obtain ⟨t, rfl⟩ := r
    cases (show T = "str" from ty)
    exact ⟨typeIs_str s z t, fun _ e => nomatch e⟩
  | int i =>
    obtain ⟨t, rfl⟩ := r
    cases (show T = "int" from ty)
    exact ⟨typeIs_int s i t, fun _ e => nomatch e⟩
  | ref p =>
    cases r
    rcases ty with ⟨rfl, xs, hq⟩ | ⟨rfl, o, hk, hc, hd⟩ | ⟨rfl, hk⟩ | ⟨rfl, S, n, hk⟩
    · obtain ⟨its, _, pl, _⟩ := I.list hq
      refine ⟨pl.isList.typeIs, fun a e => ?_⟩
      cases e
      obtain ⟨o, n, e, c, hd, _⟩ := pl
      exact ⟨o, e, hd⟩
    · refine ⟨⟨o, I.kIn p o hk, hc⟩, fun a e => ?_⟩
      cases e
      exact ⟨o, I.kIn _ o hk, hd⟩
    · have z : ∃ o, s.heap.get? p = some o ∧ o.ExactDict := by
        rcases hk with ⟨kvs, hk⟩ | ⟨kvs, hk⟩
        · obtain ⟨_, _, _, _, o, _, _, e, ex, _⟩ := I.hok p _ hk
          exact ⟨o, e, ex⟩
        · obtain ⟨_, _, _, _, o, _, _, e, ex, _⟩ := I.hok p _ hk
          exact ⟨o, e, ex⟩
      obtain ⟨o, e, ex⟩ := z
      refine ⟨⟨o, e, ex.1⟩, fun a e2 => ?_⟩
      cases e2
      exact ⟨o, e, ex.2.1⟩
    · obtain ⟨⟨o, _, _, _, e, ex, _⟩, _⟩ := I.hok p _ hk
      refine ⟨⟨o, e, ex.1⟩, fun a e2 => ?_⟩
      cases e2
      exact ⟨o, e, ex.2.1⟩
  | _ => exact False.elim ty
noncomputable def tBM (K : PySem.W.Frag) (T : String) (r : V → List V → Hp → VK → Prop) (to : TE) (t : TA) : TE := fun σ H Q => to σ H fun x H1 => tyV K T x H1 ∧ t σ H1 fun xs H2 => r x xs H2 Q
variable {o e : Expr} {es : List Expr} {to : TE} {t : TA} {name : Str} {apos cpos : Pos} {T id : String} {r : V → List V → Hp → VK → Prop}
theorem pe_bm (pa : PlainAttrs T) (slot : Slot T name id) (hty : typeOf (.builtin id) = pure (.type "method_descriptor")) (hm : MtR X id r) (ho : PE X o to) (ha : PA X (e :: es) t)
    (hbase : attributeBase o name X.env (eval o X.env) = eval o X.env := by rfl)
    (hfew : ((backTo cpos (starEach (e :: es) X.env)).all (fun x => !x.1) && (backToKw cpos (keywordEach [] X.env)).all (fun x => x.1.isSome)
      && decide ((e :: es).length + ([] : List Keyword).length + (if ([] : List Keyword).isEmpty then 0 else 1) < 30)) = true := by rfl)
    (hline : (apos.endLine == cpos.line) = true := by rfl) (hs : starEach (e :: es) X.env = (false, eval e X.env) :: starEach es X.env := by rfl) (hplain : (backTo cpos (starEach es X.env)).any (·.1) = false := by rfl) :
    PE X (.Call (.Attribute o name apos) (e :: es) [] cpos) (tBM X.K T r to t) := by
  intro pins s σ H Q I h
  refine wpAny_Call_method_late hbase hfew hline rfl (thn (ho pins s σ H _ I h) fun v s1 ⟨x, H1, I1, r1, ty, q1⟩ => ?_)
  obtain ⟨h1, h2⟩ := tyV_is I1 r1 ty
  refine ⟨T, id, pa, slot, hty, h1, h2, ?_⟩
  have hA := ha cpos pins s1 σ H1 _ I1 q1
  rw [hs] at hA ⊢
  refine Calls.callWith_builtin (by show (false || (backTo cpos (starEach es X.env)).any (·.1)) = false; rw [hplain] <;> rfl) (Calls.evalArgs_plain ?_)
  exact thn hA fun us s2 ⟨vs, H2, I2, r2, q2⟩ => hm pins s2 σ H2 x vs v us Q I2 r1 r2 q2
/- xs.append(e), list.index on a module's tuple .. are MtR facts of 06m -/
end
end L2

namespace L2
open PySem PySem.Spec PyProof.Rows

noncomputable def MtM (X : Cx) (id : String) (r : V → List V → Hp → VK → Prop) : Prop :=
  ∀ (pins : List (Addr × Obj)) (s : Shared) (σ : St) (H : Hp) (x : V) (xs : List V) (v : Value) (us : List Value) (Q : VK), Inv X pins σ H s → RelV x v → Vals xs us → r x xs H Q →
    wpAny (model X.prog X.w) X.A (call (.builtin id) (v :: us)) (EP X pins σ Q) X.xe s

/-! ### lists of values -/
theorem Vals.one {x : V} {us : List Value} (h : Vals [x] us) : ∃ u, us = [u] ∧ RelV x u := by
  cases h with | cons r t => cases t; exact ⟨_, rfl, r⟩
theorem Vals.zero : ∀ {us : List Value}, Vals [] us → us = []
  | _, .nil => rfl
theorem Vals.eraseIdx : ∀ {xs : List V} {us : List Value} (i : Nat), Vals xs us → Vals (xs.eraseIdx i) (us.eraseIdx i)
  | _, _, _, .nil => .nil
  | _, _, 0, .cons _ t => t
  | _, _, i + 1, .cons r t => .cons r (Vals.eraseIdx i t)
section
variable {X : Cx} {pins : List (Addr × Obj)} {σ : St} {H : Hp} {s : Shared} {l b : Addr} {xs ys zs : List V}

/-! ### the two steps: a tracked list is rewritten, a new list is laid -/
theorem Inv.lset {its its' : List Value} {n : Nat} {f : Array Value → Array Value} {t' : Nat} (I : Inv X pins σ H s) (hH : H l = some (.lst xs))
    (e : s.heap.get? l = some { cls := .type "list", data := .seq its.toArray n }) (hf : f its.toArray = its'.toArray) (hv : Vals ys its') (hz : ys.length ≤ sizeLine) :
    Inv X pins σ (upd H l (.lst ys)) { s with heap := s.heap.update l (Obj.mapSeq f), toks := t' } := by
  have q := PySem.IsL.update e f
  rw [hf] at q
  refine I.write (x := l) (e := l) (by rw [hH]; exact trivial) (.inl rfl) (fun b' u hb hu => (Heap.get?_update_other s.heap (Obj.mapSeq f) (Ne.symm hb)).trans hu) ⟨_, q⟩ ?_
  exact ⟨hz, its', _, hv, q⟩
theorem Inv.lnew {its : List Value} {t' : Nat} (I : Inv X pins σ H s) (hv : Vals ys its) (hz : ys.length ≤ sizeLine) :
    Inv X pins σ (upd H s.heap.objs.size (.lst ys)) { s with heap := s.heap.push { cls := .type "list", data := .seq its.toArray }, toks := t' } :=
  I.laid (fun _ _ q => Heap.get?_push_of_some _ q) (Nat.le_refl _) ⟨hz, its, 0, hv, Heap.get?_push_size _ rfl⟩
theorem Inv.fresh (I : Inv X pins σ H s) : H s.heap.objs.size = none := I.hok.fresh (Nat.le_refl _)
theorem Inv.lstM (I : Inv X pins σ H s) (hH : H l = some (.lst xs)) : xs.length ≤ sizeLine ∧ ∃ (its : List Value) (n : Nat), Vals xs its ∧ xs.length = its.length ∧ s.heap.get? l = some { cls := .type "list", data := .seq its.toArray n } := by
  obtain ⟨z, its, n, r, e⟩ := I.hok l _ hH
  exact ⟨z, its, n, r, r.length, e⟩

end

section
variable {X : Cx}

/-! ### methods -/
noncomputable def rAppend : V → List V → Hp → VK → Prop := fun x vs H Q => ∃ l xs y, x = .ref l ∧ vs = [y] ∧ H l = some (.lst xs) ∧ xs.length < sizeLine ∧ Q .non (upd H l (.lst (xs ++ [y])))
theorem mt_append : MtM X "list.append" rAppend := by
  intro pins s σ H x vs v us Q I rx rv h
  obtain ⟨l, xs, y, rfl, rfl, hH, hz, q⟩ := h
  cases rx
  obtain ⟨u, rfl, ru⟩ := rv.one
  obtain ⟨z, its, n, r, hl, e⟩ := I.lstM hH
  refine call_meets F.slot_list_append ⟨_, e, rfl⟩ F.entry_list_append (F.args_list_append_2 _ _) (PySem.list_append l its.toArray n u (by rw [List.size_toArray]; omega)) ⟨e, ?_⟩
  refine ⟨.non, _, I.lset (its' := its ++ [u]) hH e (by simp) (r.append (.cons ru .nil)) ?_, rfl, q⟩
  rw [List.length_append, List.length_singleton]
  omega

end

/-! ### xs[a:b] = ys -/
section
variable {prog : Program} {w : World} {A : Around} {E : Value → Shared → Prop} {s : Shared}
set_option maxRecDepth 100000 in
end

section
variable {X : Cx}
end
end L2

namespace L2
open PySem PySem.Spec PyProof.Rows

/-! ### lists of pairs as tables -/
section
variable {κ : Type} [DecidableEq κ]
end


section
variable {P : Program} {w : World} {H : Hp} {h : Heap} {a : Addr}
end

section
variable {X : Cx} {pins : List (Addr × Obj)} {σ : St} {H : Hp} {s : Shared} {a : Addr} {y v : V} {u r : Value} {o : Option V} {A : Around} {E : Value → Shared → Prop}

end

section
variable {X : Cx} {pins : List (Addr × Obj)} {σ : St} {H : Hp} {s : Shared} {a : Addr} {kvs : List (Key × V)} {k : Key} {u : Value} {A : Around} {E : Value → Shared → Prop}
end


section
variable {X : Cx} {o i e value : Expr} {pos pos' tpos : Pos} {td ty tv : TE}
end


section
variable {X : Cx} {pos : Pos}
end

section
variable {X : Cx} {pins : List (Addr × Obj)} {σ : St} {H : Hp} {s : Shared} {a : Addr} {y d : V} {u r : Value} {o : Option V} {A : Around} {E : Value → Shared → Prop}
end

section
variable {X : Cx} {o e f : Expr} {apos cpos : Pos} {td ty tx : TE}
end

/-! ### dict(d): a copy -/
section
variable {X : Cx} {pins : List (Addr × Obj)} {σ : St} {H : Hp} {s : Shared} {a : Addr} {kvs : List (Key × V)} {A : Around} {E : Value → Shared → Prop}
end


section
variable {X : Cx} {pins : List (Addr × Obj)} {σ : St} {H : Hp} {s : Shared} {a : Addr} {y : V} {u : Value} {A : Around} {E : Value → Shared → Prop}
end
end L2

namespace Att
open PySem PySem.W PySem.Calls PyProof.Rows

/-! ### the script -/
theorem ints_of_wellAll {P : Params} {h : Heap} : ∀ (ns : List Int) (vs : List Value), WellAll P h vs (ns.map WData.int) → IntsAre vs ns := by
  intro ns
  induction ns with
  | nil =>
    intro vs w
    rw [List.map_nil] at w
    cases w
    exact .nil
  | cons n ns ih =>
    intro vs w
    rw [List.map_cons] at w
    cases w with
    | cons a b =>
      cases a
      exact .cons _ _ (ih _ b)

theorem script_of {l : OpenLaw} {n : Nat} (hn : l.most = some n) {P : Params} {h : Heap} {args : List WData} {vals : List Value}
    (hpre : l.row.toRowW.claim.pre args = true) (hwl : WellAll P h vals args) :
    ∃ a vs ns, vals = [Value.ref a] ∧ args = [WData.list (ns.map WData.int)] ∧ h.get? a = some { cls := .type "list", data := .seq vs.toArray } ∧ IntsAre vs ns ∧ ns.length ≤ n := by
  have hsh : WShape.hasAll [] args [.list .int] = true := (pre_splitW hpre).1
  have hc : l.pre.holds [] { args := args } = true := (pre_splitW hpre).2
  obtain ⟨d, r, rfl, h1, h2⟩ := hasAllW_cons hsh
  obtain rfl := hasAllW_nil h2
  obtain ⟨xs, rfl, h3⟩ := hasW_list h1
  obtain ⟨ns, rfl⟩ := items_int h3
  have hlen : ns.length ≤ n := by
    unfold OpenLaw.pre at hc
    have h4 : (WTm.not (.lt (.lit (.int (n : Int))) (.len (.arg 0)))).holds [] { args := [.list (ns.map .int)] } = true := by
      have h4 := (holds_andW hc).1
      rw [hn] at h4
      exact h4
    have h5 := condW_of h4 (w_not (w_lt w_lit (w_len_list (w_arg rfl))))
    rw [List.length_map] at h5
    refine Nat.le_of_not_lt fun q => ?_
    have q' : (n : Int) < ((ns.length : Nat) : Int) := by omega
    first
      | (rw [decide_eq_true q'] at h5; exact absurd h5 (by decide))
      | (simp at h5; omega)
  cases hwl with
  | cons w1 w2 =>
    cases w2
    cases w1 with
    | list ho hall => exact ⟨_, _, ns, rfl, rfl, ho, ints_of_wellAll ns _ hall, hlen⟩

theorem post_true (l : OpenLaw) (args : List WData) : l.row.toRowW.claim.post args (.bool true) args = true :=
  postW_of (r := l.row.toRowW) (X := (true == true))
    (show WShape.has [] (.bool true) .bool = true by first | rfl | decide | simp [WShape.has, WShape.arms, WShape.armsAll])
    (show (WTm.eq .res (.lit (.bool true))).value [] { args := args, res := some (.bool true), after := args } = some (.bool (true == true)) from w_eq_bool (w_res rfl) w_lit) rfl

/-- the same from a codeAny of the CALL (for a layer whose function contracts speak of calls) -/
theorem attach_call {l : OpenLaw} {n : Nat} {q : Program} {loose : List Str} {XP : (Str → Option Value) → Heap → Prop} {YP : World → Heap → Prop} {d : DefRec}
    (hn : l.most = some n) (hdf : d.params.defaults = [])
    (call : ∀ (w : World) (s₀ s₁ : Shared) (mg mb : Str → Option Value) (fa : Addr) (o : Obj) (pm cd doc : Value) (a : Addr) (vs : List Value) (ns : List Int),
      Ground q loose [] XP w s₀ mg mb s₁.heap → YP w s₁.heap →
      s₁.heap.get? fa = some o → o.data = .func (docDef d.name d.params d.body d.scope pm cd doc) → s₁.heap.CodeRec cd d.name → mg d.name = some (.ref fa) →
      s₁.heap.get? a = some { cls := .type "list", data := .seq vs.toArray } → IntsAre vs ns → ns.length ≤ n → s₁.gens = #[] →
      codeAny (model l.prog w) callerA (.call (.ref fa) ⟨[.ref a], []⟩) (fun r s' => r = .ok (.ret (.bool true)) ∧ OldK s₁.heap s'.heap ∧ s'.os = s₁.os ∧ AllBare s'.gens) s₁) :
    WalkO q loose XP YP l.row.toRowW d [] (fun f vs => PySem.call f vs) := by
  intro w s₀ s₁ mg mb G Y fa o pm cd doc dV kV ho hd hcd hD hmg hg args vals as hpre hlay hrd hwl hlo
  obtain rfl : dV = .none := Dflts.none hD hdf
  obtain rfl : kV = .none := Dflts.noKw hD
  obtain ⟨a, vs, ns, rfl, rfl, hobj, hints, hlen⟩ := script_of hn hpre hwl
  refine enter_call (codeAny_mono (call w s₀ s₁ mg mb fa o pm cd doc a vs ns G Y ho (fd_plain hd) hcd hmg hobj hints hlen hg) fun r s' hq => ?_)
  obtain ⟨rfl, h2, h3, h4⟩ := hq
  exact ⟨.inl ⟨.bool true, .bool true, [], rfl, fun _ => rfl, .bool true, post_true l _, fun _ => ⟨List.Pairwise.nil, fun _ hm => (nomatch hm)⟩⟩, h2, h3, h4⟩

/-! ### rules over ANY heap (no ledger) from facts about the written part K: the library's own take a ledger (News) for what they write -/
section
variable {prog : Program} {w : World} {A : Around} {E : Value → Shared → Prop} {s : Shared} {K : Frag}

noncomputable def ledger (h : Heap) (L d : Addr) : List (Addr × Obj) := (List.range h.objs.size).filterMap fun a => if a = L ∨ a = d then none else (h.get? a).map fun o => (a, o)
end
end Att

namespace L2
open PySem PySem.Spec PyProof.Rows

theorem vals_ints : ∀ {vs : List Value} {ns : List Int}, IntsAre vs ns → Vals (ns.map V.int) vs
  | _, _, .nil => .nil
  | _, _, .cons n t h => .cons ⟨t, rfl⟩ (vals_ints h)

/-- nothing is tracked but the script, known to the object (or it is an object of the module) -/
noncomputable def Only (H : Hp) : Prop := ∀ b, H b = none ∨ ∃ o xs, H b = some (.frz o (.lst xs))

/-- THE HEAD: the law's promise, at the heap behind the top. F, the promise of the law's def, may use that base is part of the heap (so K.In base, base.Ns mainGlobals mg stand in Mod) -/
theorem law_call {P : Program} {w : World} {K : PySem.W.Frag} {mg mb : Str → Option Value} {CX : CXT} {k : Nat} {fa a : Addr} {fd : FuncData} {x : Str} {sp : Sp} {s₁ : Shared} {vs : List Value} {ns : List Int}
    (KX : K.In s₁.heap) (hns : s₁.heap.Ns mainGlobals mg) (hb : s₁.heap.Ns builtinsNs mb) (hbb : ∀ x : Str, x ≠ "__name__" → mb x = bootBuiltins x) (hlim : s₁.heap.NoLimit) (hg : s₁.gens = #[])
    (ha : s₁.heap.get? a = some { cls := .type "list", data := .seq vs.toArray }) (hi : IntsAre vs ns) (hl : ns.length ≤ sizeLine) (hr : Room k callerA)
    (F : ∀ base : Heap, K.In base → base.Ns mainGlobals mg → FnOk P w K mg base CX k fa fd [x] sp) (hbind : ∀ (s : Shared) (u : Value), BindsTo s fd ⟨[u], []⟩ [(x, u)])
    (hsp : ∀ H : Hp, Only H → SqL K H a (ns.map V.int) → sp [.ref a] H (fun v _ => v = .bl true) fun _ _ _ => False)
    (hCX : ∀ H e s', CX [] H s₁ (fun _ _ _ => False) e s' → False) :
    codeAny (model P w) callerA (.call (.ref fa) ⟨[.ref a], []⟩) (fun r s' => r = .ok (.ret (.bool true)) ∧ OldK s₁.heap s'.heap ∧ s'.os = s₁.os ∧ AllBare s'.gens) s₁ := by
  have rv := vals_ints hi
  have lenV := hi.length
  -- from an abstract heap in which nothing but the script may be tracked
  have core : ∀ H : Hp, Only H → SqL K H a (ns.map V.int) → HOk P w H s₁.heap → (∀ b, H b ≠ none → b = a) → (H a ≠ none → K.lookup a = none) →
      codeAny (model P w) callerA (.call (.ref fa) ⟨[.ref a], []⟩) (fun r s' => r = .ok (.ret (.bool true)) ∧ OldK s₁.heap s'.heap ∧ s'.os = s₁.os ∧ AllBare s'.gens) s₁ := by
    intro H hO hS hok hA hK
    have base_of : ∀ {b : Addr} {o : Obj}, s₁.heap.get? b = some o → H b = none → (hidT s₁.heap H).get? b = some o := fun e n => hidT_get e n
    have noA : ∀ {b : Addr} {o : Obj} {es : Array DictEntry} {ep : Nat}, s₁.heap.get? b = some o → o.data = .dict es ep → H b = none := fun {b o es ep} e d => by
      cases q : H b with
      | none => rfl
      | some u =>
        have e' : b = a := hA b (by rw [q]; simp)
        subst e'
        rw [ha] at e; cases e
        have d' : Data.seq vs.toArray _ = Data.dict es ep := d
        cases d'
    have nsK : ∀ {b : Addr} {m : Str → Option Value}, s₁.heap.Ns b m → (hidT s₁.heap H).Ns b m := fun {b m} ⟨o, es, ep, e, d, r⟩ => ⟨o, es, ep, base_of e (noA e d), d, r⟩
    have hKb : K.In (hidT s₁.heap H) := fun b o e => base_of (KX b o e) (by
      cases q : H b with
      | none => rfl
      | some u =>
        have e' : b = a := hA b (by rw [q]; simp)
        subst e'
        rw [hK (by rw [q]; simp)] at e; cases e)
    have hM : Mod K mg (hidT s₁.heap H) := ⟨hKb, nsK hns, ⟨mb, nsK hb, hbb⟩, let ⟨mc, h1, h2⟩ := hlim; ⟨mc, nsK h1, h2⟩⟩
    have e0 : Env0 P w K mg (hidT s₁.heap H) callerA [] s₁ H := ⟨rfl, hM, fun b o e => of_hidT e, Nat.le_of_eq (hidT_size _ _), trivial, fun b hb => absurd (show b ∈ ([] : List Addr) from hb) (by simp), hok, .of_eq hg⟩
    refine codeAny_mono ((F _ hKb (nsK hns)).run callerA [] s₁ H ⟨[.ref a], []⟩ [.ref a] [.ref a] _ _ hr e0 (hbind s₁ (.ref a)) (.cons rfl .nil) (hsp H hO hS)) fun r s' h => ?_
    cases r with
    | error e => exact (hCX H e s' h).elim
    | ok fl =>
      cases fl with
      | next => exact False.elim h
      | brk => exact False.elim h
      | cont => exact False.elim h
      | ret u =>
        obtain ⟨v, H', os, bare, un, hok', r', q⟩ := h
        have q' : v = .bl true := q
        subst q'
        obtain rfl : u = Value.bool true := r'
        refine ⟨rfl, OldK.of_keep fun b o e => ?_, os, bare⟩
        cases q : H b with
        | none => exact un.keep b o e q (by intro z; exact absurd (show b ∈ ([] : List Addr) from z) (by simp)) (by simp)
        | some u =>
          rcases hO b with z | ⟨ob, xs, z⟩
          · rw [q] at z; cases z
          · have z2 := un.frzs b ob _ z
            obtain ⟨e1, _⟩ := hok b _ z
            obtain ⟨e2, _⟩ := hok' b _ z2
            rw [e] at e1; cases e1
            exact e2
  cases hk : K.lookup a with
  | some o =>
    -- the script is one of the module's own objects
    have e := KX a o hk
    rw [ha] at e
    cases e
    refine core (fun _ => none) (fun _ => .inl rfl) (.inr ⟨_, vs.toArray, _, hk, rfl, rfl, rfl, by rw [List.size_toArray, lenV]; exact hl, by simpa using rv⟩) (fun b u z => by have z' : (none : Option HO) = some u := z; cases z') (fun b z => absurd rfl z) fun z => absurd rfl z
  | none =>
    refine core (fun b => if b = a then some (.frz { cls := .type "list", data := .seq vs.toArray } (.lst (ns.map V.int))) else none) (fun b => ?_) (.inl (.inr ⟨{ cls := .type "list", data := .seq vs.toArray }, if_pos rfl⟩)) (fun b u z => ?_) (fun b z => ?_) fun _ => hk
    · by_cases hb : b = a
      · exact .inr ⟨_, _, if_pos hb⟩
      · exact .inl (if_neg hb)
    · by_cases hb : b = a
      · have z' := (if_pos hb).symm.trans z
        cases z'
        subst hb
        exact ⟨ha, by rw [List.length_map]; exact hl, vs, _, rv, ha⟩
      · have z' := (if_neg hb).symm.trans z
        cases z'
    · by_cases hb : b = a
      · exact hb
      · exact absurd (if_neg hb) z
end L2

namespace L2
open PySem PySem.Spec PyProof.Rows

noncomputable abbrev KOf {K : PySem.W.Frag} {h : Heap} (_ : K.In h) : PySem.W.Frag := K

/-- the goal that k_head leaves (case hc), from the law's promise. F gives the function object fd (K's own) once, then the promise over every base -/
theorem walk_of {l : PySem.W.OpenLaw} {n k : Nat} {q : Program} {loose : List Str} {XP : (Str → Option Value) → Heap → Prop} {YP : World → Heap → Prop} {d : DefRec} {K : Params → PySem.W.Frag} {CX : World → CXT} {sp : World → Sp} {x : Str}
    (hn : l.most = some n) (hn2 : n ≤ sizeLine) (hdf : d.params.defaults = []) (hr : Room k callerA)
    (hY : ∀ (w : World) (h : Heap), YP w h → (K w.params).In h)
    (F : ∀ (w : World) (mg : Str → Option Value) (fa : Addr) (h : Heap), (K w.params).In h → h.Ns mainGlobals mg → mg d.name = some (.ref fa) →
      ∃ fd : FuncData, (∀ (s : Shared) (u : Value), BindsTo s fd ⟨[u], []⟩ [(x, u)]) ∧
        ∀ base : Heap, (K w.params).In base → base.Ns mainGlobals mg → FnOk l.prog w (K w.params) mg base (CX w) k fa fd [x] (sp w))
    (hsp : ∀ (w : World) (H : Hp) (a : Addr) (ns : List Int), ns.length ≤ n → Only H → SqL (K w.params) H a (ns.map V.int) → sp w [.ref a] H (fun v _ => v = .bl true) fun _ _ _ => False)
    (hCX : ∀ (w : World) (H : Hp) (s : Shared) (e : Value) (s' : Shared), CX w [] H s (fun _ _ _ => False) e s' → False) :
    PySem.W.WalkO q loose XP YP l.row.toRowW d [] (fun f vs => PySem.call f vs) := by
  refine Att.attach_call hn hdf fun w s₀ s₁ mg mb fa o pm cd doc a vs ns G Y ho hd hcd hmg hobj hints hlen hg => ?_
  have KX := hY w _ Y
  obtain ⟨fd, hb, hF⟩ := F w mg fa _ KX G.T.g hmg
  exact law_call KX G.T.g G.T.b G.T.builtins G.T.nolimit hg hobj hints (Nat.le_trans hlen hn2) hr hF hb (fun H hO hS => hsp w H a ns hlen hO hS) fun H e s' => hCX w H s₁ e s'
end L2


/-! SHORT WORDS over the layer: a def of the text, its body, what a loop and a test want. -/
namespace L2
open PySem PySem.Spec PyProof.Rows

/-! ### the text by places -/
/-- the j-th statement of a class's body -/
noncomputable def inClass (s : Stmt) (j : Nat) : Stmt := match s with
  | .ClassDef _ _ _ body _ _ _ _ _ _ _ => body.getD j (.Pass ⟨0, 0, 0, 0⟩)
  | _ => .Pass ⟨0, 0, 0, 0⟩
noncomputable def defArgs (s : Stmt) : Arguments := match s with
  | .FunctionDef _ a _ _ _ _ _ _ _ _ => a
  | _ => { posonlyargs := [], args := [], vararg := none, kwonlyargs := [], kw_defaults := [], kwarg := none, defaults := [] }
noncomputable def defBody (s : Stmt) : List Stmt := match s with
  | .FunctionDef _ _ b _ _ _ _ _ _ _ => b
  | _ => []
noncomputable def defScope (s : Stmt) : Scope := match s with
  | .FunctionDef _ _ _ _ _ _ sc _ _ _ => sc
  | _ => { kind := .function, names := [], isGenerator := false, isCoroutine := false }

/-! ### a def (or method) of the text as it stands behind the top -/
structure Fun (K : PySem.W.Frag) (x qual : Str) (st : Stmt) (f : Addr) (fd : FuncData) : Prop where
  ex : ∃ (oc : Value) (od : Option Addr) (kV doc pm : Value) (an : Option Addr) (cdv ct : Value) (osl : Array (Option Value)),
    fd = PySem.W.fnOf x qual (defArgs st) (defBody st) (defScope st) .none kV doc pm an cdv ct ∧ K.lookup f = some ⟨oc, od, .func fd, osl⟩ ∧ PySem.W.codeIn K cdv qual = true
  kp : PySem.W.keepIn K (.ref f) = true
section
variable {P : Program} {w : World} {K : PySem.W.Frag} {mg : Str → Option Value} {base : Heap}
/-- how its arguments bind (no defaults): h is «fun _ _ _ _ _ _ us hl => match us, hl with | [_, _], _ => rfl», one _ a parameter -/
theorem Fun.binds {x qual : Str} {st : Stmt} {f : Addr} {fd : FuncData} {ps : List Str} (F : Fun K x qual st f fd)
    (h : ∀ (kV doc pm : Value) (an : Option Addr) (cdv ct : Value) (us : List Value), us.length = ps.length → bindArgs (PySem.W.fnOf x qual (defArgs st) (defBody st) (defScope st) .none kV doc pm an cdv ct) ⟨us, []⟩ = pure (ps.zip us)) : Binds K fd ps [] := by
  obtain ⟨oc, od, kV, doc, pm, an, cdv, ct, osl, rfl, lk, hcd⟩ := F.ex
  exact .all (h kV doc pm an cdv ct)
theorem fun_mk {x qual : Str} {st : Stmt} {f : Addr} {oc : Value} {od an : Option Addr} {osl : Array (Option Value)} {kV doc pm cdv ct : Value} (l : K.lookup f = some ⟨oc, od, .func (PySem.W.fnOf x qual (defArgs st) (defBody st) (defScope st) .none kV doc pm an cdv ct), osl⟩)
    (c : PySem.W.codeIn K cdv qual = true) (k : PySem.W.keepIn K (.ref f) = true) : Fun K x qual st f (PySem.W.fnOf x qual (defArgs st) (defBody st) (defScope st) .none kV doc pm an cdv ct) := ⟨⟨oc, od, kV, doc, pm, an, cdv, ct, osl, rfl, l, c⟩, k⟩
end
theorem small1000 {n : Nat} (h : n ≤ 1000) : n < sizeLine := Nat.lt_of_le_of_lt h (by decide)

/-! ### expressions in short: the name that stands in the i-th slot -/
section
variable {X : Cx}
end

/-! ### heaps -/
/-- all that was tracked is as it was -/
noncomputable def Same (H H' : Hp) : Prop := ∀ b o, H b = some o → H' b = some o
theorem Same.refl (H : Hp) : Same H H := fun _ _ h => h
theorem Same.trans {H H1 H2 : Hp} (a : Same H H1) (b : Same H1 H2) : Same H H2 := fun c o h => b c o (a c o h)
theorem Same.seq {K : PySem.W.Frag} {H H' : Hp} {a : Addr} {xs : List V} (e : Same H H') (h : SqL K H a xs) : SqL K H' a xs := by
  rcases h with (h | ⟨o, h⟩) | h
  · exact .inl (.inl (e _ _ h))
  · exact .inl (.inr ⟨o, e _ _ h⟩)
  · exact .inr h

/-! ### a dict's pairs: keys that differ -/
section
variable {κ : Type} [DecidableEq κ]
end
end L2

set_option maxHeartbeats 4000000

namespace L2.HD
open PySem PySem.W
/-- the top's run over a tree of objects, the step function a letter -/
noncomputable def goU (thr okS : Thread → Bool) (f : SharedT → Thread → Option (SharedT × Thread)) : Nat → SharedT → Thread → Option SharedT
  | 0, _, _ => none
  | n + 1, s, t => match thr t with
    | true => some s
    | false => match okS t with
      | false => none
      | true => match f s t with
        | some (s', t') => goU thr okS f n s' t'
        | none => none
theorem goU_top {tb : String → Option Builtin} {p : Program} {w : World} {n₀ : Nat} {ann : Option Value} : ∀ {n : Nat} {s s' : SharedT} {t : Thread},
    goU through (stepOk n₀ ann) (stepT (denote tb) p w) n s t = some s' → topRun tb p w n₀ ann n s.abs t = some s'.abs
  | 0, _, _, _, h => by cases h
  | n + 1, s, s', t, h => by
    unfold goU at h
    unfold topRun
    cases ht : through t with
    | true => rw [ht] at h; cases h; rfl
    | false =>
      rw [ht] at h
      cases hk : stepOk n₀ ann t with
      | false => rw [hk] at h; cases h
      | true =>
        rw [hk] at h
        cases hs : stepT (denote tb) p w s t with
        | none => rw [hs] at h; cases h
        | some r => obtain ⟨s₂, t₂⟩ := r; rw [hs] at h; rw [stepT_spec hs]; exact goU_top h
/-- the boot's objects as a tree -/
noncomputable def T0 (P : Params) : BT := (((((((((((BT.nil.ins 0 (boot_o_0 P)).ins 1 (boot_o_1 P)).ins 2 (boot_o_2 P)).ins 3 (boot_o_3 P)).ins 4 (boot_o_4 P)).ins 5 (boot_o_5 P)).ins 6 (boot_o_6 P)).ins 7 (boot_o_7 P)).ins 8 (boot_o_8 P)).ins 9 (boot_o_9 P)).ins 10 (boot_o_10 P))
noncomputable def S0 (w : World) (os : OsState) : SharedT := ⟨T0 w.params, 11, (boot_heap w.params).life, #[], boot_drawn, boot_toks, os⟩
theorem S0_abs (w : World) (os : OsState) : (S0 w os).abs = ⟨boot_heap w.params, #[], boot_drawn, boot_toks, os⟩ := by kernel_rfl
theorem size0 (w : World) : ((boot_heap w.params).isNs mainGlobals && (#[] : Array GenState).size == 0, (boot_heap w.params).objs.size, (boot_heap w.params).nsMap mainGlobals "__annotations__") = (true, 11, some (.ref 6)) := by kernel_rfl
theorem left_of {p q : Program} {loose : List Str} {Xt : Shared → Bool} {α : Type} {Yf : Shared → α} {Ya : World → α} {N : Nat} {g0 : Bool}
    (open_ : ∀ w : World, (fencedOpening treeTable p w N).map (fun s => (s.heap, s.gens, s.drawn, s.toks)) = some (boot_heap w.params, #[], boot_drawn, boot_toks))
    (run : ∀ w : World, (fun os => (goU through (stepOk 11 (some (.ref 6))) (stepT (denote treeTable) p w) N (S0 w os) (topStub p)).map (fun s =>
      ((staticsOk (importedModules p.main.body) (boot_heap w.params) s.abs.heap && namesBound p s.abs.heap && gensDone s.abs && laidKept (boot_heap w.params) s.abs.heap),
        openSeen q loose (importedModules p.main.body) Xt g0 s.abs, Yf s.abs))) = fun _ => some (true, openGood q loose, Ya w)) : LeftO p q loose Xt Yf Ya N g0 := fun w => by
  obtain ⟨⟨h, gs, d, k, os⟩, e, e'⟩ := Option.map_eq_some_iff.mp (open_ w)
  obtain ⟨rfl, rfl, rfl, rfl⟩ : h = boot_heap w.params ∧ gs = #[] ∧ d = boot_drawn ∧ k = boot_toks := by simpa using e'
  obtain ⟨s, r, z⟩ := Option.map_eq_some_iff.mp (congrFun (run w) os)
  have r := goU_top r
  rw [S0_abs] at r
  obtain ⟨z1, z2, z3⟩ : _ ∧ _ ∧ _ := by simpa only [Prod.mk.injEq] using size0 w
  obtain ⟨l1, l2, l3⟩ : _ ∧ _ ∧ _ := by simpa only [Prod.mk.injEq] using z
  have t : topFrom treeTable p w N ⟨boot_heap w.params, #[], boot_drawn, boot_toks, os⟩ = some s.abs := by
    unfold topFrom
    dsimp only
    rw [z1, z2, z3, r]
    show (match staticsOk (importedModules p.main.body) (boot_heap w.params) s.abs.heap && namesBound p s.abs.heap && gensDone s.abs && laidKept (boot_heap w.params) s.abs.heap with | true => _ | false => _) = _
    rw [l1]
  unfold openEnds
  rw [e]
  show (topFrom treeTable p w N _).map _ = _
  rw [t]
  exact congrArg some (Prod.ext l2 l3)
end L2.HD

namespace L2.HD
open PySem PySem.W
/-! what the top leaves, written shortly -/
noncomputable def vs (x : Str) (t : Nat) : Value := .str x t
noncomputable def vi (i : Int) : Value := .int i 0
noncomputable def de (P : Params) (x : Str) (t : Nat) (v : Value) : DictEntry := ⟨PyData.keyHash P x, .str x t, v⟩
noncomputable def ob (c : String) (d : Data) : Obj := { cls := .type c, data := d }
noncomputable def od (n : Nat) (es : List DictEntry) : Obj := { cls := .type "dict", data := .dict es.toArray n }
noncomputable def ot (xs : List Value) : Obj := { cls := .type "tuple", data := .seq xs.toArray }
noncomputable def ofd (c : String) (xs : List Value) : Obj := { cls := .type c, data := .fields xs.toArray }
noncomputable def oc (x : Str) (xt : Nat) (q : Str) (a b c d e : Nat) (xs : List Value) (f g h : Nat) : Obj :=
  ofd "code" ([.str x xt, .str q a, .str "/claim/cut.py" b, vi c, vi d, vi 0, vi 0, vi e] ++ xs ++ [vi f, vi g, .str "/claim/cut.py" h])
noncomputable def of (x q : Str) (st : Stmt) (m : Str) (mt c : Nat) : Obj := { cls := .type "function", data := .func (fnOf x q (defArgs st) (defBody st) (defScope st) .none .none .none (.str m mt) none (.ref c) .none) }
theorem holds_of {l : OpenLaw} {q : Program} {d : DefRec} {K : Params → Frag} {as : List Addr} {e : ∀ P, as = (K P).map (·.1)} {N : Nat}
    (left : LeftO l.prog q [] (fun s => xlAt q [] s && recOk (RowW.records l.row.toRowW) s) (Hook.obs (kHook K as e)) (Hook.val (kHook K as e)) N)
    (said : l.row.wellSaid = true) (hdef : defOf q l.row.name = some (d, [])) (hp : l.row.prog.theDef l.row.name = some (d.params, d.body, d.scope)) (hk : kwWritten? d.params.kwonlyargs d.params.kw_defaults = some [])
    (hwr : (!l.row.writes || l.row.records.isEmpty) = true) (ok : (chainsOk q && opensWell l.row.prog && (frees l.row.toRowW && l.row.within.isEmpty)) = true) (hb : l.row.prog.bare) (hw : l.row.toRowW.promised)
    (call : WalkO q [] (XL q []) (Hook.says (kHook K as e)) l.row.toRowW d [] fun f vs => PySem.call f vs) : l.row.Holds :=
  holds_open (r := l.row) (q := q) (loose := []) (Xt := fun s => xlAt q [] s && recOk (RowW.records l.row.toRowW) s) (XP := XL q []) (Yf := Hook.obs (kHook K as e)) (Ya := Hook.val (kHook K as e)) (YP := Hook.says (kHook K as e)) (N := N)
    left (Hook.of (kHook K as e)) (Hook.keeps (kHook K as e)) (fun s e => xl_of s (Bool.and_eq_true_iff.mp e).1) XL.keeps hdef hp hk (fun s e => recFacts_of (Bool.and_eq_true_iff.mp e).2) hwr said ok hb hw call
end L2.HD

namespace L2.PU
open PySem PySem.Spec PyProof.Rows

/-! ### sets of texts that may be walked -/
theorem layNew_led (t : SetTable) (es : Array (Int × Value)) (h : Int) (x : Value) : (layNew t es h x).2.1.led = t.led := by
  unfold layNew
  split
  · unfold SetTable.orStandIn
    dsimp only
    split
    · rfl
    · rfl
  · rfl
theorem layNew_plain (t : SetTable) (es : Array (Int × Value)) (h : Int) (x : Value) : t.plain = false → (layNew t es h x).2.1.plain = false := by
  intro hp
  unfold layNew
  split
  · unfold SetTable.orStandIn
    dsimp only
    split
    · exact hp
    · rfl
  · rfl
theorem relaid_keeps {t t' : SetTable} {hs : Array Int} {n : Nat} {o : Array Nat} (h : t.relaid hs n = some (t', o)) : t'.led = t.led ∧ t'.plain = t.plain := by
  unfold SetTable.relaid SetTable.laid at h
  simp only [Option.bind_eq_bind, Option.bind_eq_some_iff] at h
  obtain ⟨a, _, e⟩ := h
  cases e
  exact ⟨rfl, rfl⟩
theorem relay_led (t : SetTable) (es : Array (Int × Value)) (n : Nat) : (relayAll t es n).2.1.led = t.led ∧ (t.plain = false → (relayAll t es n).2.1.plain = false) := by
  unfold relayAll
  split
  · rename_i t' order hr
    obtain ⟨h1, h2⟩ := relaid_keeps hr
    dsimp only
    split
    · exact ⟨h1, fun q => h2.trans q⟩
    · exact ⟨rfl, fun _ => rfl⟩
  · exact ⟨rfl, fun _ => rfl⟩
theorem txts_kept {w : World} {h h' : Heap} {a : Addr} (x : Txts w h a) (e : ∀ o, h.get? a = some o → h'.get? a = some o) : Txts w h' a := let ⟨o, g, r⟩ := x; ⟨o, e o g, r⟩
section
variable {prog : Program} {w : World} {A : Around} {E : Value → Shared → Prop} {s : Shared}
theorem add_tail {g : Bool → Sem Unit} (hg : ∀ (b : Bool) (s₁ : Shared) (Q' : Unit → Shared → Prop), Q' () s₁ → wpAny (model prog w) A (g b) Q' E s₁)
    {a : Addr} {o : Obj} {es : Array (Int × Value)} {ep : Nat} {t : SetTable} (ho : s.heap.get? a = some o) (hex : o.ExactSet) (hd : o.data = .set es ep t)
    {es1 : Array (Int × Value)} {t2 : SetTable} {S' : Str → Bool} (hel1 : ElemsOf (PySem.strKind prog w) es1.toList) (hmem1 : ∀ k', S' k' = true ↔ ∃ e ∈ es1.toList, (PySem.strKind prog w).is k' e.2 = true)
    (hb1 : es1.size < scanBound) (hf2 : t2.fits es1.size = true) (hl2 : w.params.followText "set-order" = true ∨ t2.led = true) (hp2 : t2.plain = false) {wasDummy : Bool} {R : Option Bool → Shared → Prop}
    (h : ∀ h', Heap.SameBut a s.heap h' → h'.SetOf (PySem.strKind prog w) a S' es1.size → Txts w h' a → R (some true) { s with heap := h' }) :
    wpAny (model prog w) A (do
        storeSet a es1 t2
        if (!wasDummy && t2.tooFull) = true then do
            g (relayAll t2 es1 (SetTable.grown es1.size)).2.2
            storeSet a (relayAll t2 es1 (SetTable.grown es1.size)).1 (relayAll t2 es1 (SetTable.grown es1.size)).2.1
            pure (some true)
          else pure (some true)) R E s := by
  refine wpAny_bind (wpAny_storeSet_of ho hd ?_ (fits_of_scanBound hb1))
  obtain ⟨ho1, z1⟩ := SetOf_store (knd := PySem.strKind prog w) ho hex hd hel1 hmem1 hb1 hf2
  have sb1 := Heap.SameBut.update s.heap a (Obj.putSet es1 t2)
  split
  · have hp := relayAll_perm t2 es1 (SetTable.grown es1.size)
    have hfr := relayAll_fits t2 es1 (SetTable.grown es1.size)
    obtain ⟨r1, r2⟩ := relay_led t2 es1 (SetTable.grown es1.size)
    generalize hRl : relayAll t2 es1 (SetTable.grown es1.size) = Rl at hp hfr r1 r2 ⊢
    obtain ⟨es2, t3, gave2⟩ := Rl
    dsimp only at hp hfr r1 r2 ⊢
    have hel2 := hel1.perm hp
    have hmem2 : ∀ k', S' k' = true ↔ ∃ e ∈ es2.toList, (PySem.strKind prog w).is k' e.2 = true := fun k' => (hmem1 k').trans ⟨fun ⟨e, he, q⟩ => ⟨e, hp.mem_iff.mpr he, q⟩, fun ⟨e, he, q⟩ => ⟨e, hp.mem_iff.mp he, q⟩⟩
    have hsz : es2.size = es1.size := by rw [← Array.length_toList, hp.length_eq, Array.length_toList]
    have hb2 : es2.size < scanBound := by rw [hsz]; exact hb1
    refine wpAny_bind (hg _ _ _ (wpAny_bind (wpAny_storeSet_of ho1 rfl ?_ (fits_of_scanBound hb2))))
    obtain ⟨o2, z2⟩ := SetOf_store (knd := PySem.strKind prog w) ho1 hex rfl hel2 hmem2 hb2 hfr
    rw [hsz] at z2
    exact wpAny_pure (h _ (sb1.trans (Heap.SameBut.update _ a _)) z2 ⟨_, o2, _, _, _, rfl, by rw [r1]; exact hl2, .inr (r2 hp2)⟩)
  · exact wpAny_pure (h _ sb1 z1 ⟨_, ho1, _, _, _, rfl, hl2, .inr hp2⟩)
theorem add_txts {a : Addr} {S : Str → Bool} {n : Nat} {k : Str} {u : Tok} {Q : Bool → Shared → Prop} (zS : s.heap.SetOf (PySem.strKind prog w) a S n) (zT : Txts w s.heap a) (hroom : n + 1 < scanBound)
    (h : ∀ h', Heap.SameBut a s.heap h' → h'.SetOf (PySem.strKind prog w) a (fun k' => S k' || decide (k' = k)) (if S k then n else n + 1) → Txts w h' a → Q (!S k) { s with heap := h' }) :
    wpAny (model prog w) A (setAddHashed a (.str k u) ((PySem.strKind prog w).hash k)) Q E s := by
  have hkey : (PySem.strKind prog w).is k (.str k u) = true := by simp [PySem.strKind, Value.isStrOf]
  have hsc : (Value.str k u).scannable = true := rfl
  obtain ⟨o, es, ep, t, ho, hex, hd, hel, hmem, hb, hf, hn⟩ := id zS
  obtain ⟨o', ho', es', ep', t', hd', hled, hpl⟩ := id zT
  rw [ho] at ho'
  cases ho'
  rw [hd] at hd'
  cases hd'
  have hb1 : es.size + 1 < scanBound := by rw [hn]; exact hroom
  unfold setAddHashed setAddHashedIn
  refine wpAny_holding (wpAny_bind (wpAny_setState_of ho hd hf ?_))
  dsimp only
  rw [byScan_of hsc hb hel]
  simp only [↓reduceIte]
  unfold setAddByScan
  refine wpAny_bind (wpAny_bind (wpAny_rule (wpAny_bind (wpAny_setScan_of hkey ho hd hf hel ?_))))
  cases hr : List.findIdx? (fun e => (PySem.strKind prog w).is k e.2) es.toList with
  | some j =>
    dsimp only
    obtain ⟨hj, hpj, _⟩ := List.findIdx?_eq_some_iff_getElem.mp hr
    have hSk : S k = true := (hmem k).mpr ⟨es.toList[j], List.getElem_mem hj, hpj⟩
    refine wpAny_pure (wpAny_pure ?_)
    have e : s = { s with heap := s.heap } := by cases s; rfl
    have := h s.heap (Heap.SameBut.refl a s.heap) ⟨o, es, ep, t, ho, hex, hd, hel, fun k' => by
      rw [Bool.or_eq_true, decide_eq_true_eq, ← hmem k']
      exact ⟨fun hk => hk.elim id (fun e => e ▸ hSk), .inl⟩, hb, hf, by rw [hSk]; exact hn⟩ zT
    rw [hSk] at this; rw [e]; exact this
  | none =>
    dsimp only
    have hSk : S k = false := by
      cases hk : S k with
      | false => rfl
      | true => obtain ⟨e, he, hp⟩ := (hmem k).mp hk; have := List.findIdx?_eq_none_iff.mp hr e he; rw [hp] at this; exact Bool.noConfusion this
    have hgw : ∀ (b : Bool) {s₁ : Shared} {Q' : Unit → Shared → Prop}, Q' () s₁ → wpAny (model prog w) A (match b with | true => rule "set.scan.the-table-gave-way" | false => pure ()) Q' E s₁ :=
      fun b s₁ Q' hq => by cases b <;> first | exact wpAny_pure hq | exact wpAny_rule hq
    have hperm := layNew_perm t es ((PySem.strKind prog w).hash k) (.str k u)
    have hfits := layNew_fits t es ((PySem.strKind prog w).hash k) (.str k u)
    have hled1 := layNew_led t es ((PySem.strKind prog w).hash k) (.str k u)
    have hpl1 := layNew_plain t es ((PySem.strKind prog w).hash k) (.str k u)
    generalize hL : layNew t es ((PySem.strKind prog w).hash k) (.str k u) = L at hperm hfits hled1 hpl1 ⊢
    obtain ⟨es1, t1, wasDummy, gave⟩ := L
    dsimp only at hperm hfits hled1 hpl1 ⊢
    rw [Array.toList_push] at hperm
    have hel1 := (hel.push hkey hsc).perm hperm
    have hmem1 : ∀ k', (S k' || decide (k' = k)) = true ↔ ∃ e ∈ es1.toList, (PySem.strKind prog w).is k' e.2 = true := mem_push_iff hkey hmem hperm
    have hb1' : es1.size < scanBound := by rw [← Array.length_toList, hperm.length_eq, List.length_append, Array.length_toList]; simpa using hb1
    refine wpAny_bind (hgw _ ?_)
    have hsz1 : es1.size = n + 1 := by rw [← Array.length_toList, hperm.length_eq, List.length_append, Array.length_toList, hn]; rfl
    have hend : ∀ h', Heap.SameBut a s.heap h' → h'.SetOf (PySem.strKind prog w) a (fun k' => S k' || decide (k' = k)) es1.size → Txts w h' a → Q true { s with heap := h' } := by
      intro h' hsb z' zt; have := h h' hsb; rw [hSk] at this; rw [hsz1] at z'; exact this z' zt
    split
    · refine wpAny_bind ?_
      rw [hashByValue_scannable 8 hsc]
      refine wpAny_pure ?_
      refine add_tail ?_ ho hex hd hel1 hmem1 hb1' ?_ ?_ ?_ ?_
      · intro b s₁ Q' hq; cases b <;> first | exact wpAny_pure hq | exact wpAny_rule hq
      · exact SetTable.fits_plain_off hfits
      · show _ ∨ t1.led = true
        rw [hled1]; exact hled
      · rfl
      · intro h' hsb z' zt; dsimp only; exact wpAny_pure (hend h' hsb z' zt)
    · rename_i hnp
      refine wpAny_bind (wpAny_pure ?_)
      simp only [↓reduceIte]
      refine add_tail ?_ ho hex hd hel1 hmem1 hb1' hfits ?_ ?_ ?_
      · intro b s₁ Q' hq; cases b <;> first | exact wpAny_pure hq | exact wpAny_rule hq
      · rw [hled1]; exact hled
      · exact Bool.eq_false_iff.mpr hnp
      · intro h' hsb z' zt; dsimp only; exact wpAny_pure (hend h' hsb z' zt)
end
end L2.PU

namespace L2.PU
open PySem PySem.Spec PyProof.Rows

/-! ### set(x) of texts -/
noncomputable def addS (σ : List Str) (v : Str) : List Str := if σ.contains v then σ else σ ++ [v]
noncomputable def metS (vs : List Str) : List Str := vs.foldl addS []
theorem metS_snoc (vs : List Str) (v : Str) : metS (vs ++ [v]) = addS (metS vs) v := by unfold metS; rw [List.foldl_append]; rfl
theorem addS_has (σ : List Str) (v k : Str) : (addS σ v).contains k = (σ.contains k || decide (k = v)) := by
  unfold addS
  by_cases h : σ.contains v = true
  · rw [if_pos h]
    by_cases e : k = v
    · subst e; rw [h]; simp
    · simp [e]
  · rw [if_neg h]
    by_cases e : k = v
    · subst e; simp
    · simp [e, List.contains_iff_mem]
theorem addS_len (σ : List Str) (v : Str) : (addS σ v).length = if σ.contains v then σ.length else σ.length + 1 := by unfold addS; split <;> simp
theorem metS_le (vs : List Str) : (metS vs).length ≤ vs.length := by
  have g : ∀ (vs σ : List Str), (vs.foldl addS σ).length ≤ σ.length + vs.length := by
    intro vs
    induction vs with
    | nil => intro σ; exact Nat.le_refl _
    | cons v vs ih =>
      intro σ
      rw [List.foldl_cons]
      have h1 := ih (addS σ v)
      have h2 : (addS σ v).length ≤ σ.length + 1 := by rw [addS_len]; split <;> omega
      rw [List.length_cons]
      omega
  have := g vs []
  unfold metS
  simpa using this
section
variable {prog : Program} {w : World} {A : Around} {R : Result → Shared → Prop} {I : Addr} {fp wr : List Addr} {G : Array GenState → Array GenState → Prop} {n : Nat} {P : Nat → Value → Prop} {St : Nat → Shared → Prop}
theorem setOf_same {h : Heap} {a : Addr} {σ τ : List Str} {m : Nat} {S : Str → Bool} (z : h.SetOf (PySem.strKind prog w) a S m) (e : ∀ k, S k = τ.contains k) (en : m = τ.length) : h.SetOf (PySem.strKind prog w) a (fun k => τ.contains k) τ.length := by
  have e' : S = fun k => τ.contains k := funext e
  subst e' en
  exact z
theorem setOf_kept {h h' : Heap} {a : Addr} {m : Nat} {S : Str → Bool} (z : h.SetOf (PySem.strKind prog w) a S m) (e : ∀ o, h.get? a = some o → h'.get? a = some o) : h'.SetOf (PySem.strKind prog w) a S m := by
  obtain ⟨o, es, ep, t, ho, rest⟩ := z
  exact ⟨o, es, ep, t, e o ho, rest⟩
theorem set_loop (W : WalksS prog w A.in1 I fp wr G n P St) (S : Addr) (hSf : S ∉ fp) (vs : List Str) (hn : vs.length = n) (hval : ∀ i v, P i v → ∃ t, v = .str (vs.getD i Str.empty) t) (hb : n + 1 < scanBound) :
    ∀ (k i : Nat) (s : Shared), n - i = k → i ≤ n → St i s → s.heap.SetOf (PySem.strKind prog w) S (fun k => (metS (vs.take i)).contains k) (metS (vs.take i)).length → Txts w s.heap S →
      (∀ s', Moved (S :: wr) G s s' → s'.heap.SetOf (PySem.strKind prog w) S (fun k => (metS vs).contains k) (metS vs).length → Txts w s'.heap S → R (.ok (.ret .none)) s') →
      codeAny (model prog w) A (.builtin "set.update.loop" ⟨[.ref S, .ref I], []⟩) R s := by
  have nw : S ∉ wr := fun z => hSf (W.sub _ z)
  have up : ∀ b ∈ wr, b ∈ S :: wr := fun b q => List.mem_cons_of_mem _ q
  intro k
  induction k with
  | zero =>
    intro i s hk hi st zS zT q
    have ei : i = n := by omega
    subst ei
    rw [← hn, List.take_length] at zS
    refine codeAny_builtin PyProof.Rows.F.entry_set_update_loop ?_
    rw [Around.under_plainId PyProof.Rows.F.plain_set_update_loop _]
    show wpAny _ A.in1 (pyNext (.ref I) >>= _) _ _ s
    refine wpAny_bind (W.done s _ _ st fun s' m => ?_)
    exact wpAny_pure (q s' (m.mono up) (setOf_kept zS fun o e => m.heap S o nw e) (txts_kept zT fun o e => m.heap S o nw e))
  | succ k ih =>
    intro i s hk hi st zS zT q
    have lt : i < n := by omega
    refine codeAny_builtin PyProof.Rows.F.entry_set_update_loop ?_
    rw [Around.under_plainId PyProof.Rows.F.plain_set_update_loop _]
    show wpAny _ A.in1 (pyNext (.ref I) >>= _) _ _ s
    refine wpAny_bind (W.item i s _ _ lt st fun v s' hP st' m => ?_)
    obtain ⟨t, rfl⟩ := hval i v hP
    have zS' := setOf_kept zS fun o e => m.heap S o nw e
    have zT' := txts_kept zT fun o e => m.heap S o nw e
    show wpAny _ A.in1 (holding [Value.str (vs.getD i Str.empty) t] (setAdd S (.str (vs.getD i Str.empty) t)) >>= _) _ _ s'
    refine wpAny_bind (wpAny_holding ?_)
    unfold setAdd
    have key : (PySem.strKind prog w).is (vs.getD i Str.empty) (.str (vs.getD i Str.empty) t) = true := by simp [PySem.strKind, Value.isStrOf]
    refine wpAny_holding (wpAny_bind ((PySem.strKind prog w).pyHash key ?_))
    have room : (metS (vs.take i)).length + 1 < scanBound := by
      have := metS_le (vs.take i)
      rw [List.length_take] at this
      omega
    refine add_txts (s := { s' with toks := s'.toks + 1 }) zS' zT' room fun h' sb z2 zt2 => ?_
    have es : metS (vs.take (i + 1)) = addS (metS (vs.take i)) (vs.getD i Str.empty) := by
      have hlt : i < vs.length := by omega
      rw [← metS_snoc, List.take_succ, List.getElem?_eq_getElem hlt, List.getD_eq_getElem?_getD, List.getElem?_eq_getElem hlt]
      rfl
    have z3 : h'.SetOf (PySem.strKind prog w) S (fun k => (metS (vs.take (i + 1))).contains k) (metS (vs.take (i + 1))).length :=
      setOf_same (σ := []) z2 (fun k' => by rw [es, addS_has]) (by rw [es, addS_len])
    refine wpAny_pure ⟨plainId_quiet PyProof.Rows.F.plain_set_update_loop _, ih (i + 1) _ (by omega) lt (W.frame _ s' _ _ st' (Nat.le_succ _) fun b hb' o e => ?_) z3 zt2 fun s'' m'' z'' zt'' => ?_⟩
    · rw [sb.2 b (fun z : b = S => hSf (by rw [← z]; exact hb'))]; exact e
    · refine q s'' (Moved.trans W.gtrans ((m.mono up).then_heap (Nat.le_succ _) fun b o hb' e => ?_) m'') z'' zt''
      rw [sb.2 b (fun z : b = S => hb' (by rw [z]; exact List.mem_cons_self))]; exact e
end
noncomputable def ledW (w : World) : Bool := !w.params.followText "set-order"
noncomputable abbrev setO (led : Bool) : Obj := { cls := .type "set", dict := none, data := .set #[] 0 (.fresh 0 0 led) }
theorem txts_new {w : World} {h : Heap} {a : Addr} (e : h.get? a = some (setO (ledW w))) : Txts w h a := by
  refine ⟨_, e, #[], 0, _, rfl, ?_, .inl rfl⟩
  show _ ∨ ledW w = true
  unfold ledW
  cases w.params.followText "set-order" <;> simp
section
variable {prog : Program} {w : World} {A : Around} {E : Value → Shared → Prop} {s : Shared}
theorem code_set_led (a : Value) {Q₁ : Value → Shared → Prop} (h : Q₁ (.ref s.heap.objs.size) { s with heap := s.heap.push (setO (ledW w)) }) :
    codeAny (model prog w) A (.call (.builtin "set.__new__") ⟨[.type "set", a], []⟩) (wants Q₁ E) s := by
  refine codeAny_of_tree (show wpAny _ A.in1 (do checkBuiltinCall "set.__new__" ⟨[.type "set", a], []⟩; again (.builtin "set.__new__" ⟨[.type "set", a], []⟩)) _ _ s from ?_)
  refine wpAny_bind (wpAny_of_eq (F.newCall_set_1 a) (wpAny_pure ⟨plainId_quiet F.plain_set_new _, codeAny_builtin F.entry_set_new ?_⟩))
  rw [Around.under_plainId F.plain_set_new _]
  unfold Builtin.«set.__new__» Builtin.Frozenset.newClass
  have hsub := sub_set_self
  obtain ⟨hp, g, d, tk, os⟩ := s
  dsimp only
  wp_walk
  refine wpAny_askSetting (wpAny_pure ?_)
  dsimp only
  simp only [newObj]
  exact wpAny_bind (wpAny_alloc (wpAny_pure (wpAny_pure h)))
/-- an iterator of a list or a tuple, made and walked -/
theorem seq_walk {l : Addr} {items : Array Value} {T : String} {o : Obj} {nn : Nat} {Q : Value → Shared → Prop} (hT : T = "list" ∨ T = "tuple") (hh : A.handled = none) (ho : s.heap.get? l = some o) (hc : o.cls = .type T) (hd : o.data = .seq items nn)
    (h : ∀ (ob : Obj) (St : Nat → Heap → Prop), (∀ A', A'.handled = none → Walks prog w A' s.heap.objs.size [s.heap.objs.size, l] [s.heap.objs.size] items.size (fun i v => items[i]? = some v) St) → St 0 (s.heap.push ob) → Q (.ref s.heap.objs.size) { s with heap := s.heap.push ob }) :
    wpAny (model prog w) A (pyIter (.ref l)) Q E s := by
  have lt : l < s.heap.objs.size := Heap.lt_size ho
  rcases hT with rfl | rfl
  · have hl : s.heap.IsList l items := ⟨o, ho, hc, nn, hd⟩
    exact wpAny_pyIter_list hl (h _ _ (fun A' hA => Walks.list hA _ l (Nat.ne_of_lt lt) items) ⟨⟨_, Heap.get?_push_size _ rfl, rfl, rfl⟩, hl.push _⟩)
  · have hl : s.heap.IsTuple l items := ⟨o, ho, hc, nn, hd⟩
    exact wpAny_pyIter_tuple hl (h _ _ (fun A' hA => Walks.tuple hA _ l (Nat.ne_of_lt lt) items) ⟨⟨_, Heap.get?_push_size _ rfl, rfl, rfl⟩, hl.push _⟩)
theorem call_set_seq {l : Addr} {items : Array Value} {T : String} {o : Obj} {nn : Nat} {vs : List Str} {Q : Value → Shared → Prop} (hT : T = "list" ∨ T = "tuple") (hh : A.handled = none) (ho : s.heap.get? l = some o) (hc : o.cls = .type T) (hd : o.data = .seq items nn)
    (hv : ∀ (i : Nat) (v : Value), items[i]? = some v → ∃ t, v = Value.str (vs.getD i Str.empty) t) (hn : vs.length = items.size) (hb : items.size + 1 < scanBound)
    (h : ∀ (h' : Heap) (tk : Nat), h'.SetOf (PySem.strKind prog w) s.heap.objs.size (fun k => (metS vs).contains k) (metS vs).length → Txts w h' s.heap.objs.size → (∀ b u, s.heap.get? b = some u → h'.get? b = some u) → Q (.ref s.heap.objs.size) { s with heap := h', toks := tk }) :
    wpAny (model prog w) A (call (.type "set") [.ref l]) Q E s := by
  obtain ⟨c, tl, hmro⟩ := F.called_set.mro
  have hmade := F.called_set.made
  have hsub := F.called_set.sub
  have lt : l < s.heap.objs.size := Heap.lt_size ho
  refine wpAny_call (codeAny_of_tree ?_)
  show wpAny _ _ (callAny (.type "set") _) _ _ _
  refine wpAny_pure ⟨Code.quiet_builtin _ (by decide +kernel), codeAny_builtin F.entry_type_call ?_⟩
  rw [Around.under_plain (weight_type_call_type "set" [.ref l] []) rfl]
  have h1 := F.called_set.notType
  have h2 := F.called_set.canCreate
  have hct := F.typeCall_set_1 (.ref l)
  repeat (any_goals (first | assumption | wp_step))
  refine codeAny_mono (code_set_led (.ref l) (E := E) (Q₁ := fun obj s₁ => ∃ led : Bool, led = ledW w ∧ obj = .ref s.heap.objs.size ∧ s₁ = { s with heap := s.heap.push (setO led) }) ⟨_, rfl, rfl, rfl⟩) fun r s₁ hr => ?_
  cases r with
  | error e => exact hr
  | ok fl =>
    cases fl with
    | ret obj =>
      obtain ⟨led, hled, rfl, rfl⟩ := hr
      have zS : (s.heap.push (setO led)).get? s.heap.objs.size = some (setO led) := Heap.get?_push_size _ rfl
      have tS : Shared.TypeIs { s with heap := s.heap.push (setO led) } (.ref s.heap.objs.size) "set" := ⟨_, zS, rfl⟩
      have hli := F.called_set.init.lookup
      have hbi := F.called_set.init.bind (.ref s.heap.objs.size)
      repeat (any_goals (first | assumption | wp_step))
      refine codeAny_mono (codeAny_call_builtin (R := wants (fun r s₂ => r = .none ∧ ∃ h' tk, s₂ = { s with heap := h', toks := tk } ∧ h'.SetOf (PySem.strKind prog w) s.heap.objs.size (fun k => (metS vs).contains k) (metS vs).length ∧ Txts w h' s.heap.objs.size ∧
          (∀ b u, s.heap.get? b = some u → h'.get? b = some u)) E) F.called_set.init.plain F.entry_set_init (check_set_init_1 tS ?_)) fun r₂ s₂ hr₂ => ?_
      · have ho' : (s.heap.push (setO led)).get? l = some o := Heap.get?_push_of_some _ ho
        have tL : Shared.TypeIs { s with heap := s.heap.push (setO led) } (.ref l) T := ⟨o, ho', hc⟩
        have ns : isSubtype (.type T) (.type "set") = pure false := by rcases hT with rfl | rfl <;> first | exact F.sub_list_set | exact sub_tuple_set
        have nf : isSubtype (.type T) (.type "frozenset") = pure false := by rcases hT with rfl | rfl <;> first | exact F.sub_list_frozenset | exact sub_tuple_frozenset
        have nd : (Value.type T == Value.type "dict") = false := by rcases hT with rfl | rfl <;> decide
        unfold Builtin.«set.__init__» noKeywords Builtin.Frozenset.updateFrom
        generalize hPI : pyIter = PI
        wp_walk
        subst hPI
        refine seq_walk (A := A.in1.in1) hT (by simp [hh]) ho' hc hd fun ob St W st0 => ?_
        refine wpAny_bind (wpAny_runValue ?_)
        have sz : (s.heap.push (setO led)).objs.size = s.heap.objs.size + 1 := Heap.size_push _ _
        have apart : s.heap.objs.size ∉ [(s.heap.push (setO led)).objs.size, l] := by
          rw [sz]
          simp only [List.mem_cons, List.not_mem_nil, or_false, not_or]
          exact ⟨by omega, Nat.ne_of_gt lt⟩
        refine set_loop ((W _ (by simp [hh])).toS) s.heap.objs.size apart vs hn (fun i v q => hv i v q) hb (items.size - 0) 0 _ (by omega) (Nat.zero_le _) st0 ?_ ?_ fun s' m z' zt' => ?_
        · exact setOf_same (σ := []) (τ := []) ((PyProof.Rows.setObjOf_fresh (knd := PySem.strKind prog w) led).setOf (Heap.get?_push_of_some _ zS) (by decide)) (fun _ => rfl) rfl
        · exact txts_new (by rw [← hled]; exact Heap.get?_push_of_some _ zS)
        · obtain ⟨h', g', d', tk', os'⟩ := s'
          have eg : g' = s.gens := m.gens
          have ed : d' = s.drawn := m.drawn
          have eo : os' = s.os := m.os
          subst eg ed eo
          refine wpAny_pure (show wpAny _ _ (ret Value.none) _ _ _ from wpAny_pure ⟨rfl, h', tk', rfl, z', zt', fun b u q => ?_⟩)
          have lb := Heap.lt_size q
          refine m.heap b u ?_ (Heap.get?_push_of_some _ (Heap.get?_push_of_some _ q))
          rw [sz]
          simp only [List.mem_cons, List.not_mem_nil, or_false, not_or]
          have lb' : b < s.heap.objs.size := lb
          exact ⟨Nat.ne_of_lt lb', Nat.ne_of_lt (Nat.lt_succ_of_lt lb')⟩
      · cases r₂ with
        | error e => exact hr₂
        | ok fl₂ =>
          cases fl₂ with
          | ret r =>
            obtain ⟨rfl, h', tk, rfl, z', zt', k'⟩ := hr₂
            repeat (any_goals (first | assumption | wp_step))
            exact h _ _ z' zt' k'
          | _ => exact hr₂.elim
    | _ => exact hr.elim
end

section
variable {prog : Program} {w : World} {A : Around} {E : Value → Shared → Prop} {s : Shared}
end
end L2.PU

namespace L2.PU
open PySem PySem.Spec PyProof.Rows

/-! ### t.index(x): texts -/
section
variable {prog : Program} {w : World} {A : Around} {E : Value → Shared → Prop} {s : Shared}
end
end L2.PU

namespace L2.PU
open PySem PySem.Spec PyProof.Rows

section
variable {prog : Program} {w : World} {A : Around} {E : Value → Shared → Prop} {s : Shared}
end
end L2.PU

namespace L2.PU
open PySem PySem.Spec PyProof.Rows
section
variable {prog : Program} {w : World} {A : Around} {E : Value → Shared → Prop} {s : Shared}
end
end L2.PU

namespace L2.PU
open PySem PySem.Spec PyProof.Rows

/-! ### a walk through a set of texts -/
theorem slot_si_next : PySem.Slot "set_iterator" "__next__" "set_iterator.__next__" := .of (owner := "set_iterator") (n := "__next__") (by rw [typeLookup_type, builtinLookup_eq_fast]; kernel_rfl) (by decide +kernel) (by decide +kernel) (by decide +kernel) (by first | exact .inl (by decide +kernel) | exact .inr (by decide +kernel)) (by rw [isSubtype_type]; kernel_rfl)
theorem slot_si_iter : PySem.Slot "set_iterator" "__iter__" "set_iterator.__iter__" := .of (owner := "set_iterator") (n := "__iter__") (by rw [typeLookup_type, builtinLookup_eq_fast]; kernel_rfl) (by decide +kernel) (by decide +kernel) (by decide +kernel) (by first | exact .inl (by decide +kernel) | exact .inr (by decide +kernel)) (by rw [isSubtype_type]; kernel_rfl)
theorem entry_si_next : entryFor table "set_iterator.__next__" = some Builtin.«set_iterator.__next__» := entryFor_of_tree (by kernel_rfl)
theorem entry_si_iter : entryFor table "set_iterator.__iter__" = some Builtin.«dict_keyiterator.__iter__» := entryFor_alias (id' := "dict_keyiterator.__iter__") (by kernel_rfl) rfl (by decide +kernel) (by kernel_rfl)
theorem args_si_next (a : Value) : argsOk "set_iterator.__next__" ⟨[a], []⟩ := by unfold argsOk; kernel_rfl
theorem args_si_iter (a : Value) : argsOk "set_iterator.__iter__" ⟨[a], []⟩ := by unfold argsOk; kernel_rfl
theorem entry_set_iter : entryFor table "set.__iter__" = some Builtin.«frozenset.__iter__» := entryFor_alias (id' := "frozenset.__iter__") (by kernel_rfl) rfl (by decide +kernel) (by kernel_rfl)
theorem args_set_iter (a : Value) : argsOk "set.__iter__" ⟨[a], []⟩ := by unfold argsOk; kernel_rfl
section
variable {prog : Program} {w : World} {A : Around} {E : Value → Shared → Prop} {s : Shared}
theorem cons_erase {α : Type} {l : List α} {i : Nat} (h : i < l.length) : (l[i] :: l.eraseIdx i).Perm l := by
  rw [List.eraseIdx_eq_take_drop_succ]
  have e : l.take i ++ l[i] :: l.drop (i + 1) = l := by rw [← List.drop_eq_getElem_cons h, List.take_append_drop]
  have p := @List.perm_middle α l[i] (l.take i) (l.drop (i + 1))
  rw [e] at p
  exact p.symm
/-- any order may be drawn -/
theorem wpAny_chosen {src : Source} {n : Nat} {Q : Nat → Shared → Prop} (h0 : n ≠ 0) (h : ∀ i, i < n → ∀ d, Q i { s with drawn := d }) : wpAny (model prog w) A (choose src n) Q E s := by
  intro Γ p hΓ
  unfold choose
  rw [Sem.wp_choose]
  refine ⟨h0, ?_⟩
  exact h _ (Nat.mod_lt _ (Nat.pos_of_ne_zero h0)) _
theorem draw_order {α : Type} (n : Nat) : ∀ (xs : List α) (s : Shared) (Q : List α → Shared → Prop), xs.length = n → (∀ ys d, ys.Perm xs → Q ys { s with drawn := d }) → wpAny (model prog w) A (drawOrder n xs) Q E s := by
  induction n with
  | zero =>
    intro xs s Q hn h
    cases xs with
    | cons _ _ => rw [List.length_cons] at hn; exact absurd hn (Nat.succ_ne_zero _)
    | nil =>
      unfold drawOrder
      exact wpAny_pure (h [] s.drawn (List.Perm.refl _))
  | succ n ih =>
    intro xs s Q hn h
    cases xs with
    | nil => exact absurd hn.symm (Nat.succ_ne_zero _)
    | cons x xs =>
      unfold drawOrder
      refine wpAny_bind (wpAny_chosen (by simp) fun i hi d => ?_)
      rw [List.getElem?_eq_getElem hi]
      dsimp only
      refine wpAny_bind (ih ((x :: xs).eraseIdx i) _ _ ?_ fun ys d' hp => wpAny_pure ?_)
      · rw [List.length_eraseIdx_of_lt hi]; omega
      · refine h _ d' ?_
        exact (List.Perm.cons _ hp).trans (cons_erase hi)
theorem pick_perm {α : Type} (next : Nat → Nat) : ∀ (n k : Nat) (left : List α) (out : Array α), left.length = n → (pickOrder.go next n k left out).toList.Perm (out.toList ++ left)
  | 0, k, [], out, _ => by unfold pickOrder.go; simp
  | n + 1, k, x :: left, out, hn => by
    unfold pickOrder.go
    have hl : next k % (x :: left).length < (x :: left).length := Nat.mod_lt _ (by simp)
    rw [List.getElem?_eq_getElem hl]
    dsimp only
    refine (pick_perm next n (k + 1) _ _ ?_).trans ?_
    · rw [List.length_eraseIdx_of_lt hl]; omega
    · rw [Array.toList_push, List.append_assoc]
      exact List.Perm.append_left _ (cons_erase hl)
theorem pickO_perm {α : Type} (next : Nat → Nat) (es : Array α) : (pickOrder next es).toList.Perm es.toList := by
  have := pick_perm next es.size 0 es.toList #[] (by simp)
  simpa [pickOrder] using this
/-- the iterator -/
noncomputable def IsSI (h : Heap) (it : Addr) (first : Value) (i : Int) (a : Addr) (n ep : Int) : Prop := ∃ o, h.get? it = some o ∧ o.cls = .type "set_iterator" ∧ o.data = .fields #[first, rawInt i, .ref a, rawInt n, rawInt ep]
/-- the set's own object -/
noncomputable def SetAt (h : Heap) (a : Addr) (es : Array (Int × Value)) (ep : Nat) (t : SetTable) : Prop := ∃ o, h.get? a = some o ∧ o.data = .set es ep t
theorem si_self {it a : Addr} {first : Value} {i n ep : Int} {Q : Value → Shared → Prop} (hi : IsSI s.heap it first i a n ep) (q : Q (.ref it) s) : wpAny (model prog w) A (pyIter (.ref it)) Q E s := by
  obtain ⟨o, ho, hc, hd⟩ := hi
  have hT : s.TypeIs (.ref it) "set_iterator" := ⟨o, ho, hc⟩
  refine wpAny_pyIter_slot hT slot_si_iter (wpAny_call_entry slot_si_iter hT entry_si_iter ?_ (args_si_iter _))
  exact wpAny_pure ⟨_, rfl, "set_iterator", _, hT, slot_si_next.lookup, q⟩
/-- drawn: an item -/
theorem si_item_drawn {it a tp : Addr} {π : List Nat} {i : Nat} {es : Array (Int × Value)} {ep : Nat} {t : SetTable} {k : Nat} {hv : Int} {x : Value} {Q : Option Value → Shared → Prop} (hi : IsSI s.heap it (.ref tp) i a es.size ep) (hs : SetAt s.heap a es ep t) (hf : t.fits es.size = true)
    (htp : IsTup s.heap tp (π.map fun (j : Nat) => rawInt j).toArray) (hk : π[i]? = some k) (hx : es[k]? = some (hv, x))
    (q : ∀ h', IsSI h' it (.ref tp) ((i : Int) + 1) a es.size ep → Heap.SameBut it s.heap h' → Q (some x) { s with heap := h' }) : wpAny (model prog w) A (pyNext (.ref it)) Q E s := by
  obtain ⟨o, ho, hc, hd⟩ := id hi
  obtain ⟨oa, hoa, hda⟩ := id hs
  obtain ⟨ot, hot, hct, nt, hdt⟩ := id htp
  have hT : s.TypeIs (.ref it) "set_iterator" := ⟨o, ho, hc⟩
  have hpl : (π.map fun (j : Nat) => rawInt j).toArray[i]? = some (rawInt k) := by simp [hk]
  unfold pyNext
  refine wpAny_bind (wpAny_attempt (wpAny_callSpecial?_slot (name := Str.ofString "__next__") hT slot_si_next (wpAny_call_entry slot_si_next hT entry_si_next ?_ (args_si_next _))))
  unfold Builtin.«set_iterator.__next__»
  obtain ⟨c1, d1, x1, l1⟩ := o
  dsimp only at hc hd
  subst hc hd
  wp_walk using AutoSeq1.wpAny_loadPart' ho, wpAny_setEntries_of hoa hda hf, wpAny_setState_of hoa hda hf, wpAny_seqItems hot hdt
  rw [Int.toNat_natCast, hpl]
  show wpAny _ _ (setNextDrawn a (k : Int).toNat (ep : Int).toNat >>= _) _ _ _
  rw [Int.toNat_natCast, Int.toNat_natCast]
  unfold setNextDrawn
  refine wpAny_bind (wpAny_bind (wpAny_setState_of hoa hda hf ?_))
  dsimp only
  rw [if_neg (by simp), hx]
  refine wpAny_pure ?_
  refine wpAny_bind (wpAny_setField ho rfl (by simp) (wpAny_pure ⟨x, rfl, wpAny_pure (q _ ?_ (Heap.SameBut.update ..))⟩))
  exact ⟨_, Heap.get?_update_self _ ho (Obj.isFreed_of_fields (Obj.data_mapFields rfl _)), Obj.cls_mapFields .., by rw [Obj.data_mapFields rfl]; simp [rawInt]⟩
/-- drawn: the end -/
theorem si_end_drawn {it a tp : Addr} {π : List Nat} {es : Array (Int × Value)} {ep : Nat} {t : SetTable} {Q : Option Value → Shared → Prop} (hh : A.handled = none) (hi : IsSI s.heap it (.ref tp) π.length a es.size ep) (hs : SetAt s.heap a es ep t) (hf : t.fits es.size = true)
    (htp : IsTup s.heap tp (π.map fun (j : Nat) => rawInt j).toArray) (q : ∀ h' tk, Heap.ExtBut it s.heap h' → Q none { s with heap := h', toks := tk }) : wpAny (model prog w) A (pyNext (.ref it)) Q E s := by
  obtain ⟨o, ho, hc, hd⟩ := id hi
  obtain ⟨oa, hoa, hda⟩ := id hs
  obtain ⟨ot, hot, hct, nt, hdt⟩ := id htp
  have hT : s.TypeIs (.ref it) "set_iterator" := ⟨o, ho, hc⟩
  have hpl : (π.map fun (j : Nat) => rawInt j).toArray[π.length]? = none := by simp
  unfold pyNext
  refine wpAny_bind (wpAny_attempt (wpAny_callSpecial?_slot (name := Str.ofString "__next__") hT slot_si_next (wpAny_call_entry slot_si_next hT entry_si_next ?_ (args_si_next _))))
  unfold Builtin.«set_iterator.__next__»
  obtain ⟨c1, d1, x1, l1⟩ := o
  dsimp only at hc hd
  subst hc hd
  wp_walk using AutoSeq1.wpAny_loadPart' ho, wpAny_setEntries_of hoa hda hf, wpAny_setState_of hoa hda hf, wpAny_seqItems hot hdt
  rw [Int.toNat_natCast, hpl]
  wp_walk using AutoSeq1.wpAny_loadPart' ho
  simp only [raiseNew]; refine wpAny_bind (wpAny_handled ?_)
  rw [show A.in1.handled = none by simp [hh]]; refine wpAny_bind (wpAny_pure (wpAny_throw ?_))
  refine wpAny_bind (wpAny_isInstance (T := "StopIteration") (b := true) ⟨_, Heap.get?_push_size _ rfl, rfl⟩ isSubtype_stop (wpAny_pure (q _ _ ?_)))
  exact (((Heap.SameBut.update ..).trans (Heap.SameBut.update ..)).extBut.push _).push _
/-- by text, or by place: an item -/
theorem si_item {it a : Addr} {slot i nx : Nat} {es : Array (Int × Value)} {ep : Nat} {t : SetTable} {x : Value} {Q : Option Value → Shared → Prop} (hi : IsSI s.heap it (rawInt slot) i a es.size ep) (hs : SetAt s.heap a es ep t) (hf : t.fits es.size = true)
    (hn : ∀ (A : Around) (E : Value → Shared → Prop) (Q : Option (Value × Nat) → Shared → Prop), Q (some (x, nx)) s → wpAny (model prog w) A (setNext a slot i ep) Q E s)
    (q : ∀ h', IsSI h' it (rawInt nx) ((i : Int) + 1) a es.size ep → Heap.SameBut it s.heap h' → Q (some x) { s with heap := h' }) : wpAny (model prog w) A (pyNext (.ref it)) Q E s := by
  obtain ⟨o, ho, hc, hd⟩ := id hi
  obtain ⟨oa, hoa, hda⟩ := id hs
  have hT : s.TypeIs (.ref it) "set_iterator" := ⟨o, ho, hc⟩
  unfold pyNext
  refine wpAny_bind (wpAny_attempt (wpAny_callSpecial?_slot (name := Str.ofString "__next__") hT slot_si_next (wpAny_call_entry slot_si_next hT entry_si_next ?_ (args_si_next _))))
  unfold Builtin.«set_iterator.__next__»
  obtain ⟨c1, d1, x1, l1⟩ := o
  dsimp only at hc hd
  subst hc hd
  generalize hSN : setNext = SN
  wp_walk using AutoSeq1.wpAny_loadPart' ho, wpAny_setEntries_of hoa hda hf
  subst hSN
  rw [Int.toNat_natCast, Int.toNat_natCast, Int.toNat_natCast]
  refine hn _ _ _ ?_
  dsimp only
  refine wpAny_bind (wpAny_setField ho rfl (by simp) ?_)
  have ho2 := Heap.get?_update_self (Obj.mapFields fun z => z.setIfInBounds 0 (rawInt nx)) ho (Obj.isFreed_of_fields (Obj.data_mapFields rfl _))
  have hd2 : (Obj.mapFields (fun z => z.setIfInBounds 0 (rawInt nx)) { cls := Value.type "set_iterator", dict := d1, data := Data.fields #[rawInt slot, rawInt i, Value.ref a, rawInt es.size, rawInt ep], slots := l1 }).data = .fields #[rawInt nx, rawInt i, Value.ref a, rawInt es.size, rawInt ep] := by
    rw [Obj.data_mapFields rfl]; simp
  refine wpAny_bind (wpAny_setField ho2 hd2 (by simp) (wpAny_pure ⟨x, rfl, wpAny_pure (q _ ?_ ((Heap.SameBut.update ..).trans (Heap.SameBut.update ..)))⟩))
  exact ⟨_, Heap.get?_update_self _ ho2 (Obj.isFreed_of_fields (Obj.data_mapFields hd2 _)), (Obj.cls_mapFields ..).trans (Obj.cls_mapFields ..), by rw [Obj.data_mapFields hd2]; simp [rawInt]⟩
/-- .. the end -/
theorem si_end {it a : Addr} {slot i : Nat} {es : Array (Int × Value)} {ep : Nat} {t : SetTable} {Q : Option Value → Shared → Prop} (hh : A.handled = none) (hi : IsSI s.heap it (rawInt slot) i a es.size ep) (hs : SetAt s.heap a es ep t) (hf : t.fits es.size = true)
    (hn : ∀ (A : Around) (E : Value → Shared → Prop) (Q : Option (Value × Nat) → Shared → Prop), Q none s → wpAny (model prog w) A (setNext a slot i ep) Q E s)
    (q : ∀ h' tk, Heap.ExtBut it s.heap h' → Q none { s with heap := h', toks := tk }) : wpAny (model prog w) A (pyNext (.ref it)) Q E s := by
  obtain ⟨o, ho, hc, hd⟩ := id hi
  obtain ⟨oa, hoa, hda⟩ := id hs
  have hT : s.TypeIs (.ref it) "set_iterator" := ⟨o, ho, hc⟩
  unfold pyNext
  refine wpAny_bind (wpAny_attempt (wpAny_callSpecial?_slot (name := Str.ofString "__next__") hT slot_si_next (wpAny_call_entry slot_si_next hT entry_si_next ?_ (args_si_next _))))
  unfold Builtin.«set_iterator.__next__»
  obtain ⟨c1, d1, x1, l1⟩ := o
  dsimp only at hc hd
  subst hc hd
  generalize hSN : setNext = SN
  wp_walk using AutoSeq1.wpAny_loadPart' ho, wpAny_setEntries_of hoa hda hf
  subst hSN
  rw [Int.toNat_natCast, Int.toNat_natCast, Int.toNat_natCast]
  refine hn _ _ _ ?_
  dsimp only
  wp_walk using AutoSeq1.wpAny_loadPart' ho
  simp only [raiseNew]; refine wpAny_bind (wpAny_handled ?_)
  rw [show A.in1.handled = none by simp [hh]]; refine wpAny_bind (wpAny_pure (wpAny_throw ?_))
  refine wpAny_bind (wpAny_isInstance (T := "StopIteration") (b := true) ⟨_, Heap.get?_push_size _ rfl, rfl⟩ isSubtype_stop (wpAny_pure (q _ _ ?_)))
  exact ((Heap.SameBut.update ..).extBut.push _).push _
theorem next_text {a : Addr} {slot i : Nat} {es : Array (Int × Value)} {ep : Nat} {t : SetTable} {Q : Option (Value × Nat) → Shared → Prop} (hb : w.params.followText "set-order" = true) (hs : SetAt s.heap a es ep t) (hf : t.fits es.size = true)
    (q : Q (((pickOrder (w.params.setOrder a ep) es)[i]?).map fun e => (e.2, slot)) s) : wpAny (model prog w) A (setNext a slot i ep) Q E s := by
  obtain ⟨oa, hoa, hda⟩ := hs
  unfold setNext setsByText
  refine wpAny_bind (wpAny_setState_of hoa hda hf (wpAny_bind (wpAny_bind (wpAny_askSetting (wpAny_pure ?_)))))
  dsimp only
  rw [if_pos (show (model prog w).w.params.followText "set-order" = true from hb), if_neg (by simp)]
  unfold setWalk setsByText
  refine wpAny_bind (wpAny_bind (wpAny_setState_of hoa hda hf (wpAny_bind (wpAny_bind (wpAny_askSetting (wpAny_pure ?_))))))
  dsimp only
  rw [if_pos (show (model prog w).w.params.followText "set-order" = true from hb)]
  refine wpAny_bind (wpAny_askSetting (wpAny_pure (wpAny_pure q)))
theorem next_one {a : Addr} {slot i : Nat} {es : Array (Int × Value)} {ep : Nat} {t : SetTable} {Q : Option (Value × Nat) → Shared → Prop} (hb : w.params.followText "set-order" = false) (hl : t.led = true) (h1 : es.size ≤ 1) (hs : SetAt s.heap a es ep t) (hf : t.fits es.size = true)
    (q : Q (match es[SetTable.below t.place slot]?, t.place[SetTable.below t.place slot]? with | some (_, x), some j => some (x, j + 1) | _, _ => none) s) : wpAny (model prog w) A (setNext a slot i ep) Q E s := by
  obtain ⟨oa, hoa, hda⟩ := hs
  unfold setNext setsByText
  refine wpAny_bind (wpAny_setState_of hoa hda hf (wpAny_bind (wpAny_bind (wpAny_askSetting (wpAny_pure ?_)))))
  dsimp only
  rw [if_neg (show ¬ (model prog w).w.params.followText "set-order" = true by rw [show (model prog w).w.params.followText "set-order" = false from hb]; decide)]
  have hd : ∀ b : Bool, (b = true → False) → ∀ (x y : Sem (Option (Value × Nat))), wpAny (model prog w) A y Q E s → wpAny (model prog w) A (if b = true then x else y) Q E s := fun b hb x y hy => by rw [if_neg hb]; exact hy
  refine hd _ ?_ _ _ ?_
  · intro h
    have h2 : (!t.plain && decide (es.size > 1)) = true := h
    simp at h2
    omega
  · refine wpAny_bind ?_
    show wpAny _ _ (if (!t.led && !es.isEmpty) = true then unsupported _ else pure ()) _ _ _
    rw [if_neg (by simp [hl])]
    exact wpAny_pure (wpAny_pure q)
end
end L2.PU

namespace L2.PU
open PySem PySem.Spec PyProof.Rows

/-! ### the items of a set of texts, in the order that it gives them -/
section
variable {prog : Program} {w : World} {A : Around} {E : Value → Shared → Prop} {s : Shared}
theorem keepSI {h h' : Heap} {it a : Addr} {f : Value} {i n ep : Int} (hi : IsSI h it f i a n ep) (e : ∀ o, h.get? it = some o → h'.get? it = some o) : IsSI h' it f i a n ep := let ⟨o, g, r⟩ := hi; ⟨o, e o g, r⟩
theorem keepSA {h h' : Heap} {a : Addr} {es : Array (Int × Value)} {ep : Nat} {t : SetTable} (hi : SetAt h a es ep t) (e : ∀ o, h.get? a = some o → h'.get? a = some o) : SetAt h' a es ep t := let ⟨o, g, r⟩ := hi; ⟨o, e o g, r⟩
theorem keepTu {h h' : Heap} {a : Addr} {xs : Array Value} (hi : IsTup h a xs) (e : ∀ o, h.get? a = some o → h'.get? a = some o) : IsTup h' a xs := let ⟨o, g, r⟩ := hi; ⟨o, e o g, r⟩
theorem Walks.set_drawn (hh : A.handled = none) {it a tp : Addr} (na : a ≠ it) (nt : tp ≠ it) {π : List Nat} {es : Array (Int × Value)} {ep : Nat} {t : SetTable} (hf : t.fits es.size = true) (hl : π.length = es.size) (hp : ∀ k ∈ π, k < es.size) :
    Walks prog w A it [it, a, tp] [it] es.size (fun i v => (π.map fun k => ((es[k]?).map (·.2)).getD .none)[i]? = some v) (fun i h => IsSI h it (.ref tp) (i : Nat) a es.size ep ∧ SetAt h a es ep t ∧ IsTup h tp (π.map fun (j : Nat) => rawInt j).toArray) where
  sub := fun b hb => by simp at hb; simp [hb]
  frame := fun i h h' st hk => ⟨keepSI st.1 (hk it (by simp)), keepSA st.2.1 (hk a (by simp)), keepTu st.2.2 (hk tp (by simp))⟩
  item := fun i s Q E hi st hQ => by
    have hi' : i < π.length := by omega
    have hk : π[i]? = some π[i] := List.getElem?_eq_getElem hi'
    have hj : π[i] < es.size := hp _ (List.getElem_mem hi')
    have hx : es[π[i]]? = some (es[π[i]].1, es[π[i]].2) := by rw [Array.getElem?_eq_getElem hj]
    refine si_item_drawn st.1 st.2.1 hf st.2.2 hk hx fun h' r sb => hQ _ h' s.toks ?_ ⟨?_, keepSA st.2.1 (fun o => sb.extBut a o na), keepTu st.2.2 (fun o => sb.extBut tp o nt)⟩ fun b o hb e => sb.extBut b o (fun z => hb (by simp [z])) e
    · simp [hk, hx]
    · simpa using r
  done := fun s Q E st hQ => by
    refine si_end_drawn hh (π := π) (by rw [hl]; exact st.1) st.2.1 hf st.2.2 fun h' tk x => hQ h' tk fun b o hb q => x b o (fun z => hb (by simp [z])) q
  self := fun _ _ _ _ st hQ => si_self st.1 hQ
theorem Walks.set_text (hh : A.handled = none) {it a : Addr} (na : a ≠ it) {es : Array (Int × Value)} {ep : Nat} {t : SetTable} (hf : t.fits es.size = true) (hb : w.params.followText "set-order" = true) :
    Walks prog w A it [it, a] [it] es.size (fun i v => ((pickOrder (w.params.setOrder a ep) es).toList.map (·.2))[i]? = some v) (fun i h => IsSI h it (rawInt (0 : Nat)) (i : Nat) a es.size ep ∧ SetAt h a es ep t) where
  sub := fun b hb => by simp at hb; simp [hb]
  frame := fun i h h' st hk => ⟨keepSI st.1 (hk it (by simp)), keepSA st.2 (hk a (by simp))⟩
  item := fun i s Q E hi st hQ => by
    have hsz : (pickOrder (w.params.setOrder a ep) es).size = es.size := by
      have := (pickO_perm (w.params.setOrder a ep) es).length_eq
      simpa using this
    have hx : (pickOrder (w.params.setOrder a ep) es)[i]? = some ((pickOrder (w.params.setOrder a ep) es)[i]'(by omega)) := Array.getElem?_eq_getElem (by omega)
    refine si_item (nx := 0) st.1 st.2 hf (fun A E Q q => next_text hb st.2 hf (by rw [hx]; exact q)) fun h' r sb => hQ _ h' s.toks ?_ ⟨?_, keepSA st.2 (fun o => sb.extBut a o na)⟩ fun b o hb e => sb.extBut b o (fun z => hb (by simp [z])) e
    · simp [hx]
    · simpa using r
  done := fun s Q E st hQ => by
    have hsz : (pickOrder (w.params.setOrder a ep) es).size = es.size := by
      have := (pickO_perm (w.params.setOrder a ep) es).length_eq
      simpa using this
    have hx : (pickOrder (w.params.setOrder a ep) es)[es.size]? = none := Array.getElem?_eq_none (by omega)
    refine si_end hh st.1 st.2 hf (fun A E Q q => next_text hb st.2 hf (by rw [hx]; exact q)) fun h' tk x => hQ h' tk fun b o hb q => x b o (fun z => hb (by simp [z])) q
  self := fun _ _ _ _ st hQ => si_self st.1 hQ
theorem fits_size {t : SetTable} {n : Nat} (h : t.fits n = true) : t.place.size = n := by
  simp only [SetTable.fits, Bool.and_eq_true, beq_iff_eq, decide_eq_true_eq] at h
  exact h.1
theorem below_0 {xs : Array Nat} (h : xs.size ≤ 1) : SetTable.below xs 0 = 0 := by
  obtain ⟨l⟩ := xs
  match l, h with
  | [], _ => rfl
  | [x], _ => simp [SetTable.below, SetTable.below.go]
theorem below_1 {xs : Array Nat} {x : Nat} (h : xs = #[x]) : SetTable.below xs (x + 1) = 1 := by subst h; simp [SetTable.below, SetTable.below.go]
theorem Walks.set_one (hh : A.handled = none) {it a : Addr} (na : a ≠ it) {es : Array (Int × Value)} {ep : Nat} {t : SetTable} (hf : t.fits es.size = true) (hb : w.params.followText "set-order" = false) (hl : t.led = true) (h1 : es.size ≤ 1) :
    Walks prog w A it [it, a] [it] es.size (fun i v => (es.toList.map (·.2))[i]? = some v) (fun i h => (∃ slot : Nat, IsSI h it (rawInt slot) (i : Nat) a es.size ep ∧ SetTable.below t.place slot = i) ∧ SetAt h a es ep t) where
  sub := fun b hb => by simp at hb; simp [hb]
  frame := fun i h h' st hk => ⟨let ⟨c, x, y⟩ := st.1; ⟨c, keepSI x (hk it (by simp)), y⟩, keepSA st.2 (hk a (by simp))⟩
  item := fun i s Q E hi st hQ => by
    obtain ⟨⟨c, x, y⟩, z⟩ := st
    have hps := fits_size hf
    have e1 : es.size = 1 := by omega
    have i0 : i = 0 := by omega
    subst i0
    have hx : es[0]? = some (es[0].1, es[0].2) := by rw [Array.getElem?_eq_getElem hi]
    have hj : t.place[0]? = some t.place[0] := Array.getElem?_eq_getElem (by omega)
    refine si_item (nx := t.place[0] + 1) x z hf (fun A E Q q => next_one hb hl h1 z hf (by rw [y, hx, hj]; exact q)) fun h' r sb => hQ _ h' s.toks ?_ ⟨⟨t.place[0] + 1, by simpa using r, ?_⟩, keepSA z (fun o => sb.extBut a o na)⟩ fun b o hb e => sb.extBut b o (fun z => hb (by simp [z])) e
    · simp [hx]
    · have ep1 : t.place = #[t.place[0]] := by
        apply Array.ext
        · simp; omega
        · intro k k1 k2
          have : k = 0 := by omega
          subst this; rfl
      exact below_1 ep1
  done := fun s Q E st hQ => by
    obtain ⟨⟨c, x, y⟩, z⟩ := st
    have hx : es[es.size]? = none := Array.getElem?_eq_none (by omega)
    refine si_end hh x z hf (fun A E Q q => next_one hb hl h1 z hf (by rw [y, hx]; exact q)) fun h' tk x => hQ h' tk fun b o hb q => x b o (fun z => hb (by simp [z])) q
  self := fun _ _ _ _ st hQ => let ⟨_, x, _⟩ := st.1; si_self x hQ
theorem range_vals (es : Array (Int × Value)) : (List.range es.size).map (fun k => ((es[k]?).map (·.2)).getD .none) = es.toList.map (·.2) := by
  apply List.ext_getElem
  · simp
  · intro i h1 h2
    simp at h1
    simp [h1]
theorem if_same {α : Type} {b c : Bool} (e : b = c) {x y : Sem α} {Q : α → Shared → Prop} (h : wpAny (model prog w) A (if c = true then x else y) Q E s) : wpAny (model prog w) A (if b = true then x else y) Q E s := by subst e; exact h
/-- pyIter of a set of texts -/
theorem set_iter {a : Addr} {o : Obj} {es : Array (Int × Value)} {ep : Nat} {t : SetTable} {Q : Value → Shared → Prop} (ho : s.heap.get? a = some o) (hx : o.ExactSet) (hd : o.data = .set es ep t) (hf : t.fits es.size = true) (hz : es.size ≤ sizeLine)
    (hw : w.params.followText "set-order" = true ∨ t.led = true) (hp : es.size = 0 ∨ t.plain = false)
    (q : ∀ it fp St (vals : List Value) h' d, (∀ B : Around, B.handled = none → Walks prog w B it fp [it] es.size (fun i v => vals[i]? = some v) St) → St 0 h' → (∀ b ∈ fp, b = a ∨ s.heap.objs.size ≤ b) → vals.Perm (es.toList.map (·.2)) → s.heap.objs.size ≤ it →
      (∀ b o, s.heap.get? b = some o → h'.get? b = some o) → Q (.ref it) { s with heap := h', drawn := d }) : wpAny (model prog w) A (pyIter (.ref a)) Q E s := by
  have hT : s.TypeIs (.ref a) "set" := ⟨o, ho, hx.1⟩
  have lta := Heap.lt_size ho
  refine wpAny_pyIter_slot hT F.slot_set_iter (wpAny_call_entry F.slot_set_iter hT entry_set_iter ?_ (args_set_iter _))
  unfold Builtin.«frozenset.__iter__»
  refine wpAny_bind (m := Builtin.Frozenset.slot0 "__iter__" ⟨[.ref a], []⟩) (wpAny_pure ?_)
  unfold Builtin.Frozenset.sizeOf
  refine wpAny_bind (wpAny_bind (wpAny_setEntries_of ho hd hf (wpAny_pure ?_)))
  unfold setDrawn setsByText
  refine wpAny_bind (wpAny_bind (wpAny_setState_of ho hd hf (wpAny_bind (wpAny_bind (wpAny_askSetting (wpAny_pure (wpAny_pure ?_)))))))
  refine if_same (c := !w.params.followText "set-order" && (!t.plain && decide (es.size > 1))) rfl ?_
  have tail : ∀ (h1 : Heap) (d : Drawn) (first : Value), (∀ b o, s.heap.get? b = some o → h1.get? b = some o) → Q (.ref h1.objs.size) { s with heap := h1.push { cls := .type "set_iterator", data := .fields #[first, rawInt (0 : Nat), .ref a, rawInt es.size, rawInt ep] }, drawn := d } →
      wpAny (model prog w) A.in1 (do let e ← setEpoch a; let v ← newFields "set_iterator" [first, rawInt 0, .ref a, rawInt es.size, rawInt e]; ret v) (fun fin s' => ∃ v, fin = Fin.done (Flow.ret v) ∧ ∃ T' r, s'.TypeIs v T' ∧ typeLookup (Value.type T') (Str.ofString "__next__") = pure (some r) ∧ Q v s') E { s with heap := h1, drawn := d } := by
    intro h1 d first hk q1
    refine wpAny_bind (wpAny_setEpoch_of (hk _ _ ho) hd hf (wpAny_bind (wpAny_newObj_type (wpAny_pure ⟨_, rfl, "set_iterator", _, ⟨_, Heap.get?_push_size _ rfl, rfl⟩, slot_si_next.lookup, q1⟩))))
  have isi : ∀ (h1 : Heap) (first : Value), IsSI (h1.push { cls := .type "set_iterator", data := .fields #[first, rawInt (0 : Nat), .ref a, rawInt es.size, rawInt ep] }) h1.objs.size first (0 : Nat) a es.size ep := fun h1 first => ⟨_, Heap.get?_push_size _ rfl, rfl, rfl⟩
  by_cases hb : w.params.followText "set-order" = true
  · rw [if_neg (by simp [hb])]
    refine wpAny_bind (wpAny_pure (tail s.heap s.drawn _ (fun _ _ e => e) ?_))
    refine q _ _ _ _ _ s.drawn (fun B hB => Walks.set_text hB (Nat.ne_of_lt lta) hf hb) ⟨isi _ _, _, Heap.get?_push_of_some _ ho, hd⟩ ?_ ?_ (Nat.le_refl _) fun b o e => Heap.get?_push_of_some _ e
    · intro b hb2; simp only [List.mem_cons, List.not_mem_nil, or_false] at hb2; exact hb2.elim (fun e => .inr (e ▸ Nat.le_refl _)) .inl
    · exact (pickO_perm _ es).map _
  · have hb0 : w.params.followText "set-order" = false := by simpa using hb
    have hl : t.led = true := hw.resolve_left hb
    by_cases h1 : es.size ≤ 1
    · rw [if_neg (by simp; omega)]
      refine wpAny_bind (wpAny_pure (tail s.heap s.drawn _ (fun _ _ e => e) ?_))
      refine q _ _ _ _ _ s.drawn (fun B hB => Walks.set_one hB (Nat.ne_of_lt lta) hf hb0 hl h1) ⟨⟨0, isi _ _, below_0 (by rw [fits_size hf]; exact h1)⟩, _, Heap.get?_push_of_some _ ho, hd⟩ ?_ (List.Perm.refl _) (Nat.le_refl _) fun b o e => Heap.get?_push_of_some _ e
      intro b hb2; simp only [List.mem_cons, List.not_mem_nil, or_false] at hb2; exact hb2.elim (fun e => .inr (e ▸ Nat.le_refl _)) .inl
    · have hpl : t.plain = false := hp.resolve_left (by omega)
      rw [if_pos (by simp [hb0, hpl]; omega)]
      refine wpAny_bind (draw_order es.size (List.range es.size) _ _ (by simp) fun π d hπ => ?_)
      have hlen : π.length = es.size := by simpa using hπ.length_eq
      refine wpAny_bind (wpAny_newObj_type ?_ (by show (π.map _).toArray.size ≤ sizeLine; simp; omega))
      refine tail (s.heap.push _) d _ (fun _ _ e => Heap.get?_push_of_some _ e) ?_
      have lt1 : a < (s.heap.push { cls := .type "tuple", data := .seq (π.map fun (i : Nat) => rawInt i).toArray }).objs.size := by rw [size_push']; exact Nat.lt_succ_of_lt lta
      refine q _ _ _ _ _ d (fun B hB => Walks.set_drawn (tp := s.heap.objs.size) hB (Nat.ne_of_lt lt1) (by rw [size_push']; exact Nat.ne_of_lt (Nat.lt_succ_self _)) hf hlen (fun k hk => by simpa using hπ.subset hk)) ⟨isi _ _, ⟨_, Heap.get?_push_of_some _ (Heap.get?_push_of_some _ ho), hd⟩, ⟨_, Heap.get?_push_of_some _ (Heap.get?_push_size _ rfl), rfl, 0, rfl⟩⟩ ?_ ?_ (by rw [size_push']; exact Nat.le_succ _) fun b o e => Heap.get?_push_of_some _ (Heap.get?_push_of_some _ e)
      · intro b hb2; simp only [List.mem_cons, List.not_mem_nil, or_false] at hb2; rw [size_push'] at hb2; exact hb2.elim (fun e => .inr (e ▸ Nat.le_succ _)) (fun h => h.elim .inl (fun e => .inr (e ▸ Nat.le_refl _)))
      · rw [← range_vals]; exact hπ.map _
end
end L2.PU

namespace L2.PU
open PySem PySem.Spec PyProof.Rows

/-! ### all items of a set of texts -/
section
variable {prog : Program} {w : World} {A : Around} {E : Value → Shared → Prop} {s : Shared}
theorem sub_set_self : isSubtype (.type "set") (.type "set") = pure true := by rw [isSubtype_type]; kernel_rfl
theorem collect_set {a : Addr} {o : Obj} {es : Array (Int × Value)} {ep : Nat} {t : SetTable} {Q : List Value → Shared → Prop} (hh : A.handled = none) (ho : s.heap.get? a = some o) (hx : o.ExactSet) (hd : o.data = .set es ep t) (hf : t.fits es.size = true) (hz : es.size ≤ sizeLine)
    (hw : w.params.followText "set-order" = true ∨ t.led = true) (hp : es.size = 0 ∨ t.plain = false)
    (hQ : ∀ vals h' tk d, vals.Perm (es.toList.map (·.2)) → s.heap.objs.size ≤ h'.objs.size → (∀ b o, s.heap.get? b = some o → h'.get? b = some o) → Q vals { s with heap := h', toks := tk, drawn := d }) : wpAny (model prog w) A (collect (.ref a)) Q E s := by
  have lta := Heap.lt_size ho
  have nea : s.heap.objs.size ≠ a := Nat.ne_of_gt lta
  have hT : ∀ h' d, (h' : Heap).get? a = some o → Shared.TypeIs { s with heap := h', drawn := d } (.ref a) "set" := fun h' d e => ⟨o, e, hx.1⟩
  generalize hL : ({ cls := .type "list", data := .seq ([] : List Value).toArray } : Obj) = L
  have ho1 : (s.heap.push L).get? a = some o := Heap.get?_push_of_some _ ho
  have l1 : (s.heap.push L).get? s.heap.objs.size = some L := Heap.get?_push_size _ (by rw [← hL]; rfl)
  have h1 : Builtin.List.listSameRef (.ref s.heap.objs.size) (.ref a) = false := by simp [Builtin.List.listSameRef, nea]
  unfold collect; refine wpAny_bind (wpAny_runValue (codeAny_builtin F.entry_proto_collect ?_))
  rw [Around.under_plainId F.plain_proto_collect _]; show wpAny _ A.in1 (newList [] >>= fun l => again (.builtin "list.__iadd__" ⟨[l, .ref a], []⟩)) _ _ s
  refine wpAny_bind (wpAny_newObj_type (wpAny_pure ⟨plainId_quiet F.plain_list_iadd _, codeAny_builtin F.entry_list_iadd ?_⟩))
  rw [Around.under_plainId F.plain_list_iadd _]; show wpAny _ A.in1 (Builtin.List.listExtendWith (.ref s.heap.objs.size) (.ref a) (.ref s.heap.objs.size)) _ _ _
  rw [hL]
  unfold Builtin.List.listExtendWith; refine wpAny_bind (wpAny_typeOf (hT _ s.drawn ho1) ?_)
  rw [if_neg (by rw [h1]; decide)]
  refine wpAny_bind (set_iter (s := { s with heap := s.heap.push L }) ho1 hx hd hf hz hw hp fun it fp St vals h2 d W0 st0 hfp hperm hit hk => wpAny_bind (wpAny_holding ?_))
  have ho2 := hk a o ho1
  have l2 := hk _ _ l1
  unfold Builtin.List.listLengthHint; refine wpAny_bind (wpAny_specialOf (hT _ d ho2) F.slot_set_len.lookup ?_)
  generalize hid : ("set.__len__" : String) = id0; (fail_if_success (clear hid id0)); wp_delta; rw [show splitId id0 = some ("set", "__len__") from by subst hid; decide +kernel]; subst hid
  refine wpAny_bind (wpAny_isInstance (b := true) (hT _ d ho2) sub_set_self ?_)
  rw [if_neg (by decide)]
  refine if_same (c := true) ?_ ?_
  · decide +kernel
  rw [if_pos rfl]
  refine wpAny_bind (wpAny_typeOf (hT _ d ho2) (wpAny_pure ?_))
  refine if_same (c := true) ?_ ?_
  · decide +kernel
  rw [if_pos rfl]
  subst hL
  refine wpAny_bind (wpAny_rule (wpAny_bind ?_))
  show wpAny _ A.in1 (updateSeq s.heap.objs.size (·.push .none) >>= fun _ => updateSeq s.heap.objs.size (·.pop)) _ _ _
  refine wpAny_bind (wpAny_updateSeq l2 rfl ?_)
  have l3 := Heap.get?_update_self (Obj.mapSeq (·.push Value.none)) l2 rfl
  refine wpAny_updateSeq l3 rfl ?_
  have l4 := Heap.get?_update_self (Obj.mapSeq (·.pop)) l3 rfl
  refine wpAny_pure ⟨plainId_quiet F.plain_extend_loop _, ?_⟩
  have W := (W0 A.in1 (by simp [hh])).toS
  have hit' : s.heap.objs.size + 1 ≤ it := by have h := hit; dsimp only at h; rw [size_push'] at h; exact h
  have nei : s.heap.objs.size ≠ it := Nat.ne_of_lt hit'
  have off : s.heap.objs.size ∉ fp := by
    intro h
    rcases hfp _ h with e | e
    · exact nea e
    · dsimp only at e; rw [size_push'] at e; exact absurd e (Nat.not_succ_le_self _)
  have hk2 : ∀ b u, b ≠ s.heap.objs.size → h2.get? b = some u → ((h2.update s.heap.objs.size (Obj.mapSeq fun x => x.push Value.none)).update s.heap.objs.size (Obj.mapSeq fun x => x.pop)).get? b = some u := fun b u hb e => (Heap.get?_update_other _ _ (Ne.symm hb)).trans ((Heap.get?_update_other _ _ (Ne.symm hb)).trans e)
  refine codeAny_extend_loopS W hz _ off _ es.size 0 _ _ _ rfl (Nat.zero_le _) ((W0 A.in1 (by simp [hh])).frame _ _ _ st0 fun b hb u e => hk2 b u (fun z => off (z ▸ hb)) e) l4 (ItemsOf.nil _) fun s' acc c' hm hS' hacc => ?_
  show wpAny _ A (load s.heap.objs.size >>= _) _ _ s'
  refine wpAny_bind (wpAny_load hS' (wpAny_pure ?_))
  obtain ⟨h', g', d', tk', os'⟩ := s'
  have eg : g' = s.gens := hm.gens
  have ed : d' = d := hm.drawn
  have eo : os' = s.os := hm.os
  subst eg ed eo
  have hlen : vals.length = es.size := by simpa using hperm.length_eq
  have ea : acc.toList = vals := by
    have hsz := hacc.1
    apply List.ext_getElem?
    intro i
    by_cases hi : i < es.size
    · have hv := hacc.2 i acc[i] (by simp [hsz, hi])
      rw [hv]; simp [hsz, hi]
    · rw [List.getElem?_eq_none (by simp [hsz]; omega), List.getElem?_eq_none (by omega)]
  rw [ea]
  refine hQ vals h' tk' _ hperm (Nat.le_of_lt (Heap.lt_size hS')) fun b u e => ?_
  have lb := Heap.lt_size e
  refine hm.heap b u ?_ (hk2 b u (Nat.ne_of_lt lb) (hk b u (Heap.get?_push_of_some _ e)))
  simp only [List.mem_cons, List.not_mem_nil, or_false, not_or]
  exact ⟨Nat.ne_of_lt lb, Nat.ne_of_lt (Nat.lt_trans lb hit')⟩
end
end L2.PU

namespace L2.PU
open PySem PySem.Spec PyProof.Rows

/-! ### texts in their order -/
noncomputable def leS (a b : Str) : Bool := !ltCps b.cps.toList a.cps.toList
noncomputable def srtS (xs : List Str) : List Str := xs.mergeSort leS
theorem leS_iff (a b : Str) : leS a b = true ↔ a.cps.toList ≤ b.cps.toList := by
  unfold leS; rw [ltCps_eq]; simp
theorem leS_trans (a b c : Str) (h1 : leS a b = true) (h2 : leS b c = true) : leS a c = true := by
  rw [leS_iff] at *; exact List.le_trans h1 h2
theorem leS_total (a b : Str) : (leS a b || leS b a) = true := by
  rw [Bool.or_eq_true, leS_iff, leS_iff]; exact List.le_total _ _
theorem leS_anti (a b : Str) (h1 : leS a b = true) (h2 : leS b a = true) : a = b := by
  rw [leS_iff] at *; exact Str.ext' (Array.toList_inj.mp (List.le_antisymm h1 h2))
theorem srtS_perm (xs : List Str) : (srtS xs).Perm xs := List.mergeSort_perm xs leS
theorem srtS_pair (xs : List Str) : (srtS xs).Pairwise (fun a b => leS a b = true) := List.pairwise_mergeSort leS_trans leS_total xs
theorem rising_pair : ∀ (l : List Str) (p : Str), risingS p l = true → (p :: l).Pairwise (fun a b => leS a b = true)
  | [], p, _ => by simp
  | x :: r, p, h => by
    have h' : (!ltCps x.cps.toList p.cps.toList && risingS x r) = true := h
    rw [Bool.and_eq_true] at h'
    have ih := rising_pair r x h'.2
    refine List.pairwise_cons.mpr ⟨fun y hy => ?_, ih⟩
    rcases List.mem_cons.mp hy with e | e
    · rw [e]; exact h'.1
    · exact leS_trans _ _ _ h'.1 (List.rel_of_pairwise_cons ih e)
theorem sortedS_pair : ∀ (l : List Str), sortedS l = true → l.Pairwise (fun a b => leS a b = true)
  | [], _ => .nil
  | x :: r, h => rising_pair r x h
theorem srtS_of {xs ys : List Str} (hs : sortedS ys = true) (hp : ys.Perm xs) : ys = srtS xs :=
  List.Perm.eq_of_pairwise (fun a b _ _ => leS_anti a b) (sortedS_pair ys hs) (srtS_pair xs) (hp.trans (srtS_perm xs).symm)
/-- as many, all of them met: the same -/
theorem perm_of_mem {α : Type} [DecidableEq α] : ∀ (xs ys : List α), xs.Nodup → (∀ k, k ∈ xs → k ∈ ys) → ys.length = xs.length → ys.Perm xs
  | [], ys, _, _, h => by cases ys with | nil => exact .refl _ | cons _ _ => simp at h
  | x :: xs, ys, hn, hm, h => by
    have hx := hm x (by simp)
    have hp := List.perm_cons_erase hx
    refine hp.trans (List.Perm.cons x (perm_of_mem xs (ys.erase x) (List.nodup_cons.mp hn).2 (fun k hk => ?_) ?_))
    · have ne : k ≠ x := fun e => (List.nodup_cons.mp hn).1 (e ▸ hk)
      exact (List.mem_erase_of_ne ne).mpr (hm k (by simp [hk]))
    · rw [List.length_erase_of_mem hx, h]; simp
theorem addS_nodup {σ : List Str} {v : Str} (h : σ.Nodup) : (addS σ v).Nodup := by
  unfold addS
  split
  · exact h
  · rename_i hc
    have hn : v ∉ σ := fun hm => hc (by simpa using hm)
    first
    | exact List.nodup_cons.mpr ⟨hn, h⟩
    | (rw [List.nodup_append]; exact ⟨h, by simp, by intro a ha b hb; simp at hb; subst hb; intro e; subst e; exact hn ha⟩)
theorem metS_nodup_from (vs : List Str) : ∀ (σ : List Str), σ.Nodup → (vs.foldl addS σ).Nodup := by
  induction vs with
  | nil => intro σ h; exact h
  | cons v r ih => intro σ h; exact ih _ (addS_nodup h)
theorem metS_nodup (vs : List Str) : (metS vs).Nodup := metS_nodup_from vs [] .nil
/-! ### sorted(x) -/
section
variable {prog : Program} {w : World} {A : Around} {E : Value → Shared → Prop} {s : Shared}
theorem sorted_of {x : Value} {xs : List Str} {Q : Value → Shared → Prop} (hh : A.handled = none) (h64 : xs.length < 64)
    (hc : ∀ (B : Around) (Q' : List Value → Shared → Prop), B.handled = none → (∀ vals ts h' tk d, StrsAre vals ts → ts.Perm xs → s.heap.objs.size ≤ h'.objs.size → (∀ b o, s.heap.get? b = some o → h'.get? b = some o) → Q' vals { s with heap := h', toks := tk, drawn := d }) → wpAny (model prog w) B (collect x) Q' E s)
    (h : ∀ out l h' tk d m, StrsAre out (srtS xs) → s.heap.objs.size ≤ l → h'.get? l = some { cls := .type "list", data := .seq out.toArray m } → (∀ b o, s.heap.get? b = some o → h'.get? b = some o) → Q (.ref l) { s with heap := h', toks := tk, drawn := d }) :
    wpAny (model prog w) A (call (.builtin "sorted") [x]) Q E s := by
  refine Calls.call_function_entry kind_sorted plain_sorted entry_sorted (args_sorted1 _) ?_
  unfold Builtin.«sorted»
  refine wpAny_bind (m := checkCount "sorted" 1 1 _) (wpAny_pure ?_)
  refine wpAny_bind (hc A.in1 _ (by simp [hh]) fun vals ts h1 tk d hS hp le hk => ?_)
  have hvl : vals.length < 64 := by rw [hS.len_eq, hp.length_eq]; exact h64
  refine wpAny_bind (wpAny_newList ?_)
  have hoL : (h1.push (seqObj "list" vals.toArray 0)).get? h1.objs.size = some (seqObj "list" vals.toArray 0) := Heap.get?_push_size _ rfl
  show wpAny _ _ _ _ _ { s with heap := h1.push (seqObj "list" vals.toArray 0), toks := tk, drawn := d }
  refine wpAny_bind (wpAny_holding (wpAny_call_entry slot_list_sort ⟨_, hoL, rfl⟩ entry_list_sort (list_sort_treeK strKind_oneLt hoL hS.keysOf (fun v₁ v₂ rest e => keyKind_strs (by rw [← e]; exact hS)) hvl fun st' a1 a2 => ⟨_, rfl, ?_⟩) (args_list_sort _)))
  refine wpAny_pure ⟨_, rfl, ?_⟩
  obtain ⟨ss', b1, b2, b3⟩ := sorted_out_str hS a1 a2
  have e := srtS_of b3 (b2.trans hp)
  subst e
  generalize (Array.map (fun x => x.snd) (arrOf st')) = out at b1 ⊢
  obtain ⟨ol⟩ := out
  have k1 := get?_update_seq hoL (fun _ => #[])
  have k2 := get?_update_seq (Heap.get?_push_of_some (seqObj "list" #[] 0) (Heap.get?_push_of_some (seqObj "tuple" vals.toArray 0) k1)) (fun _ => ol.toArray)
  refine h ol h1.objs.size _ tk d _ b1 le k2 fun b o e => ?_
  have lt := Heap.lt_size (hk b o e)
  have ne : h1.objs.size ≠ b := Nat.ne_of_gt lt
  show (sortedHeap _ _ _ _).get? b = some o
  unfold sortedHeap
  rw [Heap.get?_update_other _ _ ne]
  refine Heap.get?_push_of_some _ (Heap.get?_push_of_some _ ?_)
  rw [Heap.get?_update_other _ _ ne]
  exact Heap.get?_push_of_some _ (hk b o e)
theorem strs_of : ∀ (vals : List Value), (∀ v ∈ vals, ∃ k t, v = Value.str k t) → ∃ ts, StrsAre vals ts
  | [], _ => ⟨[], .nil⟩
  | v :: vs, h => by
    obtain ⟨k, t, e⟩ := h v (by simp)
    obtain ⟨ts, h2⟩ := strs_of vs fun v hv => h v (by simp [hv])
    subst e
    exact ⟨k :: ts, .cons k t h2⟩
theorem strs_mem : ∀ {vals : List Value} {ts : List Str}, StrsAre vals ts → ∀ {k : Str} {t : Tok}, Value.str k t ∈ vals → k ∈ ts
  | _, _, .cons y u r, k, t, h => by
    rcases List.mem_cons.mp h with e | e
    · injection e with e1; subst e1; simp
    · exact List.mem_cons_of_mem _ (strs_mem r e)
/-- sorted(a set of texts) -/
theorem sorted_set {a : Addr} {ss : List Str} {Q : Value → Shared → Prop} (hh : A.handled = none) (h64 : ss.length < 64) (hn : ss.Nodup) (z : s.heap.SetOf (PySem.strKind prog w) a (fun k => ss.contains k) ss.length) (zt : Txts w s.heap a)
    (h : ∀ out l h' tk d m, StrsAre out (srtS ss) → s.heap.objs.size ≤ l → h'.get? l = some { cls := .type "list", data := .seq out.toArray m } → (∀ b o, s.heap.get? b = some o → h'.get? b = some o) → Q (.ref l) { s with heap := h', toks := tk, drawn := d }) :
    wpAny (model prog w) A (call (.builtin "sorted") [.ref a]) Q E s := by
  obtain ⟨o, es, ep, t, ho, hx, hd, hel, hm, hb, hf, hsz⟩ := z
  obtain ⟨o2, ho2, es2, ep2, t2, hd2, hw, hp⟩ := zt
  rw [ho] at ho2
  cases ho2
  rw [hd] at hd2
  cases hd2
  have hs : sizeLine = 16777216 := sizeLine_eq
  refine sorted_of hh h64 (fun B Q' hB q => collect_set hB ho hx hd hf (by unfold scanBound at hb; omega) hw hp fun vals h' tk d pv le kp => ?_) h
  have hstr : ∀ v ∈ vals, ∃ k t, v = Value.str k t := by
    intro v hv
    obtain ⟨e, he, rfl⟩ := List.mem_map.mp (pv.subset hv)
    obtain ⟨⟨k, hk, _⟩, _⟩ := hel e he
    obtain ⟨t, et⟩ := Value.isStrOf_shape hk
    exact ⟨k, t, et⟩
  obtain ⟨ts, hS⟩ := strs_of vals hstr
  refine q vals ts h' tk d hS (perm_of_mem ss ts hn (fun k hk => ?_) ?_) le kp
  · obtain ⟨e, he, hi⟩ := (hm k).mp (by simpa using hk)
    obtain ⟨t, et⟩ := Value.isStrOf_shape hi
    refine strs_mem hS (t := t) (pv.symm.subset ?_)
    rw [← et]
    exact List.mem_map.mpr ⟨e, he, rfl⟩
  · rw [← hS.len_eq, pv.length_eq, List.length_map, Array.length_toList, hsz]
end
end L2.PU

namespace L2.PU
open PySem PySem.Spec PyProof.Rows

/-- data without a heap -/
inductive D where
  | non | bl (b : Bool) | int (i : Int) | str (x : Str) | tup (ds : List D) | lst (ds : List D) | obj (C : Addr) (fs : List (Str × D))
  | dk (kvs : List (Key × D)) | dt (kvs : List (List Key × D)) | exc (C : Addr) | set (ss : List Str)
/-- an exception of the class at C stands there -/
noncomputable def excAt (a C : Addr) (h : Heap) : Prop := ∃ o, h.get? a = some o ∧ o.cls = .ref C

mutual
/-- the value v of the abstract heap H bears the datum -/
inductive Is (K : PySem.W.Frag) (H : Hp) : D → V → Prop where
  | non : Is K H .non .non
  | bl (b : Bool) : Is K H (.bl b) (.bl b)
  | int (i : Int) : Is K H (.int i) (.int i)
  | str (x : Str) : Is K H (.str x) (.str x)
  | tup {a : Addr} {ds : List D} {vs : List V} (h : SqT K H a vs) (r : IsL K H ds vs) : Is K H (.tup ds) (.ref a)
  | lst {a : Addr} {ds : List D} {vs : List V} (h : SqL K H a vs) (r : IsL K H ds vs) : Is K H (.lst ds) (.ref a)
  | obj {a C dx : Addr} {fs : List (Str × D)} {vs : List (Str × V)} (h : H a = some (.ins C dx vs)) (r : IsF K H fs vs) : Is K H (.obj C fs) (.ref a)
  | dk {a : Addr} {kvs : List (Key × D)} {vs : List (Key × V)} (h : H a = some (.dK vs)) (r : IsK K H kvs vs) : Is K H (.dk kvs) (.ref a)
  | dt {a : Addr} {kvs : List (List Key × D)} {vs : List (List Key × V)} (h : H a = some (.dT vs)) (r : IsT K H kvs vs) : Is K H (.dt kvs) (.ref a)
  | exc {a C : Addr} (h : H a = some (.ext (excAt a C))) : Is K H (.exc C) (.ref a)
  | set {a : Addr} {ss : List Str} (h : H a = some (.set (fun k => ss.contains k) ss.length)) : Is K H (.set ss) (.ref a)
inductive IsK (K : PySem.W.Frag) (H : Hp) : List (Key × D) → List (Key × V) → Prop where
  | nil : IsK K H [] []
  | cons {x : Key} {d : D} {v : V} {ds : List (Key × D)} {vs : List (Key × V)} (h : Is K H d v) (r : IsK K H ds vs) : IsK K H ((x, d) :: ds) ((x, v) :: vs)
inductive IsT (K : PySem.W.Frag) (H : Hp) : List (List Key × D) → List (List Key × V) → Prop where
  | nil : IsT K H [] []
  | cons {x : List Key} {d : D} {v : V} {ds : List (List Key × D)} {vs : List (List Key × V)} (h : Is K H d v) (r : IsT K H ds vs) : IsT K H ((x, d) :: ds) ((x, v) :: vs)
inductive IsL (K : PySem.W.Frag) (H : Hp) : List D → List V → Prop where
  | nil : IsL K H [] []
  | cons {d : D} {v : V} {ds : List D} {vs : List V} (h : Is K H d v) (r : IsL K H ds vs) : IsL K H (d :: ds) (v :: vs)
inductive IsF (K : PySem.W.Frag) (H : Hp) : List (Str × D) → List (Str × V) → Prop where
  | nil : IsF K H [] []
  | cons {x : Str} {d : D} {v : V} {ds : List (Str × D)} {vs : List (Str × V)} (h : Is K H d v) (r : IsF K H ds vs) : IsF K H ((x, d) :: ds) ((x, v) :: vs)
end

section
variable {K : PySem.W.Frag} {H H' : Hp}
theorem SqT.mono {a : Addr} {xs : List V} (e : Same H H') (h : SqT K H a xs) : SqT K H' a xs := by
  rcases h with (h | ⟨o, h⟩) | h
  · exact .inl (.inl (e _ _ h))
  · exact .inl (.inr ⟨o, e _ _ h⟩)
  · exact .inr h
theorem Is.mono (e : Same H H') {d : D} {v : V} (h : Is K H d v) : Is K H' d v :=
  Is.rec (motive_1 := fun d v _ => Is K H' d v) (motive_2 := fun ds vs _ => IsK K H' ds vs) (motive_3 := fun ds vs _ => IsT K H' ds vs) (motive_4 := fun ds vs _ => IsL K H' ds vs) (motive_5 := fun ds vs _ => IsF K H' ds vs)
    .non .bl .int .str (fun h _ r => .tup (SqT.mono e h) r) (fun h _ r => .lst (e.seq h) r) (fun h _ r => .obj (e _ _ h) r) (fun h _ r => .dk (e _ _ h) r) (fun h _ r => .dt (e _ _ h) r) (fun h => .exc (e _ _ h)) (fun h => .set (e _ _ h))
    .nil (fun _ _ i r => .cons i r) .nil (fun _ _ i r => .cons i r) .nil (fun _ _ i r => .cons i r) .nil (fun _ _ i r => .cons i r) h
theorem IsK.mono (e : Same H H') : ∀ {ds : List (Key × D)} {vs : List (Key × V)}, IsK K H ds vs → IsK K H' ds vs := by
  intro ds
  induction ds with
  | nil => intro vs h; cases h; exact .nil
  | cons d ds ih => intro vs h; cases h with | cons i r => exact .cons (i.mono e) (ih r)
theorem IsT.mono (e : Same H H') : ∀ {ds : List (List Key × D)} {vs : List (List Key × V)}, IsT K H ds vs → IsT K H' ds vs := by
  intro ds
  induction ds with
  | nil => intro vs h; cases h; exact .nil
  | cons d ds ih => intro vs h; cases h with | cons i r => exact .cons (i.mono e) (ih r)
theorem IsL.mono (e : Same H H') : ∀ {ds : List (D)} {vs : List (V)}, IsL K H ds vs → IsL K H' ds vs := by
  intro ds
  induction ds with
  | nil => intro vs h; cases h; exact .nil
  | cons d ds ih => intro vs h; cases h with | cons i r => exact .cons (i.mono e) (ih r)
theorem IsF.mono (e : Same H H') : ∀ {ds : List (Str × D)} {vs : List (Str × V)}, IsF K H ds vs → IsF K H' ds vs := by
  intro ds
  induction ds with
  | nil => intro vs h; cases h; exact .nil
  | cons d ds ih => intro vs h; cases h with | cons i r => exact .cons (i.mono e) (ih r)
theorem IsL.length : ∀ {ds : List D} {vs : List V}, IsL K H ds vs → ds.length = vs.length := by
  intro ds
  induction ds with
  | nil => intro vs h; cases h; rfl
  | cons d ds ih => intro vs h; cases h with | cons _ r => exact congrArg (· + 1) (ih r)
theorem IsL.get : ∀ {ds : List D} {vs : List V} {i : Nat} {d : D}, IsL K H ds vs → ds[i]? = some d → ∃ v, vs[i]? = some v ∧ Is K H d v
  | _, _, _, _, .nil, e => by simp at e
  | _, _, 0, _, .cons h _, e => by simp at e; subst e; exact ⟨_, rfl, h⟩
  | _, _, i + 1, d, .cons _ r, e => by
    obtain ⟨v, h1, h2⟩ := IsL.get (i := i) (d := d) r (by simpa using e)
    exact ⟨v, by simpa using h1, h2⟩
theorem IsL.getV : ∀ {ds : List D} {vs : List V} {i : Nat} {v : V}, IsL K H ds vs → vs[i]? = some v → ∃ d, ds[i]? = some d ∧ Is K H d v
  | _, _, _, _, .nil, e => by simp at e
  | _, _, 0, _, .cons h _, e => by simp at e; subst e; exact ⟨_, rfl, h⟩
  | _, _, i + 1, v, .cons _ r, e => by
    obtain ⟨d, h1, h2⟩ := IsL.getV (i := i) (v := v) r (by simpa using e)
    exact ⟨d, by simpa using h1, h2⟩
theorem IsL.append : ∀ {ds es : List D} {vs ws : List V}, IsL K H ds vs → IsL K H es ws → IsL K H (ds ++ es) (vs ++ ws) := by
  intro ds
  induction ds with
  | nil => intro es vs ws h s; cases h; exact s
  | cons d ds ih => intro es vs ws h s; cases h with | cons i r => exact .cons i (ih r s)
theorem IsL.take : ∀ {ds : List D} {vs : List V} (n : Nat), IsL K H ds vs → IsL K H (ds.take n) (vs.take n)
  | _, _, 0, _ => .nil
  | _, _, _ + 1, .nil => .nil
  | _, _, n + 1, .cons h r => .cons h (IsL.take n r)
theorem IsL.drop : ∀ {ds : List D} {vs : List V} (n : Nat), IsL K H ds vs → IsL K H (ds.drop n) (vs.drop n)
  | _, _, 0, r => r
  | _, _, _ + 1, .nil => .nil
  | _, _, n + 1, .cons _ r => IsL.drop n r
theorem IsF.lookup : ∀ {fs : List (Str × D)} {vs : List (Str × V)} {x : Str} {d : D}, IsF K H fs vs → fs.lookup x = some d → ∃ v, vs.lookup x = some v ∧ Is K H d v
  | _, _, _, _, .nil, e => by simp at e
  | _, _, x, d, .cons (x := y) (d := d') (v := v') (ds := fs) (vs := vs) h r, e => by
    rw [List.lookup_cons] at e ⊢
    cases q : (x == y) with
    | true => rw [q] at e; simp at e; subst e; exact ⟨_, rfl, h⟩
    | false => rw [q] at e; exact IsF.lookup r e
theorem IsF.lookupNone : ∀ {fs : List (Str × D)} {vs : List (Str × V)} {x : Str}, IsF K H fs vs → fs.lookup x = none → vs.lookup x = none := by
  intro fs
  induction fs with
  | nil => intro vs x h e; cases h; rfl
  | cons f fs ih =>
    intro vs x h e
    cases h with
    | cons i r =>
      rename_i y d' v' vs
      rw [List.lookup_cons] at e ⊢
      cases q : (x == y) with
      | true => rw [q] at e; simp at e
      | false => rw [q] at e; exact ih r e
theorem IsF.length : ∀ {ds : List (Str × D)} {vs : List (Str × V)}, IsF K H ds vs → ds.length = vs.length := by
  intro ds
  induction ds with
  | nil => intro vs h; cases h; rfl
  | cons d ds ih => intro vs h; cases h with | cons _ r => exact congrArg (· + 1) (ih r)
theorem isL_ints : ∀ (ns : List Int), IsL K H (ns.map D.int) (ns.map V.int)
  | [] => .nil
  | n :: r => .cons (.int n) (isL_ints r)
end

/-- a dict: its keys ints and texts, or tuples of these -/
inductive DO where
  | k (kvs : List (Key × D)) | t (kvs : List (List Key × D))
noncomputable def DO.d : DO → D
  | .k kvs => .dk kvs
  | .t kvs => .dt kvs
noncomputable def kD : Key → D
  | .inl i => .int i
  | .inr x => .str x
inductive SV where
  | sh (d : D) | own (ds : List D) | oin (a C dx : Addr) (fs : List (Str × D)) | ow (o : DO) | tk (ks : List Key)
noncomputable abbrev Rho := List (Option SV)
noncomputable def SV.cur : SV → D
  | .sh d => d
  | .own ds => .lst ds
  | .oin _ C _ fs => .obj C fs
  | .ow o => o.d
  | .tk ks => .tup (ks.map kD)

open Classical in
noncomputable def Off (H : Hp) (O : Nat → Option Addr) : Hp := fun b => if ∃ i, O i = some b then none else H b
theorem Off.same (H : Hp) (O : Nat → Option Addr) : Same (Off H O) H := fun b o h => by
  unfold Off at h
  split at h
  · cases h
  · exact h
theorem Off.of {H : Hp} {O : Nat → Option Addr} {b : Addr} {o : HO} (h : H b = some o) (n : ∀ i, O i ≠ some b) : Off H O b = some o := by
  unfold Off
  rw [if_neg (fun ⟨i, e⟩ => n i e)]
  exact h
theorem Off.not {H : Hp} {O : Nat → Option Addr} {b : Addr} {o : HO} (h : Off H O b = some o) : ∀ i, O i ≠ some b := fun i e => by
  unfold Off at h
  rw [if_pos ⟨i, e⟩] at h
  cases h
theorem Off.mono {H H' : Hp} {O : Nat → Option Addr} (e : Same H H') : Same (Off H O) (Off H' O) := fun b o h => Off.of (e _ _ (Off.same H O b o h)) (Off.not h)
/-- fewer are hidden -/
theorem Off.less {H : Hp} {O O' : Nat → Option Addr} (e : ∀ i a, O' i = some a → ∃ j, O j = some a) : Same (Off H O) (Off H O') := fun b o h => Off.of (Off.same H O b o h) fun i q => by
  obtain ⟨j, z⟩ := e i b q
  exact Off.not h j z
/-- a hidden one is changed -/
theorem Off.upd {H : Hp} {O : Nat → Option Addr} {a : Addr} {o : HO} {i : Nat} (h : O i = some a) : Off (upd H a o) O = Off H O := by
  funext b
  unfold Off
  by_cases q : ∃ j, O j = some b
  · rw [if_pos q, if_pos q]
  · rw [if_neg q, if_neg q, upd_ne]
    intro z; subst z; exact q ⟨i, h⟩

/-- owned ones are lists and instances: data without these does not lean on them -/
noncomputable def mutO : HO → Bool
  | .lst _ => true
  | .ins _ _ _ => true
  | .dK _ => true
  | .dT _ => true
  | _ => false
noncomputable def OwnK (H : Hp) (O : Nat → Option Addr) : Prop := ∀ i a, O i = some a → ∃ w, H a = some w ∧ mutO w = true
/-- what a dict of one's own bears -/
noncomputable def IsO (K : PySem.W.Frag) (H : Hp) : DO → HO → Prop
  | .k kvs, .dK vs => IsK K H kvs vs
  | .t kvs, .dT vs => IsT K H kvs vs
  | _, _ => False
theorem IsO.mono {K : PySem.W.Frag} {H H' : Hp} (e : Same H H') {o : DO} {w : HO} (h : IsO K H o w) : IsO K H' o w := by
  cases o <;> cases w <;> first | exact False.elim h | skip
  · exact IsK.mono e h
  · exact IsT.mono e h
theorem IsO.is {K : PySem.W.Frag} {H : Hp} {o : DO} {w : HO} {a : Addr} (ha : H a = some w) (h : IsO K H o w) : Is K H o.d (.ref a) := by
  cases o <;> cases w <;> first | exact False.elim h | skip
  · exact .dk ha h
  · exact .dt ha h
theorem is_kD {K : PySem.W.Frag} {H : Hp} (k : Key) : Is K H (kD k) (kV k) := by
  cases k
  · exact .int _
  · exact .str _
theorem isL_kD {K : PySem.W.Frag} {H : Hp} : ∀ (ks : List Key), IsL K H (ks.map kD) (ks.map kV)
  | [] => .nil
  | k :: ks => .cons (is_kD k) (isL_kD ks)
theorem OwnK.mono {H H' : Hp} {O : Nat → Option Addr} (e : Same H H') (h : OwnK H O) : OwnK H' O := fun i a q => by
  obtain ⟨w, h1, h2⟩ := h i a q
  exact ⟨w, e _ _ h1, h2⟩
noncomputable def Slot (K : PySem.W.Frag) (H : Hp) (O : Nat → Option Addr) (σ : St) (i : Nat) : SV → Prop
  | .sh d => ∃ v, σ[i]? = some (some v) ∧ Is K (Off H O) d v
  | .own ds => ∃ a vs, O i = some a ∧ σ[i]? = some (some (.ref a)) ∧ H a = some (.lst vs) ∧ IsL K (Off H O) ds vs
  | .oin a C dx fs => O i = some a ∧ σ[i]? = some (some (.ref a)) ∧ dx ≠ a ∧ (∃ vs, H a = some (.ins C dx vs) ∧ IsF K (Off H O) fs vs)
  | .ow o => ∃ a w, O i = some a ∧ σ[i]? = some (some (.ref a)) ∧ H a = some w ∧ IsO K (Off H O) o w
  | .tk ks => ∃ a, σ[i]? = some (some (.ref a)) ∧ Off H O a = some (.tup (ks.map kV))

/-- the slots' data, the entry's heap kept -/
noncomputable def Rel (K : PySem.W.Frag) (H₀ : Hp) (ρ : Rho) (σ : St) (H : Hp) : Prop :=
  ∃ O : Nat → Option Addr, (∀ i j a, O i = some a → O j = some a → i = j) ∧ OwnK H O ∧ Same H₀ (Off H O) ∧ ρ.length = σ.length ∧ ∀ i sv, ρ[i]? = some (some sv) → Slot K H O σ i sv

section
variable {K : PySem.W.Frag} {H₀ H H' : Hp} {ρ : Rho} {σ : St}
theorem Slot.mono {O : Nat → Option Addr} {i : Nat} {sv : SV} (e : Same H H') (h : Slot K H O σ i sv) : Slot K H' O σ i sv := by
  cases sv with
  | sh d => obtain ⟨v, h1, h2⟩ := h; exact ⟨v, h1, h2.mono (Off.mono e)⟩
  | own ds => obtain ⟨a, vs, h1, h2, h3, h4⟩ := h; exact ⟨a, vs, h1, h2, e _ _ h3, h4.mono (Off.mono e)⟩
  | oin a C dx fs => obtain ⟨h1, h2, h3, vs, h4, h5⟩ := h; exact ⟨h1, h2, h3, vs, e _ _ h4, h5.mono (Off.mono e)⟩
  | ow o => obtain ⟨a, w, h1, h2, h3, h4⟩ := h; exact ⟨a, w, h1, h2, e _ _ h3, h4.mono (Off.mono e)⟩
  | tk ks => obtain ⟨a, h1, h2⟩ := h; exact ⟨a, h1, Off.mono e _ _ h2⟩
theorem Rel.mono (e : Same H H') (r : Rel K H₀ ρ σ H) : Rel K H₀ ρ σ H' := by
  obtain ⟨O, h1, ho, h2, hl, h3⟩ := r
  exact ⟨O, h1, ho.mono e, h2.trans (Off.mono e), hl, fun i sv q => (h3 i sv q).mono e⟩
theorem Rel.get (r : Rel K H₀ ρ σ H) {i : Nat} {sv : SV} (q : ρ[i]? = some (some sv)) : ∃ v, σ[i]? = some (some v) ∧ Is K H sv.cur v := by
  obtain ⟨O, h1, ho, h2, hl, h3⟩ := r
  have z := h3 i sv q
  cases sv with
  | sh d => obtain ⟨v, e1, e2⟩ := z; exact ⟨v, e1, e2.mono (Off.same _ _)⟩
  | own ds => obtain ⟨a, vs, e1, e2, e3, e4⟩ := z; exact ⟨.ref a, e2, .lst (SqL.of e3) (e4.mono (Off.same _ _))⟩
  | oin a C dx fs => obtain ⟨e1, e2, e3, vs, e4, e5⟩ := z; exact ⟨.ref a, e2, .obj e4 (e5.mono (Off.same _ _))⟩
  | ow o => obtain ⟨a, w, e1, e2, e3, e4⟩ := z; exact ⟨.ref a, e2, (e4.mono (Off.same _ _)).is e3⟩
  | tk ks => obtain ⟨a, e1, e2⟩ := z; exact ⟨.ref a, e1, .tup (SqT.of (Off.same _ _ _ _ e2)) (isL_kD ks)⟩
theorem Rel.kept (r : Rel K H₀ ρ σ H) : Same H₀ H := by
  obtain ⟨O, h1, ho, h2, _⟩ := r
  exact h2.trans (Off.same _ _)
end

mutual
/-- no list, no instance within: what bears it never changes -/
noncomputable def D.imm : D → Bool
  | .non => true | .bl _ => true | .int _ => true | .str _ => true
  | .tup ds => immL ds
  | .lst _ => false
  | .obj _ _ => false
  | .dk _ => false
  | .dt _ => false
  | .exc _ => false
  | .set _ => false
noncomputable def immL : List D → Bool
  | [] => true
  | d :: ds => d.imm && immL ds
end
section
variable {K : PySem.W.Frag} {H H' : Hp}
theorem SqT.alike {a : Addr} {xs : List V} (ht : ∀ b xs, H b = some (.tup xs) → H' b = some (.tup xs)) (hf : ∀ b o u, H b = some (.frz o u) → H' b = some (.frz o u)) (h : SqT K H a xs) : SqT K H' a xs := by
  rcases h with (h | ⟨o, h⟩) | h
  · exact .inl (.inl (ht _ _ h))
  · exact .inl (.inr ⟨o, hf _ _ _ h⟩)
  · exact .inr h
theorem Is.alike (ht : ∀ b xs, H b = some (.tup xs) → H' b = some (.tup xs)) (hf : ∀ b o u, H b = some (.frz o u) → H' b = some (.frz o u)) {d : D} {v : V} (q : d.imm = true) (h : Is K H d v) : Is K H' d v :=
  Is.rec (motive_1 := fun d v _ => d.imm = true → Is K H' d v) (motive_2 := fun _ _ _ => True) (motive_3 := fun _ _ _ => True) (motive_4 := fun ds vs _ => immL ds = true → IsL K H' ds vs) (motive_5 := fun _ _ _ => True)
    (fun _ => .non) (fun b _ => .bl b) (fun i _ => .int i) (fun x _ => .str x) (fun h _ r q => .tup (SqT.alike ht hf h) (r q)) (fun _ _ _ q => Bool.noConfusion (show false = true from q)) (fun _ _ _ q => Bool.noConfusion (show false = true from q)) (fun _ _ _ q => Bool.noConfusion (show false = true from q)) (fun _ _ _ q => Bool.noConfusion (show false = true from q)) (fun _ q => Bool.noConfusion (show false = true from q)) (fun _ q => Bool.noConfusion (show false = true from q))
    trivial (fun _ _ _ _ => trivial) trivial (fun _ _ _ _ => trivial) (fun _ => .nil) (fun _ _ i r q => .cons (i (Bool.and_eq_true_iff.mp q).1) (r (Bool.and_eq_true_iff.mp q).2)) trivial (fun _ _ _ _ => trivial) h q
theorem IsL.alike (ht : ∀ b xs, H b = some (.tup xs) → H' b = some (.tup xs)) (hf : ∀ b o u, H b = some (.frz o u) → H' b = some (.frz o u)) : ∀ {ds : List D} {vs : List V}, immL ds = true → IsL K H ds vs → IsL K H' ds vs := by
  intro ds
  induction ds with
  | nil => intro vs q h; cases h; exact .nil
  | cons d ds ih =>
    intro vs q h
    rw [immL, Bool.and_eq_true] at q
    cases h with | cons i r => exact .cons (Is.alike ht hf q.1 i) (ih q.2 r)
theorem off_imm {O : Nat → Option Addr} (ho : OwnK H O) {d : D} {v : V} (q : d.imm = true) (h : Is K H d v) : Is K (Off H O) d v := by
  refine Is.alike (fun b xs e => Off.of e fun i z => ?_) (fun b o u e => Off.of e fun i z => ?_) q h
  · obtain ⟨u, w, m⟩ := ho i b z; rw [w] at e; cases e; cases m
  · obtain ⟨u, w, m⟩ := ho i b z; rw [w] at e; cases e; cases m
theorem offL_imm {O : Nat → Option Addr} (ho : OwnK H O) {ds : List D} {vs : List V} (q : immL ds = true) (h : IsL K H ds vs) : IsL K (Off H O) ds vs := by
  refine IsL.alike (fun b xs e => Off.of e fun i z => ?_) (fun b o u e => Off.of e fun i z => ?_) q h
  · obtain ⟨u, w, m⟩ := ho i b z; rw [w] at e; cases e; cases m
  · obtain ⟨u, w, m⟩ := ho i b z; rw [w] at e; cases e; cases m
end
end L2.PU

namespace L2.PU
open PySem PySem.Spec PyProof.Rows

/-- what a part comes to: nothing is known; an exception of the class at that address; a thing -/
noncomputable abbrev M (α : Type) := Option (Except Addr α)
noncomputable def ok {α : Type} (a : α) : M α := some (.ok a)
noncomputable def err {α : Type} (c : Addr) : M α := some (.error c)
noncomputable def bnd {α β : Type} (m : M α) (k : α → M β) : M β := match m with
  | none => none
  | some (.error c) => some (.error c)
  | some (.ok a) => k a
@[simp] theorem bnd_ok {α β : Type} (a : α) (k : α → M β) : bnd (ok a) k = k a := rfl
@[simp] theorem bnd_err {α β : Type} (c : Addr) (k : α → M β) : bnd (err c : M α) k = err c := rfl
@[simp] theorem bnd_none {α β : Type} (k : α → M β) : bnd (none : M α) k = none := rfl
theorem ok_inj {α : Type} {a b : α} (h : ok a = ok b) : a = b := by cases h; rfl
theorem bnd_eq_ok {α β : Type} {m : M α} {k : α → M β} {b : β} (h : bnd m k = ok b) : ∃ a, m = ok a ∧ k a = ok b := by
  unfold bnd at h
  split at h
  · cases h
  · cases h
  · exact ⟨_, rfl, h⟩

/-- an exception of the class at c, behind a call that began at s: its own cells stand apart from Bs, which holds all that stood at s (as it is now, but the frames) and all that is tracked -/
noncomputable def Fly (P : Program) (w : World) (outer : List Env) (s : Shared) (ea c : Addr) (H' : Hp) (s' : Shared) : Prop :=
  ∃ Bs a0, Heap.FlyingW Bs outer ea (.ref c) a0 s'.heap ∧ (∀ b o o', s.heap.get? b = some o' → b ∉ frs outer → s'.heap.get? b = some o → Bs.get? b = some o) ∧ HOk P w H' Bs
/-- the exception e, of the class at c, lies in the state: made here, or come from a call -/
noncomputable def Exc (X : Cx) (pins : List (Addr × Obj)) (σ : St) (H : Hp) (c : Addr) (e : Value) (s : Shared) : Prop := ∃ ea, e = .ref ea ∧
  ((∃ h args, Heap.MadeExcOf h s.heap ea (.ref c) args ∧ Inv X pins σ H { s with heap := h }) ∨
   (∃ s1 H1, Inv X pins σ H1 s1 ∧ s.os = s1.os ∧ AllBare s.gens ∧ Un (frs X.stack) [] H1 H s1.heap s.heap ∧ Fly X.prog X.w X.stack s1 ea c H s))
/-- an exception of that class may leave -/
noncomputable def Thr (X : Cx) (σ : St) (H : Hp) (c : Addr) : Prop := ∀ (pins : List (Addr × Obj)) (s : Shared) (H' : Hp) (e : Value), Same H H' → Exc X pins σ H' c e s → X.xe e s
theorem Thr.mono {X : Cx} {σ : St} {H H' : Hp} {c : Addr} (e : Same H H') (t : Thr X σ H c) : Thr X σ H' c := fun pins s H2 ev q x => t pins s H2 ev (e.trans q) x

noncomputable def Res {α : Type} (X : Cx) (σ : St) (H : Hp) (Q : α → Prop) (m : M α) : Prop := match m with
  | none => False
  | some (.error c) => Thr X σ H c
  | some (.ok a) => Q a
theorem Res.bind {α β : Type} {X : Cx} {σ : St} {H : Hp} {Q : β → Prop} {m : M α} {k : α → M β} (h : Res X σ H Q (bnd m k)) : Res X σ H (fun a => Res X σ H Q (k a)) m := by
  unfold bnd at h
  split at h
  · exact h
  · exact h
  · exact h
theorem Res.mono {α : Type} {X : Cx} {σ : St} {H H' : Hp} {Q Q' : α → Prop} {m : M α} (e : Same H H') (h : Res X σ H Q m) (i : ∀ a, Q a → Q' a) : Res X σ H' Q' m := by
  unfold Res at *
  split at h
  · exact h
  · exact Thr.mono e h
  · exact i _ h
theorem Res.imp {α : Type} {X : Cx} {σ : St} {H : Hp} {Q Q' : α → Prop} {m : M α} (h : Res X σ H Q m) (i : ∀ a, Q a → Q' a) : Res X σ H Q' m := h.mono (Same.refl H) i

/-- an expression's reading by data; a test's; an argument list's -/
noncomputable def tD (X : Cx) (B : Hp) (f : Rho → M D) : TE := fun σ H Q => ∃ ρ, Rel X.K B ρ σ H ∧ Res X σ H (fun d => ∀ v H', Same H H' → Is X.K H' d v → Q v H') (f ρ)
noncomputable def tDT (X : Cx) (B : Hp) (f : Rho → M Bool) : TT := fun σ H Q => ∃ ρ, Rel X.K B ρ σ H ∧ Res X σ H (fun b => ∀ H', Same H H' → Q b H') (f ρ)
noncomputable def tDA (X : Cx) (B : Hp) (f : Rho → M (List D)) : TA := fun σ H Q => ∃ ρ, Rel X.K B ρ σ H ∧ Res X σ H (fun ds => ∀ vs H', Same H H' → IsL X.K H' ds vs → Q vs H') (f ρ)
noncomputable abbrev PD (X : Cx) (B : Hp) (e : Expr) (f : Rho → M D) : Prop := PE X e (tD X B f)
noncomputable abbrev PDT (X : Cx) (B : Hp) (e : Expr) (f : Rho → M Bool) : Prop := PT X e (tDT X B f)
noncomputable abbrev PDW (X : Cx) (B : Hp) (e : Expr) (f : Rho → M Bool) : Prop := PW X e (tDT X B f)
noncomputable abbrev PDA (X : Cx) (B : Hp) (es : List Expr) (f : Rho → M (List D)) : Prop := PA X es (tDA X B f)

section
variable {X : Cx} {B : Hp} {e a b c : Expr} {es : List Expr} {pos : Pos}
theorem PE.of {t t' : TE} (h : PE X e t) (i : ∀ σ H Q, t' σ H Q → t σ H Q) : PE X e t' := fun pins s σ H Q I q => h pins s σ H Q I (i σ H Q q)
theorem PT.of {t t' : TT} (h : PT X e t) (i : ∀ σ H Q, t' σ H Q → t σ H Q) : PT X e t' := fun pins s σ H Q I q => h pins s σ H Q I (i σ H Q q)
theorem PW.of {t t' : TT} (h : PW X e t) (i : ∀ σ H Q, t' σ H Q → t σ H Q) : PW X e t' := fun wh pins s σ H Q I q => h wh pins s σ H Q I (i σ H Q q)
theorem PA.of {t t' : TA} (h : PA X es t) (i : ∀ σ H Q, t' σ H Q → t σ H Q) : PA X es t' := fun pos pins s σ H Q I q => h pos pins s σ H Q I (i σ H Q q)

/-! ### names, constants -/
noncomputable def look (i : Nat) : Rho → M D := fun ρ => match ρ[i]? with
  | some (some sv) => ok sv.cur
  | _ => none
theorem pd_var (i : Nat) {x : Str} {pos : Pos} (hN : X.N[i]? = some x := by rfl) (hv : Vis X.env.scope x := by first | exact Or.inl rfl | exact Or.inr (Or.inl rfl) | exact Or.inr (Or.inr rfl)) (hd : (x == ("__debug__" : Str)) = false := by decide)
    (hcd : (x == ("__classdict__" : Str)) = false := by decide) : PD X B (.Name x pos) (look i) := by
  refine PE.of (pe_var hN hv hd hcd) fun σ H Q h => ?_
  obtain ⟨ρ, r, h⟩ := h
  unfold look at h
  split at h
  · rename_i sv q
    obtain ⟨v, e1, e2⟩ := r.get q
    exact ⟨v, e1, h v H (Same.refl H) e2⟩
  · exact False.elim h
noncomputable def con (d : D) : Rho → M D := fun _ => ok d
theorem pd_int {i j pos} : PD X B (.Constant (.int i) j pos) (con (.int i)) := PE.of pe_int fun σ H Q ⟨ρ, r, h⟩ => h _ H (Same.refl H) (.int i)
theorem pd_bl {i j pos} : PD X B (.Constant (.bool i) j pos) (con (.bl i)) := PE.of pe_bl fun σ H Q ⟨ρ, r, h⟩ => h _ H (Same.refl H) (.bl i)
theorem pd_non {j pos} : PD X B (.Constant .none j pos) (con .non) := PE.of pe_non fun σ H Q ⟨ρ, r, h⟩ => h _ H (Same.refl H) .non
theorem pd_str {x j pos} : PD X B (.Constant (.str x) j pos) (con (.str x)) := PE.of pe_str fun σ H Q ⟨ρ, r, h⟩ => h _ H (Same.refl H) (.str x)

/-! ### two-place operations -/
noncomputable def b2 (g : D → D → M D) (fa fb : Rho → M D) : Rho → M D := fun ρ => bnd (fa ρ) fun x => bnd (fb ρ) fun y => g x y
noncomputable def R2ok (X : Cx) (r : R2) (g : D → D → M D) : Prop := ∀ (H : Hp) (x y : V) (dx dy d : D) (Q : VK), Is X.K H dx x → Is X.K H dy y → g dx dy = ok d → (∀ v H', Same H H' → Is X.K H' d v → Q v H') → r x y H Q
noncomputable def NoErr {α β : Type} (g : α → β → M D) : Prop := ∀ x y c, g x y ≠ err c
variable {fa fb fc : Rho → M D}
theorem b2_red {r : R2} {g : D → D → M D} (hg : R2ok X r g) (hn : NoErr g) {σ : St} {H : Hp} {Q : VK} (h : tD X B (b2 g fa fb) σ H Q) : tOp r (tD X B fa) (tD X B fb) σ H Q := by
  obtain ⟨ρ, r1, h⟩ := h
  refine ⟨ρ, r1, (Res.bind h).imp fun dx h1 v H1 e1 i1 => ⟨ρ, r1.mono e1, (Res.bind h1).mono e1 fun dy h2 u H2 e2 i2 => ?_⟩⟩
  cases q : g dx dy with
  | none => rw [q] at h2; exact False.elim h2
  | some z =>
    cases z with
    | error c => exact absurd q (hn dx dy c)
    | ok d =>
      rw [q] at h2
      exact hg H2 v u dx dy d Q (i1.mono e2) i2 q fun w H3 e3 i3 => h2 w H3 ((e1.trans e2).trans e3) i3
theorem pd_op {op : Operator} {r : R2} {g : D → D → M D} (ho : OpR X (binaryOp op) r) (hg : R2ok X r g) (hn : NoErr g) (ha : PD X B a fa) (hb : PD X B b fb) : PD X B (.BinOp a op b pos) (b2 g fa fb) :=
  PE.of (pe_op ho ha hb) fun _ _ _ h => b2_red hg hn h
theorem pd_cmp {op : CmpOp} {r : R2} {g : D → D → M D} (ho : OpR X (compareOp op) r) (hg : R2ok X r g) (hn : NoErr g) (ha : PD X B a fa) (hb : PD X B b fb) (hm : behindInMarks op b = false) : PD X B (.Compare a [op] [b] pos) (b2 g fa fb) :=
  PE.of (pe_cmpR ho ha hb hm) fun _ _ _ h => b2_red hg hn h
/-- a bool's own truth -/
noncomputable def tru : D → M Bool
  | .non => ok false
  | .bl b => ok b
  | .int i => ok (i != 0)
  | .tup ds => ok (!ds.isEmpty)
  | .lst ds => ok (!ds.isEmpty)
  | _ => none
noncomputable def blOf : D → M Bool
  | .bl b => ok b
  | _ => none
noncomputable def test (f : Rho → M D) : Rho → M Bool := fun ρ => bnd (f ρ) tru
noncomputable def testB (f : Rho → M D) : Rho → M Bool := fun ρ => bnd (f ρ) blOf
theorem pdt_cmp {op : CmpOp} {r : R2} {g : D → D → M D} (ho : OpR X (compareOp op) r) (hg : R2ok X r g) (hn : NoErr g) (ha : PD X B a fa) (hb : PD X B b fb) (hm : behindInMarks op b = false) : PDT X B (.Compare a [op] [b] pos) (testB (b2 g fa fb)) := by
  refine PT.of (pt_cmpR ho ha hb hm) fun σ H Q h => ?_
  obtain ⟨ρ, r1, h⟩ := h
  refine b2_red hg hn ⟨ρ, r1, (Res.bind h).imp fun d h1 v H1 e1 i1 => ?_⟩
  unfold blOf at h1
  split at h1
  · rename_i k
    cases i1
    exact ⟨k, rfl, h1 H1 e1⟩
  · exact False.elim h1
theorem isEmpty_isL {K : PySem.W.Frag} {H : Hp} {ds : List D} {vs : List V} (r : IsL K H ds vs) : vs.isEmpty = ds.isEmpty := by cases r <;> rfl
theorem tru_V {K : PySem.W.Frag} {H : Hp} {d : D} {v : V} {k : Bool} (i : Is K H d v) (h : tru d = ok k) : TruV K v H k := by
  cases i with
  | non => exact (ok_inj h).symm
  | bl b => exact (ok_inj h).symm
  | int i => exact (ok_inj h).symm
  | str x => exact absurd h (by simp [tru, ok])
  | tup h1 r => exact .inr (.inl ⟨_, h1, by rw [isEmpty_isL r]; exact (ok_inj h).symm⟩)
  | lst h1 r => exact .inl ⟨_, h1, by rw [isEmpty_isL r]; exact (ok_inj h).symm⟩
  | obj h1 r => exact absurd h (by simp [tru, ok])
  | dk h1 r => exact absurd h (by simp [tru, ok])
  | dt h1 r => exact absurd h (by simp [tru, ok])
  | exc h1 => exact absurd h (by simp [tru, ok])
  | set h1 => exact absurd h (by simp [tru, ok])
theorem tru_noerr (d : D) (c : Addr) : tru d ≠ err c := by cases d <;> simp [tru, ok, err]
/-- a value as a test (a name, a call, an index, a field) -/
theorem pdt_val (ha : PD X B a fa) (he : ∀ whole, isTrue a X.env whole = (do let v ← whole; standAt a.pos; holding [v] (truthy v)) := by intro _; rfl) : PDT X B a (test fa) := by
  refine PT.of (pt_truth ha he) fun σ H Q h => ?_
  obtain ⟨ρ, r1, h⟩ := h
  refine ⟨ρ, r1, (Res.bind h).imp fun d h1 v H1 e1 i1 => ?_⟩
  cases q : tru d with
  | none => rw [q] at h1; exact False.elim h1
  | some z =>
    cases z with
    | error c => exact absurd q (tru_noerr d c)
    | ok k => rw [q] at h1; exact ⟨k, tru_V i1 q, h1 H1 e1⟩
/-! ### and, or, not -/
variable {ta tb tc : Rho → M Bool} {rest : List Expr}
noncomputable def andB (f g : Rho → M Bool) : Rho → M Bool := fun ρ => bnd (f ρ) fun x => if x = true then g ρ else ok false
noncomputable def orB (f g : Rho → M Bool) : Rho → M Bool := fun ρ => bnd (f ρ) fun x => if x = true then ok true else g ρ
noncomputable def notB (f : Rho → M Bool) : Rho → M Bool := fun ρ => bnd (f ρ) fun x => ok (!x)
theorem pdw_and1 (ha : PDT X B a ta) : PDW X B (.BoolOp .And [a] pos) ta := pw_and1 ha
theorem pdw_or1 (ha : PDT X B a ta) : PDW X B (.BoolOp .Or [a] pos) ta := pw_or1 ha
theorem pdw_and (ha : PDT X B a ta) (hb : PDW X B (.BoolOp .And (b :: rest) pos) tb) : PDW X B (.BoolOp .And (a :: b :: rest) pos) (andB ta tb) := by
  refine PW.of (pw_and ha hb) fun σ H Q h => ?_
  obtain ⟨ρ, r1, h⟩ := h
  refine ⟨ρ, r1, (Res.bind h).imp fun x h1 H1 e1 => ?_⟩
  cases x with
  | true => exact ⟨ρ, r1.mono e1, Res.mono e1 h1 fun y q H2 e2 => q H2 (e1.trans e2)⟩
  | false => exact h1 H1 e1
theorem pdw_or (ha : PDT X B a ta) (hb : PDW X B (.BoolOp .Or (b :: rest) pos) tb) : PDW X B (.BoolOp .Or (a :: b :: rest) pos) (orB ta tb) := by
  refine PW.of (pw_or ha hb) fun σ H Q h => ?_
  obtain ⟨ρ, r1, h⟩ := h
  refine ⟨ρ, r1, (Res.bind h).imp fun x h1 H1 e1 => ?_⟩
  cases x with
  | false => exact ⟨ρ, r1.mono e1, Res.mono e1 h1 fun y q H2 e2 => q H2 (e1.trans e2)⟩
  | true => exact h1 H1 e1
theorem PDW.pdt {f : Rho → M Bool} (h : PDW X B e f) : PDT X B e f := h.pt
theorem pdt_not (ha : PDT X B a ta) : PDT X B (.UnaryOp .Not a pos) (notB ta) := by
  refine PT.of (pt_not ha) fun σ H Q h => ?_
  obtain ⟨ρ, r1, h⟩ := h
  exact ⟨ρ, r1, (Res.bind h).imp fun x h1 H1 e1 => h1 H1 e1⟩
/-- .. as values; each but the last is a bool -/
noncomputable def andV (f g : Rho → M D) : Rho → M D := fun ρ => bnd (f ρ) fun x => bnd (blOf x) fun k => if k = true then g ρ else ok (.bl false)
noncomputable def orV (f g : Rho → M D) : Rho → M D := fun ρ => bnd (f ρ) fun x => bnd (blOf x) fun k => if k = true then ok (.bl true) else g ρ
noncomputable def notV (f : Rho → M D) : Rho → M D := fun ρ => bnd (f ρ) fun x => bnd (blOf x) fun k => ok (.bl (!k))
theorem blOf_res {σ : St} {H : Hp} {Q : Bool → Prop} {d : D} (h : Res X σ H Q (blOf d)) : ∃ k, d = .bl k ∧ Q k := by
  unfold blOf at h
  split at h
  · exact ⟨_, rfl, h⟩
  · exact False.elim h
theorem pd_one {op} (h : PD X B a fa) : PD X B (.BoolOp op [a] pos) fa := pe_one h
theorem pd_and (ha : PD X B a fa) (hb : PD X B (.BoolOp .And (b :: rest) pos) fb) : PD X B (.BoolOp .And (a :: b :: rest) pos) (andV fa fb) := by
  refine PE.of (pe_and ha hb) fun σ H Q h => ?_
  obtain ⟨ρ, r1, h⟩ := h
  refine ⟨ρ, r1, (Res.bind h).imp fun d h1 v H1 e1 i1 => ?_⟩
  obtain ⟨k, rfl, h2⟩ := blOf_res (Res.bind h1)
  cases i1
  refine ⟨k, rfl, ?_⟩
  cases k with
  | true => exact ⟨ρ, r1.mono e1, Res.mono e1 h2 fun y q u H2 e2 i2 => q u H2 (e1.trans e2) i2⟩
  | false => exact h2 _ H1 e1 (.bl false)
theorem pd_or (ha : PD X B a fa) (hb : PD X B (.BoolOp .Or (b :: rest) pos) fb) : PD X B (.BoolOp .Or (a :: b :: rest) pos) (orV fa fb) := by
  refine PE.of (pe_or ha hb) fun σ H Q h => ?_
  obtain ⟨ρ, r1, h⟩ := h
  refine ⟨ρ, r1, (Res.bind h).imp fun d h1 v H1 e1 i1 => ?_⟩
  obtain ⟨k, rfl, h2⟩ := blOf_res (Res.bind h1)
  cases i1
  refine ⟨k, rfl, ?_⟩
  cases k with
  | false => exact ⟨ρ, r1.mono e1, Res.mono e1 h2 fun y q u H2 e2 i2 => q u H2 (e1.trans e2) i2⟩
  | true => exact h2 _ H1 e1 (.bl true)
theorem pd_not (ha : PD X B a fa) : PD X B (.UnaryOp .Not a pos) (notV fa) := by
  refine PE.of (pe_not ha) fun σ H Q h => ?_
  obtain ⟨ρ, r1, h⟩ := h
  refine ⟨ρ, r1, (Res.bind h).imp fun d h1 v H1 e1 i1 => ?_⟩
  obtain ⟨k, rfl, h2⟩ := blOf_res (Res.bind h1)
  cases i1
  exact ⟨k, rfl, h2 _ H1 e1 (.bl _)⟩
/-! ### argument lists, tuples, lists -/
noncomputable def nostar : Expr → Bool
  | .Starred .. => false
  | _ => true
theorem star_ok {e : Expr} {es : List Expr} {env : Env} (h : nostar e = true) : starEach (e :: es) env = (false, eval e env) :: starEach es env := by
  cases e <;> first | rfl | cases h
theorem star1 {e : Expr} {env : Env} (h : nostar e = true) : starEach [e] env = [(false, eval e env)] := star_ok h
theorem star2 {e f : Expr} {env : Env} (h : nostar e = true) (h' : nostar f = true) : starEach [e, f] env = [(false, eval e env), (false, eval f env)] := by rw [star_ok h, star1 h']
noncomputable def aNil : Rho → M (List D) := fun _ => ok []
noncomputable def aCons (f : Rho → M D) (g : Rho → M (List D)) : Rho → M (List D) := fun ρ => bnd (f ρ) fun x => bnd (g ρ) fun xs => ok (x :: xs)
variable {ga : Rho → M (List D)}
theorem pda_nil : PDA X B [] aNil := PA.of pa_nil fun σ H Q ⟨ρ, r, h⟩ => h [] H (Same.refl H) .nil
theorem pda_cons (ha : PD X B e fa) (hr : PDA X B es ga) (hs : starEach (e :: es) X.env = (false, eval e X.env) :: starEach es X.env := by exact star_ok rfl) : PDA X B (e :: es) (aCons fa ga) := by
  refine PA.of (pa_cons ha hr hs) fun σ H Q h => ?_
  obtain ⟨ρ, r1, h⟩ := h
  refine ⟨ρ, r1, (Res.bind h).imp fun d h1 v H1 e1 i1 => ⟨ρ, r1.mono e1, (Res.bind h1).mono e1 fun ds h2 vs H2 e2 i2 => ?_⟩⟩
  exact h2 (v :: vs) H2 (e1.trans e2) (.cons (i1.mono e2) i2)
theorem same_new {H : Hp} {p : Addr} (h : H p = none) (o : HO) : Same H (upd H p o) := fun b u q => by rw [upd_ne (ne_of_none q h)]; exact q
noncomputable def mkT (g : Rho → M (List D)) : Rho → M D := fun ρ => bnd (g ρ) fun ds => if ds.length ≤ 1000 then ok (.tup ds) else none
theorem le_line {n : Nat} (h : n ≤ 1000) : n ≤ sizeLine := Nat.le_of_lt (small1000 h)
theorem pd_tup {x1} (h : PDA X B es ga) : PD X B (.Tuple es x1 pos) (mkT ga) := by
  refine PE.of (pe_tup h) fun σ H Q h => ?_
  obtain ⟨ρ, r1, h⟩ := h
  refine ⟨ρ, r1, (Res.bind h).imp fun ds h1 vs H1 e1 i1 => ?_⟩
  by_cases hl : ds.length ≤ 1000
  · rw [if_pos hl] at h1
    exact ⟨by rw [← i1.length]; exact le_line hl, fun p hp => h1 _ _ (e1.trans (same_new hp _)) (.tup (SqT.of upd_same) (i1.mono (same_new hp _)))⟩
  · rw [if_neg hl] at h1; exact False.elim h1
end
end L2.PU

namespace L2.PU
open PySem PySem.Spec PyProof.Rows

noncomputable def mulB (i j : Int) : Bool := decide (Builtin.Int.intBits i ≤ 1048576) && decide (Builtin.Int.intBits j ≤ 1048576)
noncomputable def gMul : D → D → M D
  | .int i, .int j => if mulB i j = true then ok (.int (i * j)) else none
  | _, _ => none
noncomputable def gFdiv : D → D → M D
  | .int i, .int j => if 0 < j ∧ j < 1073741824 then ok (.int (i / j)) else none
  | _, _ => none
noncomputable def gMod : D → D → M D
  | .int i, .int j => if 0 < j then ok (.int (i % j)) else none
  | _, _ => none
noncomputable def gPow : D → D → M D
  | .int i, .int j => if 0 ≤ j ∧ j ≤ 1000 ∧ i.natAbs < 1000 then ok (.int (i ^ j.toNat)) else none
  | _, _ => none
section
variable {X : Cx} {B : Hp} {a b : Expr} {fa fb : Rho → M D} {pos : Pos}
theorem mulB_ok {i j : Int} (h : mulB i j = true) : IntMulOk i j := by
  unfold mulB at h
  rw [Bool.and_eq_true] at h
  exact IntMulOk.of_bits (of_decide_eq_true h.1) (of_decide_eq_true h.2)
theorem op_mulB : OpR X (binaryOp .Mult) (rI (fun i j => mulB i j = true) fun i j => .int (i * j)) := opI fun _ _ _ _ _ _ _ hc q => mul_int q (mulB_ok hc)
theorem r_int {C : Int → Int → Prop} {h : Int → Int → Int} {g : D → D → M D} (hg : ∀ dx dy d, g dx dy = ok d → ∃ i j, dx = .int i ∧ dy = .int j ∧ C i j ∧ d = .int (h i j)) : R2ok X (rI C fun i j => .int (h i j)) g := by
  intro H x y dx dy d Q ix iy e q
  obtain ⟨i, j, rfl, rfl, c, rfl⟩ := hg _ _ _ e
  cases ix; cases iy
  exact ⟨i, j, rfl, rfl, c, q _ H (Same.refl H) (.int _)⟩
theorem pd_fdiv (ha : PD X B a fa) (hb : PD X B b fb) : PD X B (.BinOp a .FloorDiv b pos) (b2 gFdiv fa fb) :=
  pd_op op_fdiv (r_int fun dx dy d e => by
    unfold gFdiv at e
    split at e <;> first | (cases e; done) | skip
    split at e
    · rename_i h; exact ⟨_, _, rfl, rfl, h, (ok_inj e).symm⟩
    · exact nomatch e) (by intro x y c h; unfold gFdiv at h; (repeat' split at h) <;> cases h) ha hb
theorem pd_mod (ha : PD X B a fa) (hb : PD X B b fb) : PD X B (.BinOp a .Mod b pos) (b2 gMod fa fb) :=
  pd_op op_mod (r_int fun dx dy d e => by
    unfold gMod at e
    split at e <;> first | (cases e; done) | skip
    split at e
    · rename_i h; exact ⟨_, _, rfl, rfl, h, (ok_inj e).symm⟩
    · exact nomatch e) (by intro x y c h; unfold gMod at h; (repeat' split at h) <;> cases h) ha hb
theorem pd_pow (ha : PD X B a fa) (hb : PD X B b fb) : PD X B (.BinOp a .Pow b pos) (b2 gPow fa fb) :=
  pd_op op_pow (r_int fun dx dy d e => by
    unfold gPow at e
    split at e <;> first | (cases e; done) | skip
    split at e
    · rename_i h; exact ⟨_, _, rfl, rfl, ⟨h.1, by omega, by have := h.2.2; omega⟩, (ok_inj e).symm⟩
    · exact nomatch e) (by intro x y c h; unfold gPow at h; (repeat' split at h) <;> cases h) ha hb

/-! ### comparisons -/
noncomputable def gLt : D → D → M D
  | .int i, .int j => ok (.bl (decide (i < j)))
  | _, _ => none
noncomputable def gGe : D → D → M D
  | .int i, .int j => ok (.bl (decide (j ≤ i)))
  | _, _ => none
/-- == of flat data -/
noncomputable def eqF : D → D → Option Bool
  | .non, .non => some true
  | .non, .int _ => some false
  | .int _, .non => some false
  | .non, .bl _ => some false
  | .bl _, .non => some false
  | .non, .str _ => some false
  | .str _, .non => some false
  | .int i, .int j => some (decide (i = j))
  | .bl i, .bl j => some (decide (i = j))
  | .str i, .str j => some (decide (i = j))
  | .int _, .str _ => some false
  | .str _, .int _ => some false
  | .bl _, .str _ => some false
  | .str _, .bl _ => some false
  | _, _ => none
noncomputable def gEq (x y : D) : M D := match eqF x y with
  | some b => ok (.bl b)
  | none => none
noncomputable def gNe (x y : D) : M D := match eqF x y with
  | some b => ok (.bl (!b))
  | none => none
noncomputable def isNon : D → Bool
  | .non => true
  | _ => false
noncomputable def gIs : D → D → M D
  | x, .non => ok (.bl (isNon x))
  | _, _ => none
theorem r_intB {h : Int → Int → Bool} {g : D → D → M D} (hg : ∀ dx dy d, g dx dy = ok d → ∃ i j, dx = .int i ∧ dy = .int j ∧ d = .bl (h i j)) : R2ok X (rI0 fun i j => .bl (h i j)) g := by
  intro H x y dx dy d Q ix iy e q
  obtain ⟨i, j, rfl, rfl, rfl⟩ := hg _ _ _ e
  cases ix; cases iy
  exact ⟨i, j, rfl, rfl, q _ H (Same.refl H) (.bl _)⟩
theorem r_lt : R2ok X (rI0 fun i j => .bl (decide (i < j))) gLt := r_intB fun dx dy d e => by
    unfold gLt at e
    split at e <;> first | (cases e; done) | exact ⟨_, _, rfl, rfl, (ok_inj e).symm⟩
theorem r_ge : R2ok X (rI0 fun i j => .bl (decide (j ≤ i))) gGe := r_intB fun dx dy d e => by
    unfold gGe at e
    split at e <;> first | (cases e; done) | exact ⟨_, _, rfl, rfl, (ok_inj e).symm⟩
theorem n_lt : NoErr gLt := by intro x y c h; unfold gLt at h; split at h <;> cases h
theorem n_ge : NoErr gGe := by intro x y c h; unfold gGe at h; split at h <;> cases h
theorem n_is : NoErr gIs := by intro x y c; cases y <;> (intro h; exact nomatch h)
theorem n_eq : NoErr gEq := by intro x y c h; unfold gEq at h; split at h <;> exact nomatch h
theorem n_ne : NoErr gNe := by intro x y c h; unfold gNe at h; split at h <;> exact nomatch h
theorem eqF_V {K : PySem.W.Frag} {H : Hp} {dx dy : D} {x y : V} {b : Bool} (ix : Is K H dx x) (iy : Is K H dy y) (e : eqF dx dy = some b) : scal x y = true ∧ decide (x = y) = b := by
  cases ix with
  | non => cases iy <;> first | (cases e; done) | (have e' := Option.some.inj e; subst e'; exact ⟨rfl, by simp⟩)
  | bl => cases iy <;> first | (cases e; done) | (have e' := Option.some.inj e; subst e'; exact ⟨rfl, by simp⟩)
  | int => cases iy <;> first | (cases e; done) | (have e' := Option.some.inj e; subst e'; exact ⟨rfl, by simp⟩)
  | str => cases iy <;> first | (cases e; done) | (have e' := Option.some.inj e; subst e'; exact ⟨rfl, by simp⟩)
  | _ => exact nomatch e
theorem r_eq : R2ok X rEq gEq := by
  intro H x y dx dy d Q ix iy e q
  unfold gEq at e
  split at e
  · rename_i b hb
    obtain ⟨h1, h2⟩ := eqF_V ix iy hb
    have e' := ok_inj e; subst e'
    exact ⟨h1, by rw [h2]; exact q _ H (Same.refl H) (.bl _)⟩
  · exact nomatch e
theorem r_ne : R2ok X rNe gNe := by
  intro H x y dx dy d Q ix iy e q
  unfold gNe at e
  split at e
  · rename_i b hb
    obtain ⟨h1, h2⟩ := eqF_V ix iy hb
    have e' := ok_inj e; subst e'
    exact ⟨h1, by rw [h2]; exact q _ H (Same.refl H) (.bl _)⟩
  · exact nomatch e
theorem isNon_V {K : PySem.W.Frag} {H : Hp} {dx : D} {x : V} (ix : Is K H dx x) : decide (x = V.non) = isNon dx := by
  cases ix <;> simp [isNon]
theorem r_is : R2ok X (fun x y H Q => y = .non ∧ Q (.bl (decide (x = .non))) H) gIs := by
  intro H x y dx dy d Q ix iy e q
  cases iy <;> first | (cases e; done) | skip
  have e' := ok_inj e; subst e'
  exact ⟨rfl, by rw [isNon_V ix]; exact q _ H (Same.refl H) (.bl _)⟩
theorem pd_ge (ha : PD X B a fa) (hb : PD X B b fb) : PD X B (.Compare a [.GtE] [b] pos) (b2 gGe fa fb) := pd_cmp op_ge r_ge n_ge ha hb (nomark _)
theorem pd_eq (ha : PD X B a fa) (hb : PD X B b fb) : PD X B (.Compare a [.Eq] [b] pos) (b2 gEq fa fb) := pd_cmp op_eq r_eq n_eq ha hb (nomark _)
theorem pd_is (ha : PD X B a fa) (hb : PD X B b fb) : PD X B (.Compare a [.Is] [b] pos) (b2 gIs fa fb) := pd_cmp op_isN r_is n_is ha hb (nomark _)
theorem pdt_lt (ha : PD X B a fa) (hb : PD X B b fb) : PDT X B (.Compare a [.Lt] [b] pos) (testB (b2 gLt fa fb)) := pdt_cmp op_lt r_lt n_lt ha hb (nomark _)
theorem pdt_eq (ha : PD X B a fa) (hb : PD X B b fb) : PDT X B (.Compare a [.Eq] [b] pos) (testB (b2 gEq fa fb)) := pdt_cmp op_eq r_eq n_eq ha hb (nomark _)
theorem pdt_ne (ha : PD X B a fa) (hb : PD X B b fb) : PDT X B (.Compare a [.NotEq] [b] pos) (testB (b2 gNe fa fb)) := pdt_cmp op_ne r_ne n_ne ha hb (nomark _)
theorem pdt_is (ha : PD X B a fa) (hb : PD X B b fb) : PDT X B (.Compare a [.Is] [b] pos) (testB (b2 gIs fa fb)) := pdt_cmp op_isN r_is n_is ha hb (nomark _)
/-! ### an item, a slice -/
noncomputable def gIx : D → D → M D
  | .lst ds, .int i => match atI ds i with | some d => ok d | none => none
  | .tup ds, .int i => match atI ds i with | some d => ok d | none => none
  | .str z, .int i => if z.length ≤ 1000 then (match atI z.cps.toList i with | some c => ok (.str ⟨#[c]⟩) | none => none) else none
  | _, _ => none
theorem n_ix : NoErr gIx := by intro x y c h; unfold gIx at h; (repeat' split at h) <;> cases h
theorem atI_isL {K : PySem.W.Frag} {H : Hp} {ds : List D} {vs : List V} {i : Int} {d : D} (r : IsL K H ds vs) (e : atI ds i = some d) : ∃ v, atI vs i = some v ∧ Is K H d v := by
  unfold atI at e ⊢
  rw [r.length] at e
  cases q : ixN vs.length i with
  | none => rw [q] at e; exact nomatch e
  | some j => rw [q] at e; exact r.get e
theorem r_ix : R2ok X (rIx X.K) gIx := by
  intro H x y dx dy d Q ix iy e q
  unfold gIx at e
  split at e
  · split at e
    · rename_i d' hd
      cases ix with
      | lst h r =>
        cases iy
        have e' := ok_inj e; subst e'
        obtain ⟨v, h1, h2⟩ := atI_isL r hd
        exact .inl ⟨_, _, _, v, rfl, rfl, h, h1, q _ H (Same.refl H) h2⟩
    · cases e
  · split at e
    · rename_i d' hd
      cases ix with
      | tup h r =>
        cases iy
        have e' := ok_inj e; subst e'
        obtain ⟨v, h1, h2⟩ := atI_isL r hd
        exact .inr (.inl ⟨_, _, _, v, rfl, rfl, h, h1, q _ H (Same.refl H) h2⟩)
    · cases e
  · split at e
    · rename_i hz
      split at e
      · rename_i c hc
        cases ix; cases iy
        have e' := ok_inj e; subst e'
        exact .inr (.inr ⟨_, _, c, rfl, rfl, Nat.le_trans hz (by decide), hc, q _ H (Same.refl H) (.str _)⟩)
      · cases e
    · cases e
  · cases e
theorem pd_ix (ha : PD X B a fa) (hb : PD X B b fb) (hs : PlainIx b) : PD X B (.Subscript a b pos) (b2 gIx fa fb) := PE.of (pe_ix ix_seq ha hb hs) fun _ _ _ h => b2_red r_ix n_ix h

/-! ### slices of lists (a part: left out, or an int) -/
noncomputable def oPart (f : Rho → M D) : Rho → M (Option Int) := fun ρ => bnd (f ρ) fun d => match d with | .int i => ok (some i) | _ => none
noncomputable def oNone : Rho → M (Option Int) := fun _ => ok none
noncomputable def tDO (X : Cx) (B : Hp) (f : Rho → M (Option Int)) : TO := fun σ H Q => ∃ ρ, Rel X.K B ρ σ H ∧ Res X σ H (fun o => ∀ H', Same H H' → Q o H') (f ρ)
theorem pdo_none : PO X none (tDO X B oNone) := fun pins s σ H Q I ⟨ρ, r, h⟩ => po_none pins s σ H Q I (h H (Same.refl H))
theorem pdo_some {e : Expr} (he : PD X B e fa) : PO X (some e) (tDO X B (oPart fa)) := fun pins s σ H Q I ⟨ρ, r, h⟩ => by
  refine po_some he pins s σ H Q I ⟨ρ, r, (Res.bind h).imp fun d h1 v H1 e1 i1 => ?_⟩
  cases i1 <;> first | exact False.elim h1 | exact ⟨_, rfl, h1 H1 e1⟩
noncomputable def cutD (xs : List D) (lo hi : Option Int) : List D := (xs.drop (HT.sIx xs.length 0 lo)).take (HT.sIx xs.length xs.length hi - HT.sIx xs.length 0 lo)
/-- a part of a text -/
noncomputable def strCut (z : Str) (lo hi : Option Int) : Str := ⟨((z.cps.toList.drop (HT.sIx z.length 0 lo)).take (HT.sIx z.length z.length hi - HT.sIx z.length 0 lo)).toArray⟩
theorem cut_whole {α : Type} (xs : List α) {i j : Nat} (h : i = 0) (h' : j = xs.length) : (xs.drop i).take (j - i) = xs := by
  subst h h'
  rw [List.drop_zero, Nat.sub_zero, List.take_length]
section
variable {prog : Program} {w : World} {A : Around} {E : Value → Shared → Prop} {s : Shared}
theorem getItem_tuple_whole {t sl : Addr} {items : Array Value} {vl vu : Value} {lo hi : Option Int} {Q : Value → Shared → Prop} (ht : IsTup s.heap t items) (hs : s.heap.IsSliceOf sl vl vu .none) (pl : IsPart vl lo) (pu : IsPart vu hi)
    (hw : HT.sIx items.size 0 lo = 0 ∧ HT.sIx items.size items.size hi = items.size) (h : Q (.ref t) s) : wpAny (model prog w) A (getItem (.ref t) (.ref sl)) Q E s := by
  obtain ⟨os, hos, hcs, hds⟩ := id hs
  have hTs : s.TypeIs (.ref sl) "slice" := ⟨os, hos, hcs⟩
  unfold getItem
  try with_reducible refine wpAny_holding ?_
  first | refine wpAny_bind (wpAny_pure ?_) | skip
  refine wpAny_bind (wpAny_sequenceKey ht.typeIs (by decide) ?_)
  refine wpAny_bind (wpAny_callSpecial?_slot (name := Str.ofString "__getitem__") ht.typeIs PyProof.Rows.slot_tuple_getitem
    (wpAny_call_entry PyProof.Rows.slot_tuple_getitem ht.typeIs entry_tuple_getitem ?_ (args_tuple_getitem _ _)))
  show wpAny _ _ (Builtin.Tuple.tupleItemsOf (.ref t) >>= _) _ _ s
  refine wpAny_bind (tupleItemsOf_ ht ?_)
  refine wpAny_bind (wpAny_typeOf hTs ?_)
  rw [if_pos (by decide)]
  refine wpAny_bind (HT.sliceApplied_gen hs pl pu ?_)
  show wpAny _ _ (if (((HT.sIx items.size 0 lo : Nat) : Int) == 0 && (1 : Int) == 1 && (HT.sIx items.size items.size hi - HT.sIx items.size 0 lo) == items.size) = true then _ else _) _ _ s
  rw [if_pos (by rw [hw.1, hw.2]; simp)]
  refine wpAny_bind (m := Builtin.Tuple.tupleIsExact _) (wpAny_bind (m := typeOf _) (wpAny_typeOf ht.typeIs (wpAny_pure ?_)))
  rw [if_pos (by decide)]
  exact wpAny_bind (wpAny_rule (wpAny_bind (wpAny_pure (wpAny_pure ⟨_, rfl, wpAny_pure h⟩))))
theorem strPicked_cut (z : Str) (l u : Option (Int × Tok)) : slicePicked z l u none = (List.range (HT.sIx z.length z.length (u.map (·.1)) - HT.sIx z.length 0 (l.map (·.1)))).map (HT.sIx z.length 0 (l.map (·.1)) + ·) := by
  have cl : ∀ (i : Int) (d : Nat), max 0 (min (if i < 0 then i + (z.length : Int) else i) (z.length : Int)) = ((HT.sIx z.length d (some i) : Nat) : Int) := by
    intro i d
    show _ = (((if i < 0 then (i + (z.length : Int)).toNat else min i.toNat z.length) : Nat) : Int)
    by_cases hv : i < 0
    · simp only [if_pos hv]; omega
    · simp only [if_neg hv]; omega
  have e : slicePicked z l u none = sliceRange ((HT.sIx z.length 0 (l.map (·.1)) : Nat) : Int) ((HT.sIx z.length z.length (u.map (·.1)) : Nat) : Int) 1 := by
    unfold slicePicked Builtin.Str.strSliceIndices
    simp only [Option.map_none, Option.getD_none, show (1 : Int) > 0 by decide, if_true]
    congr 1
    · cases l with
      | none => rfl
      | some i => exact cl i.1 0
    · cases u with
      | none => rfl
      | some i => exact cl i.1 z.length
  rw [e, sliceRange_one]
end
section
variable {X : Cx}
noncomputable def rSlW (K : PySem.W.Frag) : V → Option Int → Option Int → Hp → VK → Prop := fun x lo hi H Q => ∃ a xs, x = .ref a ∧ SqT K H a xs ∧ (HT.sIx xs.length 0 lo = 0 ∧ HT.sIx xs.length xs.length hi = xs.length) ∧ Q (.ref a) H
theorem sl_tupW : SlR X (rSlW X.K) := by
  intro pins s σ H x v vl vu lo hi sl Q I rx hs pl pu h
  obtain ⟨a, xs, rfl, hx, hw, q⟩ := h
  cases rx
  obtain ⟨its, r, ht, hz⟩ := I.tuple hx
  have hlen : its.toArray.size = xs.length := by rw [List.size_toArray]; exact r.length.symm
  exact ⟨"tuple", _, PyProof.Rows.slot_tuple_getitem.lookup, ht.typeIs, getItem_tuple_whole ht hs pl pu (by rw [hlen]; exact hw) ⟨.ref a, H, I, rfl, q⟩⟩
noncomputable def rSlS : V → Option Int → Option Int → Hp → VK → Prop := fun x lo hi H Q => ∃ z, x = .str z ∧ z.length ≤ sizeLine ∧ Q (.str (strCut z lo hi)) H
theorem part_of {v : Value} {o : Option Int} (p : IsPart v o) : ∃ l : Option (Int × Tok), v = partValue l ∧ l.map (·.1) = o := by
  cases p with
  | none => exact ⟨none, rfl, rfl⟩
  | int i t => exact ⟨some (i, t), rfl, rfl⟩
theorem sl_str : SlR X rSlS := by
  intro pins s σ H x v vl vu lo hi sl Q I rx hs pl pu h
  obtain ⟨z, rfl, hz, q⟩ := h
  obtain ⟨t, rfl⟩ := rx
  obtain ⟨l, rfl, rfl⟩ := part_of pl
  obtain ⟨u, rfl, rfl⟩ := part_of pu
  refine ⟨"str", _, slot_str_getitem.lookup, typeIs_str s z t, ?_⟩
  refine wpAny_getItem_str_slice (l := l) (u := u) (st := none) hs rfl ?_
  have hp := strPicked_cut z l u
  have hj : HT.sIx z.length z.length (u.map (·.1)) ≤ z.length := HT.sIx_le _ _ (Nat.le_refl _) _
  have hi0 : HT.sIx z.length 0 (l.map (·.1)) ≤ z.length := HT.sIx_le _ 0 (Nat.zero_le _) _
  have hc : z.cps.toList.length = z.length := by simp [Str.length]
  unfold sliceMade
  rw [hp]
  split
  · rename_i hh
    simp only [Option.map_none, Option.getD_none, List.length_map, List.length_range, Bool.and_eq_true, beq_iff_eq] at hh
    have e : strCut z (l.map (·.1)) (u.map (·.1)) = z := by
      unfold strCut
      rw [cut_whole _ (by omega) (by omega)]
    exact ⟨.str z, H, I, ⟨t, rfl⟩, by rw [e] at q; exact q⟩
  · rw [pick_run]
    refine ⟨?_, ⟨.str (strCut z (l.map (·.1)) (u.map (·.1))), H, I.tok _, ⟨_, rfl⟩, q⟩⟩
    show ((z.cps.toList.drop (HT.sIx z.length 0 (l.map (·.1)))).take _).toArray.size ≤ sizeLine
    rw [List.size_toArray, List.length_take, List.length_drop, hc]
    omega
end
noncomputable def gCut : D → Option Int → Option Int → M D
  | .lst ds, lo, hi => ok (.lst (cutD ds lo hi))
  | .tup ds, lo, hi => ok (.tup (cutD ds lo hi))
  | .str z, lo, hi => if z.length ≤ 1000 then ok (.str (strCut z lo hi)) else none
  | _, _, _ => none
noncomputable def cut3 (fa : Rho → M D) (fl fh : Rho → M (Option Int)) : Rho → M D := fun ρ => bnd (fa ρ) fun x => bnd (fl ρ) fun l => bnd (fh ρ) fun h => gCut x l h
theorem isL_cut {K : PySem.W.Frag} {H : Hp} {ds : List D} {vs : List V} (r : IsL K H ds vs) (lo hi : Option Int) : IsL K H (cutD ds lo hi) (cutV vs lo hi) := by
  unfold cutD cutV
  rw [r.length]
  exact (r.drop _).take _
theorem pd_slice {e : Expr} {lo hi : Option Expr} {fl fh : Rho → M (Option Int)} {p2 : Pos} (he : PD X B e fa) (hl : PO X lo (tDO X B fl)) (hu : PO X hi (tDO X B fh)) : PD X B (.Subscript e (.Slice lo hi none p2) pos) (cut3 fa fl fh) := by
  refine PE.of (pe_slice (SlR.or sl_list (SlR.or sl_tup (SlR.or sl_tupW sl_str))) he hl hu) fun σ H Q h => ?_
  obtain ⟨ρ, r1, h⟩ := h
  refine ⟨ρ, r1, (Res.bind h).imp fun d h1 v H1 e1 i1 => ⟨ρ, r1.mono e1, (Res.bind h1).mono e1 fun l h2 H2 e2 => ⟨ρ, (r1.mono e1).mono e2, (Res.bind h2).mono (e1.trans e2) fun u h3 H3 e3 => ?_⟩⟩⟩
  have i3 := (i1.mono e2).mono e3
  cases i3 with
  | lst hh r => exact .inl ⟨_, _, rfl, hh, fun p hp => h3 _ _ (((e1.trans e2).trans e3).trans (same_new hp _)) (.lst (SqL.of upd_same) ((isL_cut r l u).mono (same_new hp _)))⟩
  | tup hh r =>
    rename_i a' ds' vs'
    have hlen := r.length
    by_cases hn : HT.sIx vs'.length 0 l = 0 ∧ HT.sIx vs'.length vs'.length u = vs'.length
    · have e : cutD ds' l u = ds' := by
        unfold cutD
        rw [hlen]
        exact cut_whole _ hn.1 (by rw [hn.2, hlen])
      refine .inr (.inr (.inl ⟨_, _, rfl, hh, hn, ?_⟩))
      have h4 := h3 _ _ ((e1.trans e2).trans e3) (show Is X.K H3 (.tup (cutD ds' l u)) (.ref a') by rw [e]; exact .tup hh r)
      exact h4
    · exact .inr (.inl ⟨_, _, rfl, hh, hn, fun p hp => h3 _ _ (((e1.trans e2).trans e3).trans (same_new hp _)) (.tup (SqT.of upd_same) ((isL_cut r l u).mono (same_new hp _)))⟩)
  | str z =>
    dsimp only [gCut] at h3
    split at h3
    · rename_i hz
      exact .inr (.inr (.inr ⟨_, rfl, Nat.le_trans hz (by decide), h3 _ _ ((e1.trans e2).trans e3) (.str _)⟩))
    · exact False.elim h3
  | _ => exact False.elim h3
end
end L2.PU

namespace L2.PU
open PySem PySem.Spec PyProof.Rows

/-! ### the kinds of data, as isinstance sees them -/
noncomputable def tyN : D → Option String
  | .non => some "NoneType"
  | .bl _ => some "bool"
  | .int _ => some "int"
  | .str _ => some "str"
  | .tup _ => some "tuple"
  | .lst _ => some "list"
  | .obj _ _ => none
  | .dk _ => some "dict"
  | .dt _ => some "dict"
  | .exc _ => none
  | .set _ => none
noncomputable def isB (t T : String) : Bool := t == T || (t == "bool" && T == "int")
noncomputable def kTys : List String := ["tuple", "list", "bool", "str", "int", "dict"]
theorem kit_tab (K : PySem.W.Frag) {d : D} {t T : String} (ht : tyN d = some t) (hT : T ∈ kTys) : PySem.W.kitOne K (.type t) (.type T) = some (isB t T) := by
  unfold kTys at hT
  simp only [List.mem_cons, List.not_mem_nil, or_false] at hT
  cases d <;> (have e := ht; unfold tyN at e; first | (cases e; done) | skip) <;> (have e' := Option.some.inj e; subst e') <;> rcases hT with rfl | rfl | rfl | rfl | rfl | rfl <;> kernel_rfl
section
variable {X : Cx} {B : Hp} {pins : List (Addr × Obj)} {σ : St} {H : Hp} {s : Shared}
theorem kit_of {d : D} {x : V} {u : Value} {t : String} (I : Inv X pins σ H s) (i : Is X.K H d x) (r : RelV x u) (ht : tyN d = some t) :
    ∃ HH : Heap → Prop, PySem.W.KitX X.K u (.type t) HH ∧ HH s.heap ∧ u ≠ .builtin "__main__.__loader__#opaque" := by
  cases i with
  | non => cases r; cases ht; exact ⟨_, PySem.W.kitx_none, True.intro, fun z => nomatch z⟩
  | bl b => cases r; cases ht; exact ⟨_, PySem.W.kitx_bool, True.intro, fun z => nomatch z⟩
  | int b => obtain ⟨t, rfl⟩ := r; cases ht; exact ⟨_, PySem.W.kitx_int, True.intro, fun z => nomatch z⟩
  | str b => obtain ⟨t, rfl⟩ := r; cases ht; exact ⟨_, PySem.W.kitx_str, True.intro, fun z => nomatch z⟩
  | lst h rr =>
    cases r; cases ht
    obtain ⟨its, _, ⟨o, n, e, hc, _, _⟩, _⟩ := I.list h
    exact ⟨_, PySem.W.kitx_list, ⟨o, e, hc⟩, fun z => nomatch z⟩
  | tup h rr =>
    cases r; cases ht
    obtain ⟨its, _, ⟨o, e, hc, _, _⟩, _⟩ := I.tuple h
    exact ⟨_, PySem.W.kitx_tuple, ⟨o, e, hc⟩, fun z => nomatch z⟩
  | obj h rr => cases ht
  | dk h rr =>
    cases r; cases ht
    obtain ⟨_, _, vs, _, o, es, ep, e1, e2, _⟩ := (show ObjOk X.prog X.w H s.heap _ (.dK _) from I.hok _ _ h)
    exact ⟨_, PySem.W.kitx_dict, ⟨o, e1, e2.1⟩, fun z => nomatch z⟩
  | dt h rr =>
    cases r; cases ht
    obtain ⟨_, _, vs, _, o, es, ep, e1, e2, _⟩ := (show ObjOk X.prog X.w H s.heap _ (.dT _) from I.hok _ _ h)
    exact ⟨_, PySem.W.kitx_dict, ⟨o, e1, e2.1⟩, fun z => nomatch z⟩
  | exc h => cases ht
  | set h => cases ht
noncomputable def kitL (t : String) : List String → Bool
  | [] => false
  | T :: r => if isB t T = true then true else kitL t r
theorem kitAny_tab (K : PySem.W.Frag) {d : D} {t : String} (ht : tyN d = some t) : ∀ {Ts : List String}, (∀ T ∈ Ts, T ∈ kTys) → PySem.W.kitAny K (.type t) (Ts.map Value.type) = some (kitL t Ts)
  | [], _ => rfl
  | T :: r, h => by
    show (match PySem.W.kitOne K (.type t) (.type T) with | some true => some true | some false => PySem.W.kitAny K (.type t) (r.map Value.type) | none => none) = _
    rw [kit_tab K ht (h T (by simp))]
    unfold kitL
    cases q : isB t T with
    | true => rfl
    | false => exact kitAny_tab K ht fun T' hT => h T' (by simp [hT])
end
section
variable {X : Cx} {B : Hp} {e : Expr} {fa : Rho → M D} {pos p p2 : Pos}
noncomputable def isi (T : String) (f : Rho → M D) : Rho → M D := fun ρ => bnd (f ρ) fun d => match tyN d with | some t => ok (.bl (isB t T)) | none => none
noncomputable def isi2 (Ts : List String) (f : Rho → M D) : Rho → M D := fun ρ => bnd (f ρ) fun d => match tyN d with | some t => ok (.bl (kitL t Ts)) | none => none
theorem pd_isi {x : Str} {T : String} (hg : Gl X "isinstance") (hm : X.mg "isinstance" = none) (hg2 : Gl X x) (hm2 : X.mg x = none) (hv : bootBuiltins x = some (.type T)) (hT : T ∈ kTys) (ha : PD X B e fa) (hn : x ≠ "__name__" := by decide) (hd : (x == ("__debug__" : Str)) = false := by decide)
    (he : starEach [e, .Name x p2] X.env = [(false, eval e X.env), (false, eval (.Name x p2) X.env)] := by exact star2 rfl rfl) (he2 : starEach [.Name x p2] X.env = [(false, eval (.Name x p2) X.env)] := by exact star1 rfl) : PD X B (.Call (.Name "isinstance" p) [e, .Name x p2] [] pos) (isi T fa) := by
  have hc : CallR X (.builtin "isinstance") (fun xs H Q => ∃ d y t, xs = [y, .ty T] ∧ Is X.K H d y ∧ tyN d = some t ∧ Q (.bl (isB t T)) H) := by
    intro pins s σ H xs us Q I r h
    obtain ⟨d, y, t, rfl, i, ht, q⟩ := h
    obtain ⟨u, w', rfl, r1, r2⟩ := vals2 r
    cases r2
    obtain ⟨HH, k1, k2, k3⟩ := kit_of I i r1 ht
    exact PySem.W.kia_one k1 I.kIn k2 (kit_tab X.K ht hT) k3 fun tk => ⟨.bl _, H, I.tok _, rfl, q⟩
  refine PE.of (pe_callB hc hg hm boot_isinstance (pa_cons ha (pa_cons (pe_bltn hg2 hm2 hv (v := V.ty T) rfl hn hd) pa_nil he2) (by rw [he, he2])) (he := by rw [he, he2]) (hpl := by rw [he2]; rfl)) fun σ H Q h => ?_
  obtain ⟨ρ, r1, h⟩ := h
  refine ⟨ρ, r1, (Res.bind h).imp fun d h1 v H1 e1 i1 => ?_⟩
  cases q : tyN d with
  | none => rw [q] at h1; exact False.elim h1
  | some t => rw [q] at h1; exact ⟨d, v, t, rfl, i1, q, h1 _ H1 e1 (.bl _)⟩
theorem pd_isi2 {x y : Str} {T U : String} {k : Nat} {p3 p4 : Pos} (hg : Gl X "isinstance") (hm : X.mg "isinstance" = none) (hg2 : Gl X x) (hm2 : X.mg x = none) (hv : bootBuiltins x = some (.type T)) (hT : T ∈ kTys) (hg3 : Gl X y) (hm3 : X.mg y = none) (hv3 : bootBuiltins y = some (.type U)) (hU : U ∈ kTys) (ha : PD X B e fa)
    (hn : x ≠ "__name__" := by decide) (hd : (x == ("__debug__" : Str)) = false := by decide) (hn2 : y ≠ "__name__" := by decide) (hd2 : (y == ("__debug__" : Str)) = false := by decide)
    (he : starEach [e, .Tuple [.Name x p2, .Name y p3] k p4] X.env = [(false, eval e X.env), (false, eval (.Tuple [.Name x p2, .Name y p3] k p4) X.env)] := by exact star2 rfl rfl) (he2 : starEach [.Tuple [.Name x p2, .Name y p3] k p4] X.env = [(false, eval (.Tuple [.Name x p2, .Name y p3] k p4) X.env)] := by exact star1 rfl)
    (he3 : starEach [.Name x p2, .Name y p3] X.env = [(false, eval (.Name x p2) X.env), (false, eval (.Name y p3) X.env)] := by exact star2 rfl rfl) (he4 : starEach [.Name y p3] X.env = [(false, eval (.Name y p3) X.env)] := by exact star1 rfl) :
    PD X B (.Call (.Name "isinstance" p) [e, .Tuple [.Name x p2, .Name y p3] k p4] [] pos) (isi2 [T, U] fa) := by
  have hc : CallR X (.builtin "isinstance") (fun xs H Q => ∃ d y a t, xs = [y, .ref a] ∧ Is X.K H d y ∧ H a = some (.tup [.ty T, .ty U]) ∧ tyN d = some t ∧ Q (.bl (kitL t [T, U])) H) := by
    intro pins s σ H xs us Q I r h
    obtain ⟨d, y, a, t, rfl, i, hh, ht, q⟩ := h
    obtain ⟨u, w', rfl, r1, r2⟩ := vals2 r
    cases r2
    obtain ⟨HH, k1, k2, k3⟩ := kit_of I i r1 ht
    obtain ⟨z, its, rv, ob, o1, o2, ⟨n, o3⟩, o4⟩ := (show ObjOk X.prog X.w H s.heap a (.tup [.ty T, .ty U]) from I.hok a _ hh)
    obtain ⟨w1, w2, rfl, q1, q2⟩ := vals2 rv
    cases q1; cases q2
    obtain ⟨c0, d0, dt, sl⟩ := ob
    simp only at o2 o3
    subst o2; subst o3
    exact PySem.W.kia_tup (its := [Value.type T, Value.type U]) k1 I.kIn k2 o1 (kitAny_tab X.K ht (Ts := [T, U]) (by intro z hz; rcases List.mem_cons.mp hz with rfl | hz; exact hT; rcases List.mem_singleton.mp hz with rfl; exact hU)) k3 fun tk => ⟨.bl _, H, I.tok _, rfl, q⟩
  refine PE.of (pe_callB hc hg hm boot_isinstance (pa_cons ha (pa_cons (pe_tup (pa_cons (pe_bltn hg2 hm2 hv (v := V.ty T) rfl hn hd) (pa_cons (pe_bltn hg3 hm3 hv3 (v := V.ty U) rfl hn2 hd2) pa_nil he4) (by rw [he3, he4]))) pa_nil he2) (by rw [he, he2])) (he := by rw [he, he2]) (hpl := by rw [he2]; rfl)) fun σ H Q h => ?_
  obtain ⟨ρ, r1, h⟩ := h
  refine ⟨ρ, r1, (Res.bind h).imp fun d h1 v H1 e1 i1 => ?_⟩
  refine ⟨by show 2 ≤ sizeLine; decide, fun a ha' => ?_⟩
  cases q : tyN d with
  | none => rw [q] at h1; exact False.elim h1
  | some t => rw [q] at h1; exact ⟨d, v, a, t, rfl, i1.mono (same_new ha' _), upd_same, q, h1 _ _ (e1.trans (same_new ha' _)) (.bl _)⟩

/-! ### len; min of two -/
noncomputable def lenD : D → M D
  | .tup ds => ok (.int ds.length)
  | .lst ds => ok (.int ds.length)
  | _ => none
noncomputable def f1 (g : D → M D) (f : Rho → M D) : Rho → M D := fun ρ => bnd (f ρ) g
theorem pd_len (hg : Gl X "len") (hm : X.mg "len" = none) (ha : PD X B e fa) (he : starEach [e] X.env = [(false, eval e X.env)] := by exact star1 rfl) : PD X B (.Call (.Name "len" p) [e] [] pos) (f1 lenD fa) := by
  refine PE.of (pe_callB call_len_seq hg hm PySem.boot_len (pa_cons ha pa_nil he) (he := by rw [he]; rfl) (hpl := by rfl)) fun σ H Q h => ?_
  obtain ⟨ρ, r1, h⟩ := h
  refine ⟨ρ, r1, (Res.bind h).imp fun d h1 v H1 e1 i1 => ?_⟩
  cases i1 with
  | lst hh r => exact ⟨_, _, rfl, .inl hh, by rw [← r.length]; exact h1 _ H1 e1 (.int _)⟩
  | tup hh r => exact ⟨_, _, rfl, .inr hh, by rw [← r.length]; exact h1 _ H1 e1 (.int _)⟩
  | _ => exact False.elim h1
noncomputable def gMin : D → D → M D
  | .int i, .int j => ok (.int (if j < i then j else i))
  | _, _ => none
theorem pd_min2 {a b : Expr} {fb : Rho → M D} (hcm : X.calm = true) (hg : Gl X "min") (hm : X.mg "min" = none) (ha : PD X B a fa) (hb : PD X B b fb) (he : starEach [a, b] X.env = [(false, eval a X.env), (false, eval b X.env)] := by exact star2 rfl rfl) (he2 : starEach [b] X.env = [(false, eval b X.env)] := by exact star1 rfl) :
    PD X B (.Call (.Name "min" p) [a, b] [] pos) (b2 gMin fa fb) := by
  refine PE.of (pe_callB (call_min2 hcm) hg hm boot_min (pa_cons ha (pa_cons hb pa_nil he2) (by rw [he, he2])) (he := by rw [he, he2]) (hpl := by rw [he2]; rfl)) fun σ H Q h => ?_
  obtain ⟨ρ, r1, h⟩ := h
  refine ⟨ρ, r1, (Res.bind h).imp fun d h1 v H1 e1 i1 => ⟨ρ, r1.mono e1, (Res.bind h1).mono e1 fun d2 h2 v2 H2 e2 i2 => ?_⟩⟩
  cases i1 <;> first | exact False.elim h2 | skip
  cases i2 <;> first | exact False.elim h2 | skip
  exact ⟨_, _, rfl, h2 _ H2 (e1.trans e2) (.int _)⟩
end

/-! ### statements -/
inductive Out where
  | nx (ρ : Rho) | rt (d : D) | bk (ρ : Rho) | ct (ρ : Rho) | ex (c : Addr) (ρ : Rho)
noncomputable def Good (X : Cx) (B : Hp) (E : Ends) : Out → Prop
  | .nx ρ => ∀ σ H, Rel X.K B ρ σ H → E.nx σ H
  | .rt d => ∀ v H, Same B H → Is X.K H d v → E.rt v H
  | .bk ρ => ∀ σ H, Rel X.K B ρ σ H → E.bk σ H
  | .ct ρ => ∀ σ H, Rel X.K B ρ σ H → E.ct σ H
  | .ex c ρ => ∀ (pins : List (Addr × Obj)) (s : Shared) (σ : St) (H : Hp) (e : Value), Rel X.K B ρ σ H → Exc X pins σ H c e s → X.xe e s
noncomputable def GoodO (X : Cx) (B : Hp) (E : Ends) : Option Out → Prop
  | none => False
  | some o => Good X B E o
noncomputable def tDS (X : Cx) (B : Hp) (F : Rho → Option Out) : TS := fun E σ H => ∃ ρ, Rel X.K B ρ σ H ∧ GoodO X B E (F ρ)
noncomputable abbrev PDS (X : Cx) (B : Hp) (st : Stmt) (F : Rho → Option Out) : Prop := PS X st (tDS X B F)
noncomputable abbrev PDB (X : Cx) (B : Hp) (st : List Stmt) (F : Rho → Option Out) : Prop := PSs X st (tDS X B F)
/-- an expression's outcome within a statement -/
noncomputable def lft {α : Type} (m : M α) (ρ : Rho) (k : α → Option Out) : Option Out := match m with
  | none => none
  | some (.error c) => some (.ex c ρ)
  | some (.ok a) => k a
@[simp] theorem lft_ok {α : Type} (a : α) (ρ : Rho) (k : α → Option Out) : lft (ok a) ρ k = k a := rfl
@[simp] theorem lft_err {α : Type} (c : Addr) (ρ : Rho) (k : α → Option Out) : lft (err c : M α) ρ k = some (.ex c ρ) := rfl
theorem lft_red {α : Type} {X : Cx} {B : Hp} {E : Ends} {σ : St} {H : Hp} {ρ : Rho} {m : M α} {k : α → Option Out} (r : Rel X.K B ρ σ H) (h : GoodO X B E (lft m ρ k)) : Res X σ H (fun a => GoodO X B E (k a)) m := by
  unfold lft at h
  split at h
  · exact h
  · exact fun pins s H' e q x => h pins s σ H' e (r.mono q) x
  · exact h
section
variable {X : Cx} {B : Hp} {e c : Expr} {fa : Rho → M D} {tc : Rho → M Bool} {pos pos' : Pos} {st : Stmt} {sts rest : List Stmt} {F G : Rho → Option Out}
theorem PS.of {t t' : TS} (h : PS X st t) (i : ∀ E σ H, t' E σ H → t E σ H) : PS X st t' := fun pins s σ H E I q => h pins s σ H E I (i E σ H q)
theorem PSs.of {t t' : TS} (h : PSs X sts t) (i : ∀ E σ H, t' E σ H → t E σ H) : PSs X sts t' := fun pins s σ H E I q => h pins s σ H E I (i E σ H q)
noncomputable def sNil : Rho → Option Out := fun ρ => some (.nx ρ)
noncomputable def sSeq (F G : Rho → Option Out) : Rho → Option Out := fun ρ => match F ρ with
  | some (.nx ρ') => G ρ'
  | o => o
theorem pdb_nil : PDB X B [] sNil := PSs.of pss_nil fun E σ H ⟨ρ, r, h⟩ => h σ H r
theorem pdb_cons (h1 : PDS X B st F) (h2 : PDB X B rest G) : PDB X B (st :: rest) (sSeq F G) := by
  refine PSs.of (pss_cons h1 h2) fun E σ H h => ?_
  obtain ⟨ρ, r, h⟩ := h
  refine ⟨ρ, r, ?_⟩
  unfold sSeq at h
  cases q : F ρ with
  | none => rw [q] at h; exact h
  | some o =>
    rw [q] at h
    cases o with
    | nx ρ' => exact fun σ' H' r' => ⟨ρ', r', h⟩
    | rt d => exact h
    | bk ρ' => exact h
    | ct ρ' => exact h
    | ex c ρ' => exact h
noncomputable def sRet (f : Rho → M D) : Rho → Option Out := fun ρ => lft (f ρ) ρ fun d => some (.rt d)
theorem pds_ret (he : PD X B e fa) : PDS X B (.Return (some e) pos) (sRet fa) := by
  refine PS.of (ps_ret he) fun E σ H h => ?_
  obtain ⟨ρ, r, h⟩ := h
  exact ⟨ρ, r, (lft_red r h).imp fun d h1 v H1 e1 i1 => h1 v H1 (r.kept.trans e1) i1⟩
noncomputable def sIf (t : Rho → M Bool) (F G : Rho → Option Out) : Rho → Option Out := fun ρ => lft (t ρ) ρ fun k => if k = true then F ρ else G ρ
theorem pds_if {a b : List Stmt} (hc : PDT X B c tc) (ha : PDB X B a F) (hb : PDB X B b G) : PDS X B (.If c a b pos) (sIf tc F G) := by
  refine PS.of (ps_if hc ha hb) fun E σ H h => ?_
  obtain ⟨ρ, r, h⟩ := h
  refine ⟨ρ, r, (lft_red r h).imp fun k h1 H1 e1 => ?_⟩
  cases k with
  | true => exact ⟨ρ, r.mono e1, h1⟩
  | false => exact ⟨ρ, r.mono e1, h1⟩

/-! ### name = value -/
/-- a shared datum at slot i -/
noncomputable def SV.rel : SV → SV
  | .sh d => .sh d
  | .own ds => .sh (.lst ds)
  | .oin a C dx fs => .sh (.obj C fs)
  | .ow o => .sh o.d
  | .tk ks => .sh (.tup (ks.map kD))
noncomputable def free (ρ : Rho) : Rho := ρ.map fun o => o.map SV.rel
noncomputable def setV (i : Nat) (d : D) (ρ : Rho) : Rho := if d.imm = true then ρ.set i (some (.sh d)) else (free ρ).set i (some (.sh d))
theorem Rel.set_sh {K : PySem.W.Frag} {H₀ H : Hp} {ρ : Rho} {σ : St} {i : Nat} {d : D} {v : V} (O : Nat → Option Addr) (h1 : ∀ i j a, O i = some a → O j = some a → i = j) (ho : OwnK H O) (h2 : Same H₀ (Off H O)) (hl : ρ.length = σ.length) (h3 : ∀ j sv, ρ[j]? = some (some sv) → j ≠ i → Slot K H O σ j sv)
    (iv : Is K (Off H O) d v) : Rel K H₀ (ρ.set i (some (.sh d))) (σ.set i (some v)) H := by
  have hO : ∀ (j : Nat) (a : Addr), (if j = i then none else O j) = some a → O j = some a := fun j a q => by
    split at q
    · cases q
    · exact q
  have less : Same (Off H O) (Off H fun j => if j = i then none else O j) := Off.less fun j a q => ⟨j, hO j a q⟩
  refine ⟨fun j => if j = i then none else O j, fun j k a q1 q2 => h1 j k a (hO j a q1) (hO k a q2), fun j a q => ho j a (hO j a q), h2.trans less, by rw [List.length_set, List.length_set, hl], fun j sv q => ?_⟩
  by_cases e : j = i
  · subst e
    have hj : j < ρ.length := by
      have := (List.getElem?_eq_some_iff.mp q).1
      rwa [List.length_set] at this
    rw [List.getElem?_set_self hj] at q
    have q' := Option.some.inj (Option.some.inj q)
    subst q'
    exact ⟨v, List.getElem?_set_self (by rw [← hl]; exact hj), iv.mono less⟩
  · rw [List.getElem?_set_ne (Ne.symm e)] at q
    have z := h3 j sv q e
    cases sv with
    | sh d' => obtain ⟨v', e1, e2⟩ := z; exact ⟨v', by rw [List.getElem?_set_ne (Ne.symm e)]; exact e1, e2.mono less⟩
    | own ds => obtain ⟨a, vs, e1, e2, e3, e4⟩ := z; exact ⟨a, vs, by show (if j = i then none else O j) = some a; rw [if_neg e]; exact e1, by rw [List.getElem?_set_ne (Ne.symm e)]; exact e2, e3, e4.mono less⟩
    | oin a C dx fs => obtain ⟨e1, e2, e3, vs, e4, e5⟩ := z; exact ⟨by show (if j = i then none else O j) = some a; rw [if_neg e]; exact e1, by rw [List.getElem?_set_ne (Ne.symm e)]; exact e2, e3, vs, e4, e5.mono less⟩
    | ow o => obtain ⟨a, w, e1, e2, e3, e4⟩ := z; exact ⟨a, w, by show (if j = i then none else O j) = some a; rw [if_neg e]; exact e1, by rw [List.getElem?_set_ne (Ne.symm e)]; exact e2, e3, e4.mono less⟩
    | tk ks => obtain ⟨a, e1, e2⟩ := z; exact ⟨a, by rw [List.getElem?_set_ne (Ne.symm e)]; exact e1, less _ _ e2⟩
theorem Rel.freed {K : PySem.W.Frag} {H₀ H : Hp} {ρ : Rho} {σ : St} (r : Rel K H₀ ρ σ H) : Rel K H₀ (free ρ) σ H := by
  obtain ⟨O, h1, ho, h2, hl, h3⟩ := id r
  have e0 : Off H (fun _ => none) = H := by funext b; unfold Off; rw [if_neg (fun ⟨i, e⟩ => nomatch e)]
  refine ⟨fun _ => none, (by intro _ _ _ q; cases q), (by intro _ _ q; cases q), by rw [e0]; exact r.kept, by unfold free; rw [List.length_map, hl], fun i sv q => ?_⟩
  unfold free at q
  rw [List.getElem?_map] at q
  obtain ⟨o, e1, e2⟩ := Option.map_eq_some_iff.mp q
  cases o with
  | none => cases e2
  | some sv0 =>
    have e2' : sv0.rel = sv := Option.some.inj e2
    subst e2'
    obtain ⟨v, e3, e4⟩ := r.get e1
    have : sv0.rel = .sh sv0.cur := by cases sv0 <;> rfl
    rw [this]
    exact ⟨v, e3, by rw [e0]; exact e4⟩
theorem Rel.setV {K : PySem.W.Frag} {H₀ H : Hp} {ρ : Rho} {σ : St} {i : Nat} {d : D} {v : V} (r : Rel K H₀ ρ σ H) (iv : Is K H d v) : Rel K H₀ (setV i d ρ) (σ.set i (some v)) H := by
  unfold PU.setV
  by_cases q : d.imm = true
  · rw [if_pos q]
    obtain ⟨O, h1, ho, h2, hl, h3⟩ := r
    exact Rel.set_sh O h1 ho h2 hl (fun j sv e _ => h3 j sv e) (off_imm ho q iv)
  · rw [if_neg q]
    obtain ⟨O, h1, ho, h2, hl, h3⟩ := r.freed
    -- nothing is owned
    have e0 : Off H (fun _ => none) = H := by funext b; unfold Off; rw [if_neg (fun ⟨i, e⟩ => nomatch e)]
    have s0 : Same (Off H O) (Off H fun _ => none) := Off.less (by intro j a q; cases q)
    refine Rel.set_sh (fun _ => none) (by intro _ _ _ q; cases q) (by intro _ _ q; cases q) (h2.trans s0) hl (fun j sv e _ => ?_) (by rw [e0]; exact iv)
    unfold free at e
    rw [List.getElem?_map] at e
    obtain ⟨o, e1, e2⟩ := Option.map_eq_some_iff.mp e
    cases o with
    | none => cases e2
    | some sv0 =>
      have e2' : sv0.rel = sv := Option.some.inj e2
      subst e2'
      have z := h3 j sv0.rel (by unfold free; rw [List.getElem?_map, e1]; rfl)
      have : sv0.rel = .sh sv0.cur := by cases sv0 <;> rfl
      rw [this] at z ⊢
      obtain ⟨v', f1, f2⟩ := z
      exact ⟨v', f1, f2.mono s0⟩
noncomputable def sSet (i : Nat) (f : Rho → M D) : Rho → Option Out := fun ρ => lft (f ρ) ρ fun d => some (.nx (setV i d ρ))
theorem pds_set {i : Nat} {x : Str} (hN : X.N.Nodup) (hi : X.N[i]? = some x) (hx : Loc X.env.scope x) (he : PD X B e fa) (hs : swapsWith e (some (.Name x pos')) pos.line X.env = pure false := by rfl) (hf : X.fn x = true ∨ X.env.scope.names.lookup x = some .local := by first | exact .inl rfl | exact .inr rfl | assumption) :
    PDS X B (.Assign [.Name x pos'] e pos) (sSet i fa) := by
  refine PS.of (ps_set hN hi hx he hs hf) fun E σ H h => ?_
  obtain ⟨ρ, r, h⟩ := h
  exact ⟨ρ, r, (lft_red r h).imp fun d h1 v H1 e1 i1 => h1 _ H1 ((r.mono e1).setV i1)⟩
end
end L2.PU

namespace L2.PU
open PySem PySem.Spec PyProof.Rows

/-! ### what a def promises, by data -/
noncomputable def spR (K : PySem.W.Frag) (H : Hp) (Q : VK) (E : XK) : M D → Prop
  | none => False
  | some (.error c) => ∀ H', Same H H' → E (.ref c) none H'
  | some (.ok d) => ∀ v H', Same H H' → Is K H' d v → Q v H'
noncomputable def spD (K : PySem.W.Frag) (n : Nat) (F : List D → M D) : Sp := fun vs H Q E => ∃ ds, IsL K H ds vs ∧ vs.length = n ∧ spR K H Q E (F ds)
/-- how an exception lies behind a call -/
noncomputable def CXD (P : Program) (w : World) : CXT := fun outer H s E e s' => ∃ (c ea : Addr) (H' : Hp), e = .ref ea ∧ s'.os = s.os ∧ AllBare s'.gens ∧ Un (frs outer) [] H H' s.heap s'.heap ∧ Fly P w outer s ea c H' s' ∧ E (.ref c) none H'
noncomputable abbrev FnD (P : Program) (w : World) (K : PySem.W.Frag) (mg : Str → Option Value) (base : Heap) (k : Nat) (f : Addr) (fd : FuncData) (ps : List Str) (F : List D → M D) : Prop := FnOk P w K mg base (CXD P w) k f fd ps (spD K ps.length F)
/-- a def of the text by its name -/
noncomputable def Def (P : Program) (w : World) (K : PySem.W.Frag) (mg : Str → Option Value) (base : Heap) (k : Nat) (x : Str) (F : List D → M D) : Prop :=
  ∃ f fd ps, mg x = some (.ref f) ∧ PySem.W.keepIn K (.ref f) = true ∧ Binds K fd ps [] ∧ (∀ ds r, F ds = some r → ds.length = ps.length) ∧ FnD P w K mg base k f fd ps F
/-- a method by its class and name -/
noncomputable def Mth (P : Program) (w : World) (K : PySem.W.Frag) (mg : Str → Option Value) (base : Heap) (k : Nat) (C : Addr) (m : Str) (F : List D → M D) : Prop :=
  ∃ f fd ps, Cls K C ∧ Meth K C m f ∧ Binds K fd ps [] ∧ (∀ ds r, F ds = some r → ds.length = ps.length) ∧ FnD P w K mg base k f fd ps F
section
variable {X : Cx} {B : Hp} {k : Nat} {f : Addr} {fd : FuncData} {ps : List Str} {F : List D → M D} {pins : List (Addr × Obj)} {σ : St} {H : Hp} {s : Shared} {Q : VK} {us : List Value} {vs : List V} {ds : List D}
/-- the callee runs -/
theorem run_D (G : FnD X.prog X.w X.K X.mg X.base k f fd ps F) (hr : Room k X.A) (hb : Binds X.K fd ps []) (I : Inv X pins σ H s) (r : Vals vs us) (i : IsL X.K H ds vs)
    (h : Res X σ H (fun d => ∀ v H', Same H H' → Is X.K H' d v → Q v H') (F ds)) (hL : ∀ ds r, F ds = some r → ds.length = ps.length) : wpAny (model X.prog X.w) X.A (call (.ref f) us) (EP X pins σ Q) X.xe s := by
  have hn : ds.length = ps.length := by
    cases q : F ds with
    | none => rw [q] at h; exact False.elim h
    | some z => exact hL ds z q
  have hl : (us ++ []).length = ps.length := by rw [List.append_nil, ← r.length, ← i.length]; exact hn
  have hbb := hb s us I.kIn hl
  rw [List.append_nil] at hbb
  have hsp : spD X.K ps.length F vs H Q (fun cv _ H' => ∃ c, cv = .ref c ∧ Same H H' ∧ Thr X σ H c) := by
    refine ⟨ds, i, by rw [← i.length]; exact hn, ?_⟩
    cases q : F ds with
    | none => rw [q] at h; exact False.elim h
    | some z =>
      rw [q] at h
      cases z with
      | error c => exact fun H' e => ⟨c, rfl, e, h⟩
      | ok d => exact h
  refine wpAny_call (codeAny_mono (G.run X.A X.stack s H ⟨us, []⟩ us vs Q _ hr I.env0 hbb r hsp) fun r s' hq => ?_)
  cases r with
  | error e =>
    obtain ⟨c, ea, H', ee, os, bare, un, fl, c', ec, sm', th⟩ := hq
    cases ec
    exact th pins s' H' e sm' ⟨ea, ee, .inr ⟨s, H, I, os, bare, un, fl⟩⟩
  | ok fl =>
    cases fl with
    | ret u => exact I.after hq
    | next => exact False.elim hq
    | brk => exact False.elim hq
    | cont => exact False.elim hq

variable {x m : Str} {p pos apos : Pos} {e o : Expr} {es : List Expr} {ga : Rho → M (List D)} {fo : Rho → M D} {C : Addr}
noncomputable def app (F : List D → M D) (g : Rho → M (List D)) : Rho → M D := fun ρ => bnd (g ρ) F
theorem app_red {R : List V → Hp → Prop} (hR : ∀ ds vs H1, Same H H1 → IsL X.K H1 ds vs → Res X σ H1 (fun d => ∀ v H', Same H1 H' → Is X.K H' d v → Q v H') (F ds) → R vs H1) (h : tD X B (app F ga) σ H Q) : tDA X B ga σ H R := by
  obtain ⟨ρ, r, h⟩ := h
  exact ⟨ρ, r, (Res.bind h).imp fun ds h1 vs H1 e1 i1 => hR ds vs H1 e1 i1 (h1.mono e1 fun d q v H2 e2 i2 => q v H2 (e1.trans e2) i2)⟩
theorem pd_call (G : Def X.prog X.w X.K X.mg X.base k x F) (hr : Room k X.A) (hg : Gl X x) (ha : PDA X B (e :: es) ga) (hdb : (x == ("__debug__" : Str)) = false := by decide) (he : starEach (e :: es) X.env = (false, eval e X.env) :: starEach es X.env := by exact star_ok rfl)
    (hpl : (backTo pos (starEach es X.env)).any (·.1) = false := by rfl) : PD X B (.Call (.Name x p) (e :: es) [] pos) (app F ga) := by
  intro pins s σ H Q I h
  obtain ⟨f, fd, ps, h1, h2, h3, hl, h4⟩ := G
  refine wpAny_Call_Name_kw (ld_glob I hg h1 ?_ hdb)
  refine PySem.W.callWith_K (h₀ := X.base) I.ok.mod.kin h2 (thn (ha pos pins s σ H _ I (app_red (R := fun vs H1 => ∃ ds, IsL X.K H1 ds vs ∧ Res X σ H1 (fun d => ∀ v H', Same H1 H' → Is X.K H' d v → Q v H') (F ds)) (fun ds vs H1 e1 i1 h1 => ⟨ds, i1, h1⟩) h)) fun us s1 ⟨vs, H1, I1, r, ds, i1, q⟩ => ⟨I1.kIn, ?_⟩) he hpl
  exact run_D h4 hr h3 I1 r i1 q hl
/-- o.m(..): by the class of the object -/
noncomputable def appM (m : Str) (FM : Addr → Option (List D → M D)) (fo : Rho → M D) (g : Rho → M (List D)) : Rho → M D := fun ρ => bnd (fo ρ) fun x => match x with
  | .obj C fs => match FM C, fs.lookup m with
    | some F, none => bnd (g ρ) fun ds => F (x :: ds)
    | _, _ => none
  | _ => none
theorem pd_meth {pl : Sem Bool} {FM : Addr → Option (List D → M D)} (G : ∀ C F, FM C = some F → Mth X.prog X.w X.K X.mg X.base k C m F) (hr : Room k X.A) (he : PD X B o fo) (ha : PDA X B (e :: es) ga)
    (hst : starEach (e :: es) X.env = (false, eval e X.env) :: starEach es X.env := by exact star_ok rfl) (hpl : (backTo pos (starEach es X.env)).any (·.1) = false := by rfl)
    (ht : eval (.Call (.Attribute o m apos) (e :: es) [] pos) X.env = (do
      let ov ← eval o X.env
      standAt apos.atName
      let (f, first) ← holding [ov] (getMethod ov m pl)
      callWith pos f first (backTo pos (starEach (e :: es) X.env)) (backToKw pos (keywordEach [] X.env))) := by rfl) :
    PD X B (.Call (.Attribute o m apos) (e :: es) [] pos) (appM m FM fo ga) := by
  intro pins s σ H Q I h
  obtain ⟨ρ, r, h⟩ := h
  refine PySem.W.methodCall_KW (pl := pl) (thn (he pins s σ H (fun v H1 => ∃ a C dx fs vs F, v = .ref a ∧ H1 a = some (.ins C dx vs) ∧ IsF X.K H1 fs vs ∧ fs.lookup m = none ∧ FM C = some F ∧ Same H H1 ∧ Res X σ H (fun ds => Res X σ H (fun d => ∀ v H', Same H H' → Is X.K H' d v → Q v H') (F (.obj C fs :: ds))) (ga ρ)) I ⟨ρ, r, (Res.bind h).imp fun d h1 v H1 e1 i1 => ?_⟩) fun u s1 hP => ?_) ht
  · cases i1 with
    | obj hh rr =>
      dsimp only at h1
      split at h1
      · rename_i F hF hl; exact ⟨_, _, _, _, _, F, rfl, hh, rr, hl, hF, e1, Res.bind h1⟩
      · exact False.elim h1
    | _ => exact False.elim h1
  obtain ⟨x, H1, I1, rx, a, C, dx, fs, vs, F, ex, ea, ifs, l, hF, e1, q⟩ := hP
  subst ex
  obtain rfl : u = Value.ref a := rx
  obtain ⟨f, fd, ps, h1, h2, h3, hl, h4⟩ := G C F hF
  refine getmeth_ok I1 ea h1 h2 (ifs.lookupNone l) ?_
  have q' : tDA X B ga σ H1 (fun vs' H2 => ∃ ds, Same H1 H2 ∧ IsL X.K H2 ds vs' ∧ Res X σ H (fun d => ∀ v H', Same H H' → Is X.K H' d v → Q v H') (F (.obj C fs :: ds))) :=
    ⟨ρ, r.mono e1, Res.mono e1 q fun ds q1 vs' H2 e2 i2 => ⟨ds, e2, i2, q1⟩⟩
  refine PySem.W.callWith_K (first := [.ref a]) (h₀ := X.base) I.ok.mod.kin h2.kp (thn (ha pos pins s1 σ H1 _ I1 q') fun us s2 ⟨vs', H2, I2, r2, ds, e2, i2, q2⟩ => ⟨I2.kIn, ?_⟩) hst hpl
  exact run_D (us := .ref a :: us) (vs := .ref a :: vs') (ds := .obj C fs :: ds) h4 hr h3 I2 (.cons rfl r2) (.cons (.obj (e2 _ _ ea) (ifs.mono e2)) i2) (q2.mono (e1.trans e2) fun d z v H' e' i' => z v H' ((e1.trans e2).trans e') i') hl

/-! ### attributes; cs: the classes that are known -/
noncomputable def fld (cs : Addr → Bool) (f : Str) (fo : Rho → M D) : Rho → M D := fun ρ => bnd (fo ρ) fun x => match x with
  | .obj C fs => if cs C = true then (match fs.lookup f with | some d => ok d | none => none) else none
  | _ => none
theorem pd_fld {cs : Addr → Bool} {f : Str} (hC : ∀ C, cs C = true → Cls X.K C ∧ NoAttr X.K C f) (he : PD X B o fo) (hb : attributeBase o f X.env (eval o X.env) = eval o X.env := by rfl) : PD X B (.Attribute o f pos) (fld cs f fo) := by
  refine PE.of (pe_fld he hb) fun σ H Q h => ?_
  obtain ⟨ρ, r, h⟩ := h
  refine ⟨ρ, r, (Res.bind h).imp fun d h1 v H1 e1 i1 => ?_⟩
  cases i1 with
  | obj hh rr =>
    rename_i a C dx fs vs
    dsimp only at h1
    split at h1
    · rename_i hc
      split at h1
      · rename_i d hl
        obtain ⟨v, q1, q2⟩ := rr.lookup hl
        exact ⟨a, C, dx, vs, v, rfl, hh, (hC C hc).1, (hC C hc).2, q1, h1 v H1 e1 q2⟩
      · exact False.elim h1
    · exact False.elim h1
  | _ => exact False.elim h1

/-! ### C(..) -/
noncomputable def hid (H : Hp) (a : Addr) : Hp := fun b => if b = a then none else H b
noncomputable def spI (K : PySem.W.Frag) (C : Addr) (n : Nat) (F : List D → M (List (Str × D))) : Sp := fun vs H Q E => ∃ a dx ws ds, vs = .ref a :: ws ∧ H a = some (.ins C dx []) ∧ dx ≠ a ∧ IsL K (hid H a) ds ws ∧ vs.length = n ∧ (match F ds with
  | none => False
  | some (.error c) => ∀ H', Same (hid H a) H' → E (.ref c) none H'
  | some (.ok fs) => ∀ H' fvs, H' a = some (.ins C dx fvs) → IsF K H' fs fvs → Same (hid H a) H' → Q .non H')
/-- a class of the text by its name: what its __init__ makes of the arguments -/
noncomputable def Ctor (P : Program) (w : World) (K : PySem.W.Frag) (mg : Str → Option Value) (base : Heap) (k : Nat) (x : Str) (C : Addr) (F : List D → M (List (Str × D))) : Prop :=
  ∃ f fd ps, mg x = some (.ref C) ∧ Mk K C f ∧ Binds K fd ps [] ∧ (∀ ds r, F ds = some r → ds.length + 1 = ps.length) ∧ FnOk P w K mg base (CXD P w) k f fd ps (spI K C ps.length F)
noncomputable def mkO (C : Addr) (F : List D → M (List (Str × D))) (ds : List D) : M D := bnd (F ds) fun fs => ok (.obj C fs)
theorem run_mk {ps : List Str} {F : List D → M (List (Str × D))} (Mm : Mk X.K C f) (G : FnOk X.prog X.w X.K X.mg X.base (CXD X.prog X.w) k f fd ps (spI X.K C ps.length F)) (hr : Room (k + 1) X.A) (hb : Binds X.K fd ps []) (I : Inv X pins σ H s) (r : Vals vs us) (i : IsL X.K H ds vs)
    (h : Res X σ H (fun d => ∀ v H', Same H H' → Is X.K H' d v → Q v H') (mkO C F ds)) (hL : ∀ ds r, F ds = some r → ds.length + 1 = ps.length) : wpAny (model X.prog X.w) X.A (call (.ref C) us) (EP X pins σ Q) X.xe s := by
  have hF : ∃ z, F ds = some z := by
    cases q : F ds with
    | none => unfold mkO at h; rw [q] at h; exact False.elim h
    | some z => exact ⟨z, rfl⟩
  obtain ⟨z, hz⟩ := hF
  have hn := hL ds z hz
  have hsp : ∀ x dx, H x = none → H dx = none → dx ≠ x → spI X.K C ps.length F (.ref x :: vs) (upd (upd H dx (.own x)) x (.ins C dx [])) (fun v H2 => v = .non ∧ Q (.ref x) H2) (fun cv _ H' => ∃ c, cv = .ref c ∧ Same H H' ∧ Thr X σ H c) := by
    intro x dx hx hdx ne
    have sm : Same H (hid (upd (upd H dx (.own x)) x (.ins C dx [])) x) := fun b o q => by
      have hb : b ≠ x := ne_of_none q hx
      unfold hid
      rw [if_neg hb, upd_ne hb, upd_ne (ne_of_none q hdx)]
      exact q
    refine ⟨x, dx, vs, ds, rfl, upd_same, ne, i.mono sm, by rw [List.length_cons, ← i.length]; exact hn, ?_⟩
    unfold mkO at h
    rw [hz] at h ⊢
    cases z with
    | error c => exact fun H' e => ⟨c, rfl, sm.trans e, h⟩
    | ok fs => exact fun H' fvs e1 e2 e3 => ⟨rfl, h _ H' (sm.trans e3) (.obj e1 e2)⟩
  have hq := hsp (s.heap.objs.size + 1) s.heap.objs.size (I.hok.fresh (Nat.le_succ _)) (I.hok.fresh (Nat.le_refl _)) (Nat.ne_of_lt (Nat.lt_succ_self _))
  have I2 := Inv.made (C := C) I
  have r2 : Vals (V.ref (s.heap.objs.size + 1) :: vs) (Value.ref (s.heap.objs.size + 1) :: us) := .cons rfl r
  have hl : ((Value.ref (s.heap.objs.size + 1) :: us) ++ []).length = ps.length := by
    rw [List.append_nil, List.length_cons, ← r.length, ← i.length]; exact hn
  have hbb := hb { s with heap := (s.heap.push PySem.W.emptyDict).push (PySem.W.instObj C s.heap.objs.size) } (Value.ref (s.heap.objs.size + 1) :: us) I2.kIn hl
  rw [List.append_nil] at hbb
  refine wpAny_call (make_map (f := f) I.kIn Mm.makes Mm.init (beq_iff_eq.mp Mm.fn) (codeAny_mono (G.run _ X.stack _ _ ⟨Value.ref (s.heap.objs.size + 1) :: us, []⟩ (Value.ref (s.heap.objs.size + 1) :: us) _ _ _ (hr.make C us [])
    (I2.env0.make C us []) hbb r2 hq) fun r s' hq' => ?_))
  cases r with
  | error e =>
    obtain ⟨c, ea, H', ee, os, bare, un, fl, c', ec, sm', th⟩ := hq'
    cases ec
    exact th pins s' H' e sm' ⟨ea, ee, .inr ⟨_, _, I2, os, bare, un, fl⟩⟩
  | ok fl =>
    cases fl with
    | ret u =>
      obtain ⟨v, H', I3, rv, ev, q3⟩ := I2.after hq'
      subst ev
      exact ⟨rv, ⟨V.ref (s.heap.objs.size + 1), H', I3, rfl, q3⟩⟩
    | next => exact False.elim hq'
    | brk => exact False.elim hq'
    | cont => exact False.elim hq'
theorem pd_make {F : List D → M (List (Str × D))} (G : Ctor X.prog X.w X.K X.mg X.base k x C F) (hr : Room (k + 1) X.A) (hg : Gl X x) (ha : PDA X B (e :: es) ga) (hdb : (x == ("__debug__" : Str)) = false := by decide) (he : starEach (e :: es) X.env = (false, eval e X.env) :: starEach es X.env := by exact star_ok rfl)
    (hpl : (backTo pos (starEach es X.env)).any (·.1) = false := by rfl) : PD X B (.Call (.Name x p) (e :: es) [] pos) (app (mkO C F) ga) := by
  intro pins s σ H Q I h
  obtain ⟨f, fd, ps, h1, h2, h3, hl, h4⟩ := G
  refine wpAny_Call_Name_kw (ld_glob I hg h1 ?_ hdb)
  refine PySem.W.callWith_K (h₀ := X.base) I.ok.mod.kin h2.kp (thn (ha pos pins s σ H _ I (app_red (R := fun vs H1 => ∃ ds, IsL X.K H1 ds vs ∧ Res X σ H1 (fun d => ∀ v H', Same H1 H' → Is X.K H' d v → Q v H') (mkO C F ds)) (fun ds vs H1 e1 i1 h1 => ⟨ds, i1, h1⟩) h)) fun us s1 ⟨vs, H1, I1, r, ds, i1, q⟩ => ⟨I1.kIn, ?_⟩) he hpl
  exact run_mk h2 h4 hr h3 I1 r i1 q hl
theorem pd_make0 {F : List D → M (List (Str × D))} (G : Ctor X.prog X.w X.K X.mg X.base k x C F) (hr : Room (k + 1) X.A) (hg : Gl X x) (hdb : (x == ("__debug__" : Str)) = false := by decide) : PD X B (.Call (.Name x p) [] [] pos) (fun _ => mkO C F []) := by
  intro pins s σ H Q I h
  obtain ⟨f, fd, ps, h1, h2, h3, hl, h4⟩ := G
  obtain ⟨ρ, r, h⟩ := h
  refine wpAny_Call_Name_kw (ld_glob I hg h1 ?_ hdb)
  exact PySem.W.callWith_K0 I.kIn h2.kp (run_mk (us := []) (vs := []) (ds := []) h2 h4 hr h3 I .nil .nil h hl)
end
end L2.PU

namespace L2.PU
open PySem PySem.Spec PyProof.Rows

/-! ### targets -/
noncomputable def tDG (X : Cx) (B : Hp) (G : D → Rho → Option Rho) : TG := fun v σ H Q => ∃ ρ d ρ', Rel X.K B ρ σ H ∧ Is X.K H d v ∧ G d ρ = some ρ' ∧ ∀ σ' H', Rel X.K B ρ' σ' H' → Q σ' H'
noncomputable abbrev PDG (X : Cx) (B : Hp) (tg : Expr) (G : D → Rho → Option Rho) : Prop := PG X tg (tDG X B G)
section
variable {X : Cx} {B : Hp} {tg : Expr} {pos : Pos} {x : Str}
noncomputable def gN (i : Nat) : D → Rho → Option Rho := fun d ρ => some (setV i d ρ)
theorem pdg_name {i : Nat} (hN : X.N.Nodup) (hi : X.N[i]? = some x) (hx : Loc X.env.scope x) (hf : X.fn x = true ∨ X.env.scope.names.lookup x = some .local := by first | exact .inl rfl | exact .inr rfl | assumption) : PDG X B (.Name x pos) (gN i) := by
  intro pins s σ H v u Q I r h
  obtain ⟨ρ, d, ρ', r1, i1, e, q⟩ := h
  cases e
  exact pg_name hN hi hx hf pins s σ H v u Q I r (q _ H (r1.setV i1))
end

/-! ### loops -/
noncomputable def loop (G : D → Rho → Option Rho) (F : Rho → Option Out) : List D → Rho → Option Out
  | [], ρ => some (.nx ρ)
  | d :: ds, ρ => match G d ρ with
    | none => none
    | some ρ1 => match F ρ1 with
      | some (.nx ρ2) => loop G F ds ρ2
      | some (.ct ρ2) => loop G F ds ρ2
      | some (.bk ρ2) => some (.nx ρ2)
      | some (.rt d) => some (.rt d)
      | some (.ex c ρ2) => some (.ex c ρ2)
      | none => none
/-- the iterator yields these data as long as the heap keeps B -/
structure ItD (K : PySem.W.Frag) (J : It) (ds : List D) (B : Hp) : Prop where
  go : ∀ j H, Same B H → j < ds.length → J.go j H
  yld : ∀ j H x H', Same B H → J.yld j H x H' → j < ds.length → Same H H' ∧ ∃ d, ds[j]? = some d ∧ Is K H' d x
  stop : ∀ j H, Same B H → ds.length ≤ j → J.stop j H
theorem itd_list {K : PySem.W.Frag} {a : Addr} {ds : List D} {vs : List V} {B : Hp} (h : SqL K B a vs) (r : IsL K B ds vs) : ItD K (Itl K a) ds B where
  go := fun j H e q => ⟨vs, vs[j]'(by rw [← r.length]; exact q), e.seq h, by simp [show j < vs.length by rw [← r.length]; exact q]⟩
  yld := fun j H x H' e y q => by
    obtain ⟨y1, y2⟩ := y
    subst y1
    obtain ⟨d, h1, h2⟩ := r.getV (y2 vs (e.seq h))
    exact ⟨Same.refl _, d, h1, h2.mono e⟩
  stop := fun j H e q => ⟨vs, e.seq h, by rw [← r.length]; exact q⟩
theorem itd_tup {K : PySem.W.Frag} {a : Addr} {ds : List D} {vs : List V} {B : Hp} (h : SqT K B a vs) (r : IsL K B ds vs) : ItD K (Itt K a) ds B where
  go := fun j H e q => ⟨vs, vs[j]'(by rw [← r.length]; exact q), SqT.mono e h, by simp [show j < vs.length by rw [← r.length]; exact q]⟩
  yld := fun j H x H' e y q => by
    obtain ⟨y1, y2⟩ := y
    subst y1
    obtain ⟨d, h1, h2⟩ := r.getV (y2 vs (SqT.mono e h))
    exact ⟨Same.refl _, d, h1, h2.mono e⟩
  stop := fun j H e q => ⟨vs, SqT.mono e h, by rw [← r.length]; exact q⟩
noncomputable def rng (lo : Int) (n : Nat) : List D := (List.range n).map fun (j : Nat) => D.int (lo + (j : Int))
theorem itd_rng {K : PySem.W.Frag} (lo : Int) (n : Nat) (B : Hp) : ItD K (Itr lo n) (rng lo n) B where
  go := fun j H e q => by unfold rng at q; rw [List.length_map, List.length_range] at q; exact q
  yld := fun j H x H' e y q => by
    unfold rng at q; rw [List.length_map, List.length_range] at q
    obtain ⟨y1, y2⟩ := y
    subst y2
    subst y1
    refine ⟨Same.refl _, .int (lo + j), ?_, .int _⟩
    unfold rng
    rw [List.getElem?_map, List.getElem?_range q]; rfl
  stop := fun j H e q => by unfold rng at q; rw [List.length_map, List.length_range] at q; exact q
section
variable {X : Cx} {B : Hp} {tg iter : Expr} {pos : Pos} {G : D → Rho → Option Rho} {F : Rho → Option Out} {body : List Stmt}
theorem Rel.sub {K : PySem.W.Frag} {B B' : Hp} {ρ : Rho} {σ : St} {H : Hp} (e : Same B B') (r : Rel K B' ρ σ H) : Rel K B ρ σ H := by
  obtain ⟨O, h1, ho, h2, hl, h3⟩ := r
  exact ⟨O, h1, ho, e.trans h2, hl, h3⟩
/-- what the iterator must bring -/
noncomputable def IterOk (X : Cx) (B : Hp) (σ : St) (ds : List D) (ρ1 : Rho) (J : It) (H1 : Hp) : Prop := ∃ B', ItD X.K J ds B' ∧ Rel X.K B' ρ1 σ H1 ∧ Same B B'
theorem for_red {J : It} {H1 : Hp} {σ : St} {E : Ends} {ds : List D} {ρ1 : Rho} (hi : IterOk X B σ ds ρ1 J H1) (h : GoodO X B E (loop G F ds ρ1)) {g : TG} {tb : TS} (hg : ∀ B v σ H Q, tDG X B G v σ H Q → g v σ H Q) (hb : ∀ B E σ H, tDS X B F E σ H → tb E σ H) :
    ∃ W : Nat → Nat → St → Hp → Prop, (∃ m, W 0 m σ H1) ∧ ∀ i m σ H, W i m σ H →
      (J.stop i H ∧ E.nx σ H) ∨ (J.go i H ∧ ∃ N : St → Hp → Prop, (∀ σ' H', N σ' H' → ∃ m', m' < m ∧ W (i + 1) m' σ' H') ∧ ∀ x H', J.yld i H x H' → g x σ H' fun σ2 H2 => tb { E with nx := N, ct := N, bk := E.nx } σ2 H2) := by
  obtain ⟨B', hJ, r1, sB⟩ := hi
  refine ⟨fun j m σ H => m = ds.length - j ∧ j ≤ ds.length ∧ ∃ ρj, Rel X.K B' ρj σ H ∧ GoodO X B E (loop G F (ds.drop j) ρj), ⟨ds.length, by simp, Nat.zero_le _, ρ1, r1, by simpa using h⟩, ?_⟩
  rintro j m σ H ⟨rfl, hj, ρj, rj, gj⟩
  have sH : Same B' H := rj.kept
  by_cases hlt : j < ds.length
  · have hd : ds.drop j = ds[j] :: ds.drop (j + 1) := List.drop_eq_getElem_cons hlt
    rw [hd] at gj
    refine .inr ⟨hJ.go j H sH hlt, fun σ' H' => ∃ ρ', Rel X.K B' ρ' σ' H' ∧ GoodO X B E (loop G F (ds.drop (j + 1)) ρ'), fun σ' H' ⟨ρ', r', g'⟩ => ⟨ds.length - (j + 1), by omega, rfl, hlt, ρ', r', g'⟩, fun x H' y => ?_⟩
    obtain ⟨e1, d, e2, e3⟩ := hJ.yld j H x H' sH y hlt
    have ed : ds[j] = d := by rw [List.getElem?_eq_getElem hlt] at e2; exact Option.some.inj e2
    rw [ed] at gj
    unfold loop at gj
    cases q : G d ρj with
    | none => rw [q] at gj; exact False.elim gj
    | some ρa =>
      rw [q] at gj
      refine hg B' x σ H' _ ⟨ρj, d, ρa, rj.mono e1, e3, q, fun σ2 H2 r2 => hb B' _ σ2 H2 ⟨ρa, r2, ?_⟩⟩
      dsimp only at gj
      cases qf : F ρa with
      | none => rw [qf] at gj; exact False.elim gj
      | some o =>
        rw [qf] at gj
        cases o with
        | nx ρ2 => exact fun σ3 H3 r3 => ⟨ρ2, r3, gj⟩
        | ct ρ2 => exact fun σ3 H3 r3 => ⟨ρ2, r3, gj⟩
        | bk ρ2 => exact fun σ3 H3 r3 => gj σ3 H3 (r3.sub sB)
        | rt d => exact fun v H3 s3 i3 => gj v H3 (sB.trans s3) i3
        | ex c ρ2 => exact fun pins s σ3 H3 ev r3 x3 => gj pins s σ3 H3 ev (r3.sub sB) x3
  · have e : ds.drop j = [] := List.drop_eq_nil_of_le (by omega)
    rw [e] at gj
    exact .inl ⟨hJ.stop j H sH (by omega), gj σ H (rj.sub sB)⟩
/-- the data of a list or a tuple -/
noncomputable def itD : D → M (List D)
  | .lst ds => ok ds
  | .tup ds => ok ds
  | _ => none
noncomputable def iD (X : Cx) (tl : TE) : TI := fun σ H R => tl σ H fun x H1 => (∃ a, x = .ref a ∧ (∃ xs, SqL X.K H1 a xs) ∧ R (Itl X.K a) H1) ∨ (∃ a, x = .ref a ∧ (∃ xs, SqT X.K H1 a xs) ∧ R (Itt X.K a) H1)
theorem pi_D {l : Expr} {tl : TE} (hl : PE X l tl) : PI X tg l (iD X tl) := by
  intro pins s σ H R I h
  refine thn (hl pins s σ H _ I h) fun v s1 ⟨x, H1, I1, r1, q1⟩ => ?_
  rcases q1 with ⟨a, e, ⟨xs, hq⟩, q⟩ | ⟨a, e, ⟨xs, hq⟩, q⟩
  · subst e
    cases r1
    obtain ⟨its, rv, p, hz⟩ := I1.list hq
    refine wpAny_pyIter_list p.isList ?_
    refine ⟨s1.heap.objs.size, [s1.heap.objs.size], _, _, H1, rfl, I1.kept (t' := s1.toks) fun b o e => Heap.get?_push_of_some _ e, turn_list a _, ⟨_, Heap.get?_push_size _ rfl, rfl, rfl⟩, fun b hb => ?_, q⟩
    have e : b = s1.heap.objs.size := by simpa using hb
    subst e
    exact I1.fpOk (Nat.le_refl _) (I1.hok.fresh (Nat.le_refl _))
  · subst e
    cases r1
    obtain ⟨its, rv, p, hz⟩ := I1.tuple hq
    refine wpAny_pyIter_tuple (show s1.heap.IsTuple a its.toArray from p) ?_
    refine ⟨s1.heap.objs.size, [s1.heap.objs.size], _, _, H1, rfl, I1.kept (t' := s1.toks) fun b o e => Heap.get?_push_of_some _ e, turn_tuple a _, ⟨_, Heap.get?_push_size _ rfl, rfl, rfl⟩, fun b hb => ?_, q⟩
    have e : b = s1.heap.objs.size := by simpa using hb
    subst e
    exact I1.fpOk (Nat.le_refl _) (I1.hok.fresh (Nat.le_refl _))
theorem pds_forG {wi : TI} {S : Rho → Option Out} (hp : PassesOwn (model X.prog X.w) X.A X.env X.xe) (hc : X.calm = true) (hi : PI X tg iter wi) (hg : ∀ B, PDG X B tg G) (hb : ∀ B, PDB X B body F)
    (hr : ∀ E σ H R, tDS X B S E σ H → (∀ J H1 ds ρ1, IterOk X B σ ds ρ1 J H1 → GoodO X B E (loop G F ds ρ1) → R J H1) → wi σ H R) (hs : ∀ x, foldedSetIterable iter X.env x = pure x := by intro _; rfl) : PDS X B (.For tg iter body [] pos) S := by
  have hg' : PG X tg (fun v σ H Q => ∃ B, tDG X B G v σ H Q) := fun pins s σ H v u Q I r ⟨B, h⟩ => hg B pins s σ H v u Q I r h
  have hb' : PSs X body (fun E σ H => ∃ B, tDS X B F E σ H) := fun pins s σ H E I ⟨B, h⟩ => hb B pins s σ H E I h
  refine PS.of (ps_for hp hc hi hg' hb' hs) fun E σ H h => ?_
  exact hr E σ H _ h fun J H1 ds ρ1 i1 g1 => for_red (g := fun v σ H Q => ∃ B, tDG X B G v σ H Q) (tb := fun E σ H => ∃ B, tDS X B F E σ H) i1 g1 (fun B v σ H Q q => ⟨B, q⟩) fun B E σ H q => ⟨B, q⟩
/-- over a name's list or tuple -/
noncomputable def relAt (i : Nat) (ρ : Rho) : Rho := match ρ[i]? with
  | some (some (.own _)) => free ρ
  | some (some (.oin _ _ _ _)) => free ρ
  | some (some (.ow _)) => free ρ
  | some (some (.tk _)) => free ρ
  | _ => ρ
noncomputable def sForN (i : Nat) (G : D → Rho → Option Rho) (F : Rho → Option Out) : Rho → Option Out := fun ρ => match look i ρ with
  | some (.ok d) => (match itD d with
    | some (.ok ds) => loop G F ds (relAt i ρ)
    | _ => none)
  | _ => none
/-- the whole heap stays as the base -/
theorem Rel.base {K : PySem.W.Frag} {B : Hp} {ρ : Rho} {σ : St} {H : Hp} (r : Rel K B ρ σ H) : ∃ B', Rel K B' ρ σ H ∧ Same B B' ∧ Same B' H ∧ (∀ (i : Nat) (d : D), ρ[i]? = some (some (SV.sh d)) → ∃ v, σ[i]? = some (some v) ∧ Is K B' d v) ∧ (∀ d v, d.imm = true → Is K H d v → Is K B' d v) := by
  obtain ⟨O, h1, ho, h2, hl, h3⟩ := r
  exact ⟨Off H O, ⟨O, h1, ho, Same.refl _, hl, h3⟩, h2, Off.same _ _, fun i d q => h3 i _ q, fun d v q i => off_imm ho q i⟩
theorem Rel.baseAll {K : PySem.W.Frag} {B : Hp} {ρ : Rho} {σ : St} {H : Hp} (r : Rel K B ρ σ H) : Rel K H (free ρ) σ H := by
  have e0 : Off H (fun _ => none) = H := by funext b; unfold Off; rw [if_neg (fun ⟨i, e⟩ => nomatch e)]
  refine ⟨fun _ => none, (by intro _ _ _ q; cases q), (by intro _ _ q; cases q), by rw [e0]; exact Same.refl _, ?_, fun i sv q => ?_⟩
  · obtain ⟨O, _, _, _, hl, _⟩ := r.freed
    exact hl
  · unfold free at q
    rw [List.getElem?_map] at q
    obtain ⟨o, e1, e2⟩ := Option.map_eq_some_iff.mp q
    cases o with
    | none => cases e2
    | some sv0 =>
      have e2' : sv0.rel = sv := Option.some.inj e2
      subst e2'
      obtain ⟨v, e3, e4⟩ := r.get e1
      have : sv0.rel = .sh sv0.cur := by cases sv0 <;> rfl
      rw [this]
      exact ⟨v, e3, by rw [e0]; exact e4⟩
theorem iter_of {K : PySem.W.Frag} {H : Hp} {d : D} {v : V} {ds : List D} (i : Is K H d v) (h : itD d = ok ds) : ∃ a vs, v = .ref a ∧ IsL K H ds vs ∧ (SqL K H a vs ∨ SqT K H a vs) := by
  cases i with
  | lst hh r => have := ok_inj h; subst this; exact ⟨_, _, rfl, r, .inl hh⟩
  | tup hh r => have := ok_inj h; subst this; exact ⟨_, _, rfl, r, .inr hh⟩
  | _ => exact nomatch h
theorem pds_forN (i : Nat) {x : Str} {p : Pos} (hN : X.N[i]? = some x) (hv : Vis X.env.scope x) (hp : PassesOwn (model X.prog X.w) X.A X.env X.xe) (hc : X.calm = true) (hg : ∀ B, PDG X B tg G) (hb : ∀ B, PDB X B body F)
    (hd : (x == ("__debug__" : Str)) = false := by decide) (hcd : (x == ("__classdict__" : Str)) = false := by decide) (hs : ∀ y, foldedSetIterable (.Name x p) X.env y = pure y := by intro _; rfl) : PDS X B (.For tg (.Name x p) body [] pos) (sForN i G F) := by
  refine pds_forG hp hc (pi_D (pe_var hN hv hd hcd)) hg hb (fun E σ H R h k => ?_) hs
  obtain ⟨ρ, r, h⟩ := h
  unfold sForN look at h
  split at h
  · rename_i d0 hd0
    split at hd0
    · rename_i sv q
      have e := ok_inj hd0
      subst e
      split at h
      · rename_i ds hds
        obtain ⟨v, e1, e2⟩ := r.get q
        obtain ⟨a, vs, rfl, il, hq⟩ := iter_of e2 hds
        refine ⟨_, e1, ?_⟩
        have key : ∃ B' vs, Rel X.K B' (relAt i ρ) σ H ∧ Same B B' ∧ IsL X.K B' ds vs ∧ (SqL X.K B' a vs ∨ SqT X.K B' a vs) := by
          cases sv with
          | sh d =>
            obtain ⟨B', b1, b2, b3, b4, b5⟩ := r.base
            obtain ⟨v', f1, f2⟩ := b4 i d q
            rw [e1] at f1
            have := Option.some.inj (Option.some.inj f1); subst this
            obtain ⟨a', vs', ea, il', hq'⟩ := iter_of f2 hds
            cases ea
            have e : relAt i ρ = ρ := by unfold relAt; rw [q]
            exact ⟨B', vs', by rw [e]; exact b1, b2, il', hq'⟩
          | own ds' =>
            have e : relAt i ρ = free ρ := by unfold relAt; rw [q]
            exact ⟨H, vs, by rw [e]; exact r.baseAll, r.kept, il, hq⟩
          | oin a C dx fs =>
            have e : relAt i ρ = free ρ := by unfold relAt; rw [q]
            exact ⟨H, vs, by rw [e]; exact r.baseAll, r.kept, il, hq⟩
          | ow o =>
            have e : relAt i ρ = free ρ := by unfold relAt; rw [q]
            exact ⟨H, vs, by rw [e]; exact r.baseAll, r.kept, il, hq⟩
          | tk ks =>
            have e : relAt i ρ = free ρ := by unfold relAt; rw [q]
            exact ⟨H, vs, by rw [e]; exact r.baseAll, r.kept, il, hq⟩
        obtain ⟨B', vs', k1, k2, k3, k4⟩ := key
        rcases k4 with k4 | k4
        · exact .inl ⟨a, rfl, ⟨_, k1.kept.seq k4⟩, k _ H ds (relAt i ρ) ⟨B', itd_list k4 k3, k1, k2⟩ h⟩
        · exact .inr ⟨a, rfl, ⟨_, SqT.mono k1.kept k4⟩, k _ H ds (relAt i ρ) ⟨B', itd_tup k4 k3, k1, k2⟩ h⟩
      · exact False.elim h
    · exact nomatch hd0
  · exact False.elim h
/-- over any expression's list or tuple -/
noncomputable def sForE (f : Rho → M D) (G : D → Rho → Option Rho) (F : Rho → Option Out) : Rho → Option Out := fun ρ => lft (f ρ) ρ fun d => match itD d with
  | some (.ok ds) => loop G F ds (if d.imm = true then ρ else free ρ)
  | _ => none
theorem pds_forE {fa : Rho → M D} (hp : PassesOwn (model X.prog X.w) X.A X.env X.xe) (hc : X.calm = true) (he : PD X B iter fa) (hg : ∀ B, PDG X B tg G) (hb : ∀ B, PDB X B body F) (hs : ∀ y, foldedSetIterable iter X.env y = pure y := by intro _; rfl) : PDS X B (.For tg iter body [] pos) (sForE fa G F) := by
  refine pds_forG hp hc (pi_D he) hg hb (fun E σ H R h k => ?_) hs
  obtain ⟨ρ, r, h⟩ := h
  refine ⟨ρ, r, (lft_red r h).imp fun d h1 v H1 e1 i1 => ?_⟩
  split at h1
  · rename_i ds hds
    obtain ⟨a, vs, rfl, il, hq⟩ := iter_of i1 hds
    have r1 := r.mono e1
    have key : ∃ B' vs, Rel X.K B' (if d.imm = true then ρ else free ρ) σ H1 ∧ Same B B' ∧ IsL X.K B' ds vs ∧ (SqL X.K B' a vs ∨ SqT X.K B' a vs) := by
      by_cases q : d.imm = true
      · obtain ⟨B', b1, b2, b3, b4, b5⟩ := r1.base
        obtain ⟨a', vs', ea, il', hq'⟩ := iter_of (b5 d _ q i1) hds
        cases ea
        rw [if_pos q]
        exact ⟨B', vs', b1, b2, il', hq'⟩
      · rw [if_neg q]
        exact ⟨H1, vs, r1.baseAll, r1.kept, il, hq⟩
    obtain ⟨B', vs', k1, k2, k3, k4⟩ := key
    rcases k4 with k4 | k4
    · exact .inl ⟨a, rfl, ⟨_, k1.kept.seq k4⟩, k _ H1 ds _ ⟨B', itd_list k4 k3, k1, k2⟩ h1⟩
    · exact .inr ⟨a, rfl, ⟨_, SqT.mono k1.kept k4⟩, k _ H1 ds _ ⟨B', itd_tup k4 k3, k1, k2⟩ h1⟩
  · exact False.elim h1
/-- range(n), range(a, b) -/
noncomputable def sForR1 (f : Rho → M D) (G : D → Rho → Option Rho) (F : Rho → Option Out) : Rho → Option Out := fun ρ => lft (f ρ) ρ fun d => match d with
  | .int j => if j < 2 ^ 62 ∧ -(2 ^ 62) ≤ j then loop G F (rng 0 j.toNat) ρ else none
  | _ => none
theorem pds_forR1 {a : Expr} {fa : Rho → M D} {p p1 : Pos} (hgl : Gl X "range") (hm : X.mg "range" = none) (hp : PassesOwn (model X.prog X.w) X.A X.env X.xe) (hc : X.calm = true) (he : PD X B a fa) (hg : ∀ B, PDG X B tg G) (hb : ∀ B, PDB X B body F)
    (hst : starEach [a] X.env = [(false, eval a X.env)] := by exact star1 rfl) (hs : ∀ y, foldedSetIterable (.Call (.Name "range" p) [a] [] p1) X.env y = pure y := by intro _; rfl) : PDS X B (.For tg (.Call (.Name "range" p) [a] [] p1) body [] pos) (sForR1 fa G F) := by
  refine pds_forG hp hc (pi_range1 hgl hm (pa_cons he pa_nil hst) hst) hg hb (fun E σ H R h k => ?_) hs
  obtain ⟨ρ, r, h⟩ := h
  refine ⟨ρ, r, (lft_red r h).imp fun d h1 v H1 e1 i1 => ?_⟩
  cases i1 <;> first | exact False.elim h1 | skip
  rename_i j
  dsimp only at h1
  split at h1
  · rename_i hj
    obtain ⟨B', b1, b2, b3, b4, b5⟩ := (r.mono e1).base
    exact ⟨j, rfl, hj.2, hj.1, k _ H1 _ ρ ⟨B', itd_rng 0 j.toNat B', b1, b2⟩ h1⟩
  · exact False.elim h1
end
end L2.PU

namespace L2.PU
open PySem PySem.Spec PyProof.Rows

/-! ### self.f = value, while the instance is being made -/
noncomputable def putD (f : Str) (v : D) : List (Str × D) → List (Str × D)
  | [] => [(f, v)]
  | (g, x) :: r => if g = f then (g, v) :: r else (g, x) :: putD f v r
theorem isF_put {K : PySem.W.Frag} {H : Hp} {f : Str} {d : D} {v : V} (i : Is K H d v) : ∀ {fs : List (Str × D)} {vs : List (Str × V)}, IsF K H fs vs → IsF K H (putD f d fs) (putF f v vs)
  | _, _, .nil => .cons i .nil
  | _, _, .cons (x := g) h r => by
    unfold putD putF
    by_cases q : g = f
    · rw [if_pos q, if_pos q]; exact .cons i r
    · rw [if_neg q, if_neg q]; exact .cons h (isF_put i r)
section
variable {X : Cx} {B : Hp} {e : Expr} {fa : Rho → M D} {pos pos' p : Pos} {x f : Str}
theorem Rel.put {K : PySem.W.Frag} {B H : Hp} {ρ : Rho} {σ : St} {i : Nat} {a C dx : Addr} {fs : List (Str × D)} {d : D} {v : V} (O : Nat → Option Addr) (h1 : ∀ i j a, O i = some a → O j = some a → i = j) (ho : OwnK H O) (h2 : Same B (Off H O)) (hl : ρ.length = σ.length)
    (h3 : ∀ i sv, ρ[i]? = some (some sv) → Slot K H O σ i sv) (q : ρ[i]? = some (some (.oin a C dx fs))) (iv : Is K (Off H O) d v) {vs : List (Str × V)} (hv : H a = some (.ins C dx vs)) : Rel K B (ρ.set i (some (.oin a C dx (putD f d fs)))) σ (upd H a (.ins C dx (putF f v vs))) := by
  obtain ⟨z1, z2, z3, vs', z4, z5⟩ := h3 i _ q
  rw [hv] at z4
  cases z4
  have eo : Off (upd H a (.ins C dx (putF f v vs))) O = Off H O := Off.upd z1
  refine ⟨O, h1, fun j b qj => ?_, by rw [eo]; exact h2, by rw [List.length_set, hl], fun j sv qj => ?_⟩
  · by_cases e : b = a
    · subst e; exact ⟨_, upd_same, rfl⟩
    · obtain ⟨u, w, m⟩ := ho j b qj
      exact ⟨u, by rw [upd_ne e]; exact w, m⟩
  · by_cases e : j = i
    · subst e
      have hj : j < ρ.length := (List.getElem?_eq_some_iff.mp q).1
      rw [List.getElem?_set_self hj] at qj
      have q' := Option.some.inj (Option.some.inj qj)
      subst q'
      exact ⟨z1, z2, z3, _, upd_same, by rw [eo]; exact isF_put iv z5⟩
    · rw [List.getElem?_set_ne (Ne.symm e)] at qj
      have z := h3 j sv qj
      cases sv with
      | sh d' => obtain ⟨v', e1, e2⟩ := z; exact ⟨v', e1, by rw [eo]; exact e2⟩
      | own ds =>
        obtain ⟨b, ws, e1, e2, e3, e4⟩ := z
        have nb : b ≠ a := fun w => e (h1 j i a (by rw [← w]; exact e1) z1)
        exact ⟨b, ws, e1, e2, by rw [upd_ne nb]; exact e3, by rw [eo]; exact e4⟩
      | oin b C' dx' fs' =>
        obtain ⟨e1, e2, e3, ws, e4, e5⟩ := z
        have nb : b ≠ a := fun w => e (h1 j i a (by rw [← w]; exact e1) z1)
        exact ⟨e1, e2, e3, ws, by rw [upd_ne nb]; exact e4, by rw [eo]; exact e5⟩
      | ow o =>
        obtain ⟨b, u, e1, e2, e3, e4⟩ := z
        have nb : b ≠ a := fun w => e (h1 j i a (by rw [← w]; exact e1) z1)
        exact ⟨b, u, e1, e2, by rw [upd_ne nb]; exact e3, by rw [eo]; exact e4⟩
      | tk ks => obtain ⟨b, e1, e2⟩ := z; exact ⟨b, e1, by rw [eo]; exact e2⟩
noncomputable def putAt (cs : Addr → Bool) (i : Nat) (f : Str) (d : D) (ρ : Rho) : Option Out := match ρ[i]? with
  | some (some (.oin a C dx fs)) => if cs C = true ∧ fs.length < 1000 then some (.nx (ρ.set i (some (.oin a C dx (putD f d fs))))) else none
  | _ => none
noncomputable def sFldI (cs : Addr → Bool) (i : Nat) (f : Str) (fa : Rho → M D) : Rho → Option Out := fun ρ => lft (fa ρ) ρ fun d => if d.imm = true then putAt cs i f d ρ else none
theorem pds_fldI {cs : Addr → Bool} {i : Nat} (hC : ∀ C, cs C = true → Cls X.K C ∧ NoAttr X.K C f) (hN : X.N[i]? = some x) (hv : Vis X.env.scope x) (he : PD X B e fa) (hs : swapsWith e (some (.Attribute (.Name x p) f pos')) pos.line X.env = pure false := by rfl)
    (hd : (x == ("__debug__" : Str)) = false := by decide) (hcd : (x == ("__classdict__" : Str)) = false := by decide) : PDS X B (.Assign [.Attribute (.Name x p) f pos'] e pos) (sFldI cs i f fa) := by
  refine PS.of (ps_fld (pe_var hN hv hd hcd) he hs) fun E σ H h => ?_
  obtain ⟨ρ, r, h⟩ := h
  refine ⟨ρ, r, (lft_red r h).imp fun d h1 v H1 e1 i1 => ?_⟩
  split at h1
  · rename_i hm
    unfold putAt at h1
    split at h1
    · rename_i a C dx fs q
      split at h1
      · rename_i hc
        obtain ⟨O, g1, go, g2, gl, g3⟩ := r.mono e1
        obtain ⟨z1, z2, z3, vs, z4, z5⟩ := g3 i _ q
        exact ⟨_, z2, a, C, dx, vs, rfl, z4, (hC C hc.1).1, (hC C hc.1).2, by rw [← z5.length]; exact hc.2, h1 σ _ (Rel.put O g1 go g2 gl g3 q (off_imm go hm i1) z4)⟩
      · exact False.elim h1
    · exact False.elim h1
  · exact False.elim h1
noncomputable def sFldN (cs : Addr → Bool) (i : Nat) (f : Str) (j : Nat) : Rho → Option Out := fun ρ => match ρ[j]? with
  | some (some (.sh d)) => putAt cs i f d ρ
  | _ => none
theorem pds_fldN {cs : Addr → Bool} {i j : Nat} {y : Str} {p2 : Pos} (hC : ∀ C, cs C = true → Cls X.K C ∧ NoAttr X.K C f) (hN : X.N[i]? = some x) (hv : Vis X.env.scope x) (hN2 : X.N[j]? = some y) (hv2 : Vis X.env.scope y) (hs : swapsWith (.Name y p2) (some (.Attribute (.Name x p) f pos')) pos.line X.env = pure false := by rfl)
    (hd : (x == ("__debug__" : Str)) = false := by decide) (hcd : (x == ("__classdict__" : Str)) = false := by decide) (hd2 : (y == ("__debug__" : Str)) = false := by decide) (hcd2 : (y == ("__classdict__" : Str)) = false := by decide) : PDS X B (.Assign [.Attribute (.Name x p) f pos'] (.Name y p2) pos) (sFldN cs i f j) := by
  refine PS.of (ps_fld (pe_var hN hv hd hcd) (pe_var hN2 hv2 hd2 hcd2) hs) fun E σ H h => ?_
  obtain ⟨ρ, r, h⟩ := h
  unfold sFldN at h
  split at h
  · rename_i d qd
    unfold putAt at h
    split at h
    · rename_i a C dx fs q
      split at h
      · rename_i hc
        obtain ⟨O, g1, go, g2, gl, g3⟩ := r
        obtain ⟨v, y1, y2⟩ := g3 j _ qd
        obtain ⟨z1, z2, z3, vs, z4, z5⟩ := g3 i _ q
        exact ⟨v, y1, _, z2, a, C, dx, vs, rfl, z4, (hC C hc.1).1, (hC C hc.1).2, by rw [← z5.length]; exact hc.2, h σ _ (Rel.put O g1 go g2 gl g3 q y2 z4)⟩
      · exact False.elim h
    · exact False.elim h
  · exact False.elim h
end

/-! ### a def by its body (no exception leaves it) -/
noncomputable def rho0 (N : List Str) (ds : List D) : Rho := ds.map (fun d => some (.sh d)) ++ List.replicate (N.length - ds.length) none
noncomputable def fnRes : Option Out → M D
  | some (.rt d) => ok d
  | some (.nx _) => ok .non
  | some (.ex c _) => err c
  | _ => none
theorem get_append_map {α β : Type} {f : α → β} : ∀ {l : List α} {r : List β} {i : Nat} {b : β}, (l.map f ++ r)[i]? = some b → (∃ a, l[i]? = some a ∧ b = f a) ∨ (l.length ≤ i ∧ r[i - l.length]? = some b)
  | l, r, i, b, h => by
    by_cases q : i < l.length
    · rw [List.getElem?_append_left (by simpa using q), List.getElem?_map] at h
      obtain ⟨a, e1, e2⟩ := Option.map_eq_some_iff.mp h
      exact .inl ⟨a, e1, e2.symm⟩
    · rw [List.getElem?_append_right (by simpa using q), List.length_map] at h
      exact .inr ⟨by omega, h⟩
theorem start_get {N : List Str} {vs : List V} {i : Nat} {v : V} (h : vs[i]? = some v) : (start N vs)[i]? = some (some v) := by
  unfold start
  have q : i < vs.length := (List.getElem?_eq_some_iff.mp h).1
  rw [List.getElem?_append_left (by simpa using q), List.getElem?_map, h]; rfl
theorem start_length {N : List Str} {vs : List V} (h : vs.length ≤ N.length) : (start N vs).length = N.length := by
  unfold start; rw [List.length_append, List.length_map, List.length_replicate]; omega
theorem rho0_length {N : List Str} {ds : List D} (h : ds.length ≤ N.length) : (rho0 N ds).length = N.length := by
  unfold rho0; rw [List.length_append, List.length_map, List.length_replicate]; omega
theorem rel_start {K : PySem.W.Frag} {H : Hp} {N : List Str} {ds : List D} {vs : List V} (i : IsL K H ds vs) (hl : ds.length ≤ N.length) : Rel K H (rho0 N ds) (start N vs) H := by
  have e0 : Off H (fun _ => none) = H := by funext b; unfold Off; rw [if_neg (fun ⟨i, e⟩ => nomatch e)]
  refine ⟨fun _ => none, (by intro _ _ _ q; cases q), (by intro _ _ q; cases q), by rw [e0]; exact Same.refl _, by rw [rho0_length hl, start_length (by rw [← i.length]; exact hl)], fun j sv q => ?_⟩
  unfold rho0 at q
  rcases get_append_map q with ⟨d, e1, e2⟩ | ⟨_, e2⟩
  · cases e2
    obtain ⟨v, h1, h2⟩ := i.get e1
    exact ⟨v, start_get h1, by rw [e0]; exact h2⟩
  · rw [List.getElem?_replicate] at e2
    split at e2 <;> cases e2
section
variable {P : Program} {w : World} {K : PySem.W.Frag} {mg : Str → Option Value} {base : Heap}
noncomputable abbrev cxN (P : Program) (w : World) (K : PySem.W.Frag) (mg : Str → Option Value) (base : Heap) (N : List Str) (qual : Str) (scope : Scope) (f : Addr) (cd : Value) (A : Around) (outer : List Env) (s : Shared) (H : Hp) (E : XK) : Cx :=
  (cxOf (CXD P w) P w K mg base N qual scope f cd A outer s H E).nox
theorem fn_D {x qual : Str} {st : Stmt} {f : Addr} {fd : FuncData} {N ps : List Str} {k : Nat} {F : List D → M D} (Fu : Fun K x qual st f fd) (S : FnScope N ps (defScope st)) (hL : ∀ ds r, F ds = some r → ds.length = ps.length)
    (hbody : ∀ (cdv : Value) (A : Around) (outer : List Env) (s : Shared) (H : Hp) (E : XK), Room k (A.deeper (envOfC qual (defScope st) s.heap.objs.size f cdv)) →
      ∃ F', (∀ B, PDB (cxN P w K mg base N qual (defScope st) f cdv A outer s H E) B (defBody st) F') ∧ ∀ ds r, F ds = some r → ∃ d, r = .ok d ∧ fnRes (F' (rho0 N ds)) = ok d) : FnD P w K mg base (k + 1) f fd ps F := by
  obtain ⟨oc, od, kV, doc, pm, an, cdv, ct, osl, rfl, lk, hcd⟩ := Fu.ex
  refine fn_of lk hcd S (fun vs H Q E ⟨ds, i, hl, _⟩ => hl) fun A outer s H vs Q E hr hsp => ?_
  obtain ⟨F', hF, hq⟩ := hbody cdv A outer s H E hr
  refine ⟨_, (hF H).nox, ?_⟩
  obtain ⟨ds, i, hl, h⟩ := hsp
  have hn : ps.length ≤ N.length := by have := congrArg List.length S.pre; rw [List.length_take] at this; omega
  cases q : F ds with
  | none => rw [q] at h; exact False.elim h
  | some r =>
    rw [q] at h
    obtain ⟨d, rfl, e⟩ := hq ds r q
    refine ⟨rho0 N ds, rel_start i (by rw [i.length, hl]; exact hn), ?_⟩
    cases qf : F' (rho0 N ds) with
    | none => rw [qf] at e; cases e
    | some o =>
      rw [qf] at e
      cases o with
      | rt d' => have := ok_inj e; subst this; exact fun v H' s' i' => h v H' s' i'
      | nx ρ => have := ok_inj e; subst this; exact fun σ' H' r' => h _ H' r'.kept .non
      | bk ρ => cases e
      | ct ρ => cases e
      | ex c ρ => cases e
/-- __init__: the first slot is the instance -/
noncomputable def rhoI (N : List Str) (a C dx : Addr) (ds : List D) : Rho := some (.oin a C dx []) :: (ds.map (fun d => some (.sh d)) ++ List.replicate (N.length - (ds.length + 1)) none)
theorem rel_startI {H : Hp} {N : List Str} {a C dx : Addr} {ds : List D} {vs : List V} (ha : H a = some (.ins C dx [])) (hd : dx ≠ a) (i : IsL K (hid H a) ds vs) (hl : ds.length + 1 ≤ N.length) : Rel K (hid H a) (rhoI N a C dx ds) (start N (.ref a :: vs)) H := by
  have e0 : Off H (fun j => if j = 0 then some a else none) = hid H a := by
    funext b; unfold Off hid
    by_cases q : b = a
    · rw [if_pos q, if_pos ⟨0, by simp [q]⟩]
    · rw [if_neg q, if_neg]
      rintro ⟨j, e⟩
      dsimp only at e
      split at e
      · cases e; exact q rfl
      · cases e
  refine ⟨fun j => if j = 0 then some a else none, fun j k b q1 q2 => ?_, fun j b q => ?_, by rw [e0]; exact Same.refl _, ?_, fun j sv q => ?_⟩
  · by_cases z1 : j = 0
    · by_cases z2 : k = 0
      · omega
      · simp [z2] at q2
    · simp [z1] at q1
  · by_cases z1 : j = 0
    · simp [z1] at q; subst q; exact ⟨_, ha, rfl⟩
    · simp [z1] at q
  · rw [start_length (by rw [List.length_cons, ← i.length]; exact hl)]
    unfold rhoI
    rw [List.length_cons, List.length_append, List.length_map, List.length_replicate]
    omega
  · cases j with
    | zero =>
      unfold rhoI at q
      cases q
      exact ⟨rfl, start_get rfl, hd, [], ha, .nil⟩
    | succ j =>
      unfold rhoI at q
      rw [List.getElem?_cons_succ] at q
      rcases get_append_map q with ⟨d, e1, e2⟩ | ⟨_, e2⟩
      · cases e2
        obtain ⟨v, h1, h2⟩ := i.get e1
        exact ⟨v, start_get (by rw [List.getElem?_cons_succ]; exact h1), by rw [e0]; exact h2⟩
      · rw [List.getElem?_replicate] at e2
        split at e2 <;> cases e2
noncomputable def iniRes (a C dx : Addr) : Option Out → M (List (Str × D))
  | some (.nx (some (.oin a' C' dx' fs) :: _)) => if a' = a ∧ C' = C ∧ dx' = dx then ok fs else none
  | _ => none
theorem init_D {x qual : Str} {st : Stmt} {f C : Addr} {fd : FuncData} {N ps : List Str} {k : Nat} {F : List D → M (List (Str × D))} (Fu : Fun K x qual st f fd) (S : FnScope N ps (defScope st)) (hL : ∀ ds r, F ds = some r → ds.length + 1 = ps.length)
    (hbody : ∀ (cdv : Value) (A : Around) (outer : List Env) (s : Shared) (H : Hp) (E : XK), Room k (A.deeper (envOfC qual (defScope st) s.heap.objs.size f cdv)) →
      ∃ F', (∀ B, PDB (cxN P w K mg base N qual (defScope st) f cdv A outer s H E) B (defBody st) F') ∧ ∀ ds r a dx, F ds = some r → ∃ fs, r = .ok fs ∧ iniRes a C dx (F' (rhoI N a C dx ds)) = ok fs) : FnOk P w K mg base (CXD P w) (k + 1) f fd ps (spI K C ps.length F) := by
  obtain ⟨oc, od, kV, doc, pm, an, cdv, ct, osl, rfl, lk, hcd⟩ := Fu.ex
  refine fn_of lk hcd S (fun vs H Q E hz => by obtain ⟨a, dx, ws, ds, _, _, _, _, hl, _⟩ := hz; exact hl) fun A outer s H vs Q E hr hsp => ?_
  obtain ⟨F', hF, hq⟩ := hbody cdv A outer s H E hr
  obtain ⟨a, dx, ws, ds, rfl, ha, hd, i, hl, h⟩ := hsp
  refine ⟨_, (hF (hid H a)).nox, ?_⟩
  have hn : ps.length ≤ N.length := by have := congrArg List.length S.pre; rw [List.length_take] at this; omega
  cases q : F ds with
  | none => rw [q] at h; exact False.elim h
  | some r =>
    rw [q] at h
    obtain ⟨fs, rfl, e⟩ := hq ds r a dx q
    refine ⟨rhoI N a C dx ds, rel_startI ha hd i (by rw [i.length]; rw [List.length_cons] at hl; omega), ?_⟩
    unfold iniRes at e
    split at e
    · rename_i a' C' dx' fs' rest qf
      split at e
      · rename_i hh
        obtain ⟨rfl, rfl, rfl⟩ := hh
        have := ok_inj e; subst this
        rw [qf]
        intro σ' H' r'
        obtain ⟨O, g1, go, g2, gl, g3⟩ := r'
        obtain ⟨z1, z2, z3, vs', z4, z5⟩ := g3 0 _ rfl
        exact h H' vs' z4 (z5.mono (Off.same _ _)) (g2.trans (Off.same _ _))
      · cases e
    · cases e
end
end L2.PU

namespace L2.PU
open PySem PySem.Spec PyProof.Rows

/-! ### running a denotation -/
theorem sSeq_nx {F G : Rho → Option Out} {ρ ρ' : Rho} (h : F ρ = some (.nx ρ')) : sSeq F G ρ = G ρ' := by unfold sSeq; rw [h]
theorem sSeq_rt {F G : Rho → Option Out} {ρ : Rho} {d : D} (h : F ρ = some (.rt d)) : sSeq F G ρ = some (.rt d) := by unfold sSeq; rw [h]
theorem sIf_t {t : Rho → M Bool} {F G : Rho → Option Out} {ρ : Rho} (h : t ρ = ok true) : sIf t F G ρ = F ρ := by unfold sIf; rw [h]; rfl
theorem sIf_f {t : Rho → M Bool} {F G : Rho → Option Out} {ρ : Rho} (h : t ρ = ok false) : sIf t F G ρ = G ρ := by unfold sIf; rw [h]; rfl
theorem sRet_ok {f : Rho → M D} {ρ : Rho} {d : D} (h : f ρ = ok d) : sRet f ρ = some (.rt d) := by unfold sRet; rw [h]; rfl
theorem sSet_ok {i : Nat} {f : Rho → M D} {ρ : Rho} {d : D} (h : f ρ = ok d) : sSet i f ρ = some (.nx (setV i d ρ)) := by unfold sSet; rw [h]; rfl
theorem setV_imm {i : Nat} {d : D} {ρ : Rho} (h : d.imm = true) : setV i d ρ = ρ.set i (some (.sh d)) := by unfold setV; rw [if_pos h]
theorem sForR1_ok {f : Rho → M D} {G : D → Rho → Option Rho} {F : Rho → Option Out} {ρ : Rho} {j : Int} (h : f ρ = ok (.int j)) (h1 : j < 2 ^ 62) (h2 : -(2 ^ 62) ≤ j) : sForR1 f G F ρ = loop G F (rng 0 j.toNat) ρ := by
  unfold sForR1
  rw [h, lft_ok]
  dsimp only
  rw [if_pos ⟨h1, h2⟩]
theorem sForE_ok {f : Rho → M D} {G : D → Rho → Option Rho} {F : Rho → Option Out} {ρ : Rho} {d : D} {ds : List D} (h : f ρ = ok d) (h1 : itD d = ok ds) : sForE f G F ρ = loop G F ds (if d.imm = true then ρ else free ρ) := by
  unfold sForE
  rw [h, lft_ok, h1]
  rfl
theorem loop_inv {G : D → Rho → Option Rho} {F : Rho → Option Out} (P : List D → Rho → Prop) : ∀ (ds pre : List D) (ρ : Rho), P pre ρ →
    (∀ p d q ρ, pre ++ ds = p ++ d :: q → P p ρ → ∃ ρ1 ρ2, G d ρ = some ρ1 ∧ (F ρ1 = some (.nx ρ2) ∨ F ρ1 = some (.ct ρ2)) ∧ P (p ++ [d]) ρ2) → ∃ ρ', loop G F ds ρ = some (.nx ρ') ∧ P (pre ++ ds) ρ'
  | [], pre, ρ, h, _ => ⟨ρ, rfl, by rw [List.append_nil]; exact h⟩
  | d :: ds, pre, ρ, h, st => by
    obtain ⟨ρ1, ρ2, h1, h2, h3⟩ := st pre d ds ρ rfl h
    obtain ⟨ρ', h4, h5⟩ := loop_inv P ds (pre ++ [d]) ρ2 h3 (fun p d' q ρ e hp => st p d' q ρ (by rw [← e, List.append_assoc]; rfl) hp)
    refine ⟨ρ', ?_, by rw [List.append_assoc] at h5; exact h5⟩
    unfold loop
    rw [h1]
    dsimp only
    rcases h2 with h2 | h2 <;> rw [h2] <;> exact h4
theorem loop_inv0 {G : D → Rho → Option Rho} {F : Rho → Option Out} (P : List D → Rho → Prop) (ds : List D) (ρ : Rho) (h : P [] ρ)
    (st : ∀ p d q ρ, ds = p ++ d :: q → P p ρ → ∃ ρ1 ρ2, G d ρ = some ρ1 ∧ (F ρ1 = some (.nx ρ2) ∨ F ρ1 = some (.ct ρ2)) ∧ P (p ++ [d]) ρ2) : ∃ ρ', loop G F ds ρ = some (.nx ρ') ∧ P ds ρ' := by
  have := loop_inv P ds [] ρ h (fun p d q ρ e => st p d q ρ (by simpa using e))
  simpa using this

/-! ### depth, plainness -/
mutual
noncomputable def D.dep : D → Nat
  | .tup ds => depL ds + 1
  | .lst ds => depL ds + 1
  | _ => 0
noncomputable def depL : List D → Nat
  | [] => 0
  | d :: ds => max d.dep (depL ds)
end
mutual
noncomputable def D.pl : D → Bool
  | .tup ds => decide (ds.length ≤ 100000) && plL ds
  | .lst ds => decide (ds.length ≤ 100000) && plL ds
  | .obj _ _ => false
  | .dk _ => false
  | .dt _ => false
  | .exc _ => false
  | .set _ => false
  | _ => true
noncomputable def plL : List D → Bool
  | [] => true
  | d :: ds => d.pl && plL ds
end
theorem dep_at : ∀ {ds : List D} {i : Nat} {d : D}, ds[i]? = some d → d.dep ≤ depL ds
  | [], _, _, h => by simp at h
  | x :: ds, 0, d, h => by simp at h; subst h; unfold depL; omega
  | x :: ds, i + 1, d, h => by have := dep_at (ds := ds) (i := i) (d := d) (by simpa using h); unfold depL; omega
theorem pl_at : ∀ {ds : List D} {i : Nat} {d : D}, plL ds = true → ds[i]? = some d → d.pl = true
  | [], _, _, _, h => by simp at h
  | x :: ds, 0, d, q, h => by simp at h; subst h; unfold plL at q; rw [Bool.and_eq_true] at q; exact q.1
  | x :: ds, i + 1, d, q, h => by unfold plL at q; rw [Bool.and_eq_true] at q; exact pl_at (ds := ds) (i := i) q.2 (by simpa using h)

/-! ### the laws' own comparison: of a thing with itself -/
noncomputable def denSame (F : List D → M D) : Rho → Option Out :=
    (sSeq (sIf (orB (testB (b2 gNe (isi "tuple" (look 1)) (isi "tuple" (look 0)))) (testB (b2 gNe (isi "list" (look 1)) (isi "list" (look 0))))) (sSeq (sRet (con (.bl false)))
    sNil) sNil)
    (sSeq (sIf (test (isi2 ["tuple", "list"] (look 1))) (sSeq (sIf (testB (b2 gNe (f1 lenD (look 0)) (f1 lenD (look 1)))) (sSeq (sRet (con (.bl false)))
    sNil) sNil)
    (sSeq (sForR1 (f1 lenD (look 1)) (gN 2) (sSeq (sIf (notB (test (app F (aCons (b2 gIx (look 0) (look 2)) (aCons (b2 gIx (look 1) (look 2)) aNil))))) (sSeq (sRet (con (.bl false)))
    sNil) sNil)
    sNil))
    (sSeq (sRet (con (.bl true)))
    sNil))) sNil)
    (sSeq (sIf (testB (b2 gIs (look 1) (con .non))) (sSeq (sRet (b2 gIs (look 0) (con .non)))
    sNil) sNil)
    (sSeq (sIf (orB (testB (b2 gNe (isi "bool" (look 1)) (isi "bool" (look 0)))) (testB (b2 gNe (isi "str" (look 1)) (isi "str" (look 0))))) (sSeq (sRet (con (.bl false)))
    sNil) sNil)
    (sSeq (sRet (andV (b2 gEq (isi "int" (look 1)) (isi "int" (look 0))) (b2 gEq (look 0) (look 1))))
    sNil)))))
open Classical in
noncomputable def fSame (k : Nat) : List D → M D
  | [x, y] => if x = y ∧ x.pl = true ∧ x.dep < k then ok (.bl true) else none
  | _ => none
theorem fSame_len (k : Nat) : ∀ ds r, fSame k ds = some r → ds.length = 2 := by
  intro ds r h
  unfold fSame at h
  split at h
  · rfl
  · cases h
open Classical in
theorem fSame_self {k : Nat} {x : D} (h1 : x.pl = true) (h2 : x.dep < k) : fSame k [x, x] = ok (.bl true) := by
  show (if x = x ∧ x.pl = true ∧ x.dep < k then ok (D.bl true) else none) = _
  rw [if_pos ⟨rfl, h1, h2⟩]
theorem fSame_zero (ds : List D) : fSame 0 ds = none := by
  unfold fSame
  split
  · rw [if_neg]; rintro ⟨_, _, h⟩; omega
  · rfl
/-- the loop over the places of a sequence -/
theorem same_loop {k : Nat} {x : D} {xs : List D} (hx : x = .tup xs ∨ x = .lst xs) (hp : plL xs = true) (hd : depL xs < k) (o : Option SV) :
    ∃ o', loop (gN 2) (sSeq (sIf (notB (test (app (fSame k) (aCons (b2 gIx (look 0) (look 2)) (aCons (b2 gIx (look 1) (look 2)) aNil))))) (sSeq (sRet (con (.bl false))) sNil) sNil) sNil) (rng 0 xs.length) [some (.sh x), some (.sh x), o] = some (.nx [some (.sh x), some (.sh x), o']) := by
  obtain ⟨ρ', h1, o', h2⟩ := loop_inv0 (G := gN 2) (F := sSeq (sIf (notB (test (app (fSame k) (aCons (b2 gIx (look 0) (look 2)) (aCons (b2 gIx (look 1) (look 2)) aNil))))) (sSeq (sRet (con (.bl false))) sNil) sNil) sNil)
    (fun _ ρ => ∃ o', ρ = [some (.sh x), some (.sh x), o']) (rng 0 xs.length) [some (.sh x), some (.sh x), o] ⟨o, rfl⟩ (fun p d q ρ e ⟨o1, eρ⟩ => by
      subst eρ
      have hm : d ∈ rng 0 xs.length := by rw [e]; simp
      unfold rng at hm
      obtain ⟨j, hj, rfl⟩ := List.mem_map.mp hm
      rw [List.mem_range] at hj
      have hz : xs[j]? = some xs[j] := List.getElem?_eq_getElem hj
      have ha : atI xs (0 + (j : Int)) = some xs[j] := by rw [Int.zero_add]; exact atI_nat hz
      have g1 : gIx x (.int (0 + (j : Int))) = ok xs[j] := by
        rcases hx with rfl | rfl
        · show (match atI xs (0 + (j : Int)) with | some d => ok d | none => none) = _; rw [ha]
        · show (match atI xs (0 + (j : Int)) with | some d => ok d | none => none) = _; rw [ha]
      have f1 : fSame k [xs[j], xs[j]] = ok (.bl true) := fSame_self (pl_at hp hz) (Nat.lt_of_le_of_lt (dep_at hz) hd)
      refine ⟨[some (.sh x), some (.sh x), some (.sh (.int (0 + (j : Int))))], [some (.sh x), some (.sh x), some (.sh (.int (0 + (j : Int))))], rfl, .inl ?_, _, rfl⟩
      have e1 : app (fSame k) (aCons (b2 gIx (look 0) (look 2)) (aCons (b2 gIx (look 1) (look 2)) aNil)) [some (.sh x), some (.sh x), some (.sh (.int (0 + (j : Int))))] = ok (.bl true) := by
        show bnd (bnd (gIx x (.int (0 + (j : Int)))) fun a => bnd (bnd (bnd (ok x) fun x' => bnd (ok (.int (0 + (j : Int)))) fun y => gIx x' y) fun b => bnd (ok []) fun r => ok (b :: r)) fun r => ok (a :: r)) (fSame k) = _
        rw [g1]
        show bnd (bnd (bnd (gIx x (.int (0 + (j : Int)))) fun b => ok [b]) fun r => ok (xs[j] :: r)) (fSame k) = _
        rw [g1]
        exact f1
      show sSeq (sIf (notB (test _)) _ _) _ _ = _
      unfold sSeq sIf notB test
      rw [e1]
      rfl)
  exact ⟨o', by rw [h1, h2]⟩
theorem same_seq {k : Nat} {x : D} {xs : List D} (hx : x = .tup xs ∨ x = .lst xs) (hl : xs.length ≤ 100000) (hp : plL xs = true) (hd : depL xs < k) : fnRes (denSame (fSame k) [some (.sh x), some (.sh x), none]) = ok (.bl true) := by
  obtain ⟨o', h⟩ := same_loop hx hp hd none
  have hj : ((xs.length : Nat) : Int) < 2 ^ 62 ∧ -(2 ^ 62) ≤ ((xs.length : Nat) : Int) := by omega
  have e : sForR1 (f1 lenD (look 1)) (gN 2) (sSeq (sIf (notB (test (app (fSame k) (aCons (b2 gIx (look 0) (look 2)) (aCons (b2 gIx (look 1) (look 2)) aNil))))) (sSeq (sRet (con (.bl false))) sNil) sNil) sNil) [some (.sh x), some (.sh x), none] = some (.nx [some (.sh x), some (.sh x), o']) := by
    have e1 : f1 lenD (look 1) [some (.sh x), some (.sh x), none] = ok (.int xs.length) := by rcases hx with rfl | rfl <;> rfl
    rw [sForR1_ok e1 hj.1 hj.2, Int.toNat_natCast]
    exact h
  have d1 : sIf (orB (testB (b2 gNe (isi "tuple" (look 1)) (isi "tuple" (look 0)))) (testB (b2 gNe (isi "list" (look 1)) (isi "list" (look 0))))) (sSeq (sRet (con (.bl false))) sNil) sNil [some (.sh x), some (.sh x), none] = some (.nx [some (.sh x), some (.sh x), none]) := by
    rcases hx with rfl | rfl <;> rfl
  have d3 : sIf (testB (b2 gNe (f1 lenD (look 0)) (f1 lenD (look 1)))) (sSeq (sRet (con (.bl false))) sNil) sNil [some (.sh x), some (.sh x), none] = some (.nx [some (.sh x), some (.sh x), none]) := by
    rcases hx with rfl | rfl <;> simp [sIf, testB, b2, f1, lenD, look, gNe, eqF, bnd, ok, lft, blOf, SV.cur, sNil]
  have d4 : test (isi2 ["tuple", "list"] (look 1)) [some (.sh x), some (.sh x), none] = ok true := by rcases hx with rfl | rfl <;> rfl
  unfold denSame
  rw [sSeq_nx d1]
  have d5 : ∀ G, sSeq (sIf (test (isi2 ["tuple", "list"] (look 1))) (sSeq (sIf (testB (b2 gNe (f1 lenD (look 0)) (f1 lenD (look 1)))) (sSeq (sRet (con (.bl false))) sNil) sNil) (sSeq (sForR1 (f1 lenD (look 1)) (gN 2) (sSeq (sIf (notB (test (app (fSame k) (aCons (b2 gIx (look 0) (look 2)) (aCons (b2 gIx (look 1) (look 2)) aNil))))) (sSeq (sRet (con (.bl false))) sNil) sNil) sNil)) (sSeq (sRet (con (.bl true))) sNil))) sNil) G [some (.sh x), some (.sh x), none] = some (.rt (.bl true)) := by
    intro G
    apply sSeq_rt
    rw [sIf_t d4, sSeq_nx d3, sSeq_nx e]
    rfl
  rw [d5]
  rfl
theorem same_den {k : Nat} (N : List Str) (hN : N.length = 3) : ∀ ds r, fSame (k + 1) ds = some r → ∃ d, r = .ok d ∧ fnRes (denSame (fSame k) (rho0 N ds)) = ok d := by
  intro ds r h
  unfold fSame at h
  split at h
  · rename_i x y
    split at h
    · rename_i hh
      obtain ⟨rfl, hp, hd⟩ := hh
      have e := Option.some.inj h
      subst e
      refine ⟨.bl true, rfl, ?_⟩
      have e0 : rho0 N [x, x] = [some (.sh x), some (.sh x), none] := by unfold rho0; rw [hN]; rfl
      rw [e0]
      cases x with
      | non => rfl
      | bl b => cases b <;> rfl
      | int i =>
        simp [denSame, sSeq, sIf, sRet, testB, b2, gNe, gIs, gEq, eqF, isi, isi2, look, lft, bnd, orB, andV, blOf, test, tru, tyN, isB, kitL, fnRes, SV.cur, ok, con, isNon, sNil]
      | str i =>
        simp [denSame, sSeq, sIf, sRet, testB, b2, gNe, gIs, gEq, eqF, isi, isi2, look, lft, bnd, orB, andV, blOf, test, tru, tyN, isB, kitL, fnRes, SV.cur, ok, con, isNon, sNil]
      | obj C fs => simp [D.pl] at hp
      | dk kvs => simp [D.pl] at hp
      | dt kvs => simp [D.pl] at hp
      | exc C => simp [D.pl] at hp
      | set ss => simp [D.pl] at hp
      | tup xs =>
        simp only [D.pl, Bool.and_eq_true, decide_eq_true_eq] at hp
        exact same_seq (.inl rfl) hp.1 hp.2 (by simp only [D.dep] at hd; omega)
      | lst xs =>
        simp only [D.pl, Bool.and_eq_true, decide_eq_true_eq] at hp
        exact same_seq (.inr rfl) hp.1 hp.2 (by simp only [D.dep] at hd; omega)
    · cases h
  · cases h
end L2.PU
namespace L2.PU
open PySem PySem.Spec PyProof.Rows
open Classical in
/-- a def that gives True wherever S holds (elsewhere nothing is said) -/
noncomputable def tt (S : List D → Prop) : List D → M D := fun ds => if S ds then ok (.bl true) else none
theorem tt_ok {S : List D → Prop} {ds : List D} (h : S ds) : tt S ds = ok (.bl true) := by unfold tt; rw [if_pos h]
theorem tt_inv {S : List D → Prop} {ds : List D} {r : Except Addr D} (h : tt S ds = some r) : S ds ∧ r = .ok (.bl true) := by
  unfold tt at h
  split at h
  · rename_i q; exact ⟨q, (Option.some.inj h).symm⟩
  · cases h
theorem intBits_le {a : Int} {k : Nat} (h : a.natAbs < 2 ^ k) : Builtin.Int.intBits a ≤ k := by
  unfold Builtin.Int.intBits
  split
  · exact Nat.zero_le _
  · rename_i q
    have hz : a.natAbs ≠ 0 := by intro z; apply q; simp_all
    have := (Nat.log2_lt hz).mpr h
    omega
theorem mulB_of {i j : Int} (hi : i.natAbs < 2 ^ 1048576) (hj : j.natAbs < 2 ^ 1048576) : mulB i j = true := by
  unfold mulB
  rw [Bool.and_eq_true]
  exact ⟨decide_eq_true (intBits_le hi), decide_eq_true (intBits_le hj)⟩
theorem pow_line {n m k : Nat} (h : n < 2 ^ m) (q : m ≤ k) : n < 2 ^ k := Nat.lt_of_lt_of_le h (Nat.pow_le_pow_right (by decide) q)
/-- _law_at(script, k) -/
noncomputable def fAt : List D → M D
  | [.lst xs, .int k] => if 0 ≤ k then (if k < xs.length then (match xs[k.toNat]? with | some d => ok d | none => none) else ok (.int 0)) else none
  | _ => none
theorem fAt_len : ∀ ds r, fAt ds = some r → ds.length = 2 := by
  intro ds r h
  unfold fAt at h
  split at h
  · rfl
  · cases h
noncomputable def atZ (ns : List Int) (k : Nat) : Int := ns.getD k 0
theorem fAt_ints (ns : List Int) (k : Nat) : fAt [.lst (ns.map D.int), .int k] = ok (.int (atZ ns k)) := by
  show (if 0 ≤ (k : Int) then (if (k : Int) < (ns.map D.int).length then (match (ns.map D.int)[((k : Int)).toNat]? with | some d => ok d | none => none) else ok (.int 0)) else none) = _
  rw [if_pos (by omega), Int.toNat_natCast, List.length_map]
  unfold atZ
  by_cases h : k < ns.length
  · rw [if_pos (by omega), List.getElem?_map, List.getElem?_eq_getElem h]
    simp [List.getD_eq_getElem?_getD, List.getElem?_eq_getElem h]
  · rw [if_neg (by omega)]
    simp [List.getD_eq_getElem?_getD, List.getElem?_eq_none (Nat.le_of_not_lt h)]
noncomputable def denAt : Rho → Option Out :=
    (sSeq (sIf (testB (b2 gLt (look 1) (f1 lenD (look 0)))) (sSeq (sRet (b2 gIx (look 0) (look 1)))
    sNil) sNil)
    (sSeq (sRet (con (.int 0)))
    sNil))
theorem at_den (N : List Str) (hN : N.length = 2) : ∀ ds r, fAt ds = some r → ∃ d, r = .ok d ∧ fnRes (denAt (rho0 N ds)) = ok d := by
  intro ds r h
  unfold fAt at h
  split at h
  · rename_i xs k
    have e0 : rho0 N [.lst xs, .int k] = [some (.sh (.lst xs)), some (.sh (.int k))] := by unfold rho0; rw [hN]; rfl
    rw [e0]
    split at h
    · rename_i h0
      split at h
      · rename_i hk
        split at h
        · rename_i d hd
          cases h
          refine ⟨d, rfl, ?_⟩
          have t1 : testB (b2 gLt (look 1) (f1 lenD (look 0))) [some (.sh (.lst xs)), some (.sh (.int k))] = ok true := by
            show ok (decide (k < (xs.length : Int))) = ok true
            rw [decide_eq_true hk]
          have t2 : b2 gIx (look 0) (look 1) [some (.sh (.lst xs)), some (.sh (.int k))] = ok d := by
            show (match atI xs k with | some d => ok d | none => none) = ok d
            have e : k = ((k.toNat : Nat) : Int) := by omega
            have : atI xs k = some d := by rw [e]; exact atI_nat hd
            rw [this]
          unfold denAt
          rw [sSeq_rt (d := d)]
          · rfl
          · rw [sIf_t t1, sSeq_rt (sRet_ok t2)]
        · cases h
      · rename_i hk
        cases h
        refine ⟨_, rfl, ?_⟩
        have t1 : testB (b2 gLt (look 1) (f1 lenD (look 0))) [some (.sh (.lst xs)), some (.sh (.int k))] = ok false := by
          show ok (decide (k < (xs.length : Int))) = ok false
          rw [decide_eq_false hk]
        unfold denAt
        rw [sSeq_nx (ρ' := [some (.sh (.lst xs)), some (.sh (.int k))])]
        · rfl
        · rw [sIf_f t1]; rfl
    · cases h
  · cases h
end L2.PU
namespace L2.PU
open PySem PySem.Spec PyProof.Rows
theorem appM_ok {m : Str} {FM : Addr → Option (List D → M D)} {fo : Rho → M D} {g : Rho → M (List D)} {ρ : Rho} {C : Addr} {fs : List (Str × D)} {F : List D → M D} {ds : List D} (h1 : fo ρ = ok (.obj C fs)) (h2 : FM C = some F) (h3 : fs.lookup m = none) (h4 : g ρ = ok ds) :
    appM m FM fo g ρ = F (.obj C fs :: ds) := by
  unfold appM
  rw [h1, bnd_ok]
  dsimp only
  rw [h2, h3]
  dsimp only
  rw [h4, bnd_ok]
theorem fld_ok {cs : Addr → Bool} {f : Str} {fo : Rho → M D} {ρ : Rho} {C : Addr} {fs : List (Str × D)} {d : D} (h1 : fo ρ = ok (.obj C fs)) (h2 : cs C = true) (h3 : fs.lookup f = some d) : fld cs f fo ρ = ok d := by
  unfold fld
  rw [h1, bnd_ok]
  dsimp only
  rw [if_pos h2, h3]
theorem app_ok {F : List D → M D} {g : Rho → M (List D)} {ρ : Rho} {ds : List D} (h : g ρ = ok ds) : app F g ρ = F ds := by
  unfold app; rw [h, bnd_ok]
theorem aCons_ok {f : Rho → M D} {g : Rho → M (List D)} {ρ : Rho} {d : D} {ds : List D} (h1 : f ρ = ok d) (h2 : g ρ = ok ds) : aCons f g ρ = ok (d :: ds) := by
  unfold aCons; rw [h1, bnd_ok, h2, bnd_ok]
theorem aNil_ok {ρ : Rho} : aNil ρ = ok [] := rfl
theorem mkT_ok {g : Rho → M (List D)} {ρ : Rho} {ds : List D} (h : g ρ = ok ds) (hl : ds.length ≤ 1000 := by simp) : mkT g ρ = ok (.tup ds) := by
  unfold mkT; rw [h, bnd_ok, if_pos hl]
theorem b2_ok {g : D → D → M D} {fa fb : Rho → M D} {ρ : Rho} {x y : D} {r : M D} (h1 : fa ρ = ok x) (h2 : fb ρ = ok y) (h3 : g x y = r) : b2 g fa fb ρ = r := by
  unfold b2; rw [h1, bnd_ok, h2, bnd_ok, h3]
theorem test_ok {f : Rho → M D} {ρ : Rho} {d : D} {b : Bool} (h : f ρ = ok d) (q : tru d = ok b) : test f ρ = ok b := by unfold test; rw [h, bnd_ok, q]
theorem testB_ok {f : Rho → M D} {ρ : Rho} {b : Bool} (h : f ρ = ok (.bl b)) : testB f ρ = ok b := by unfold testB; rw [h, bnd_ok]; rfl
theorem notB_ok {f : Rho → M Bool} {ρ : Rho} {b : Bool} (h : f ρ = ok b) : notB f ρ = ok (!b) := by unfold notB; rw [h, bnd_ok]
/-- if not f(..): return False, where f gives True -/
theorem pass_not {f : Rho → M D} {F : Rho → Option Out} {ρ : Rho} (h : f ρ = ok (.bl true)) : sIf (notB (test f)) F sNil ρ = some (.nx ρ) := by
  rw [sIf_f (notB_ok (test_ok h rfl))]; rfl
end L2.PU
namespace L2.PU
open PySem PySem.Spec PyProof.Rows
/-- nothing is said: nothing is to be shown -/
theorem fn_none {P : Program} {w : World} {K : PySem.W.Frag} {mg : Str → Option Value} {base : Heap} {k : Nat} {f : Addr} {fd : FuncData} {ps : List Str} {F : List D → M D} (h : ∀ ds, F ds = none) : FnD P w K mg base k f fd ps F := by
  have no : ∀ vs H Q E, ¬ spD K ps.length F vs H Q E := fun vs H Q E ⟨ds, _, _, q⟩ => by rw [h ds] at q; exact q
  exact ⟨fun vs H Q E q => absurd q (no vs H Q E), fun A outer s H args us vs Q E _ _ _ _ q => absurd q (no vs H Q E)⟩
end L2.PU

namespace L2.PU
open PySem PySem.Spec PyProof.Rows
noncomputable def num (c : Int) : Int := if c % 3 = 0 then c / 3 % 4 else if c % 3 = 1 then c / 3 % 100000000000000000000 * 1000000000000000000000000000000000000000 + c % 7 else c / 3 % 1000000000000000000000000000000000000000000000000000000000000
theorem num_lo (c : Int) : 0 ≤ num c ∧ num c < 1000000000000000000000000000000000000000000000000000000000000 := by
  unfold num
  split
  · omega
  · split <;> omega
noncomputable def fNumber : List D → M D
  | [.int c] => ok (.int (num c))
  | _ => none
theorem mul_small {i j : Int} (h1 : 0 ≤ i) (h2 : i < 1000000000000000000000000000000000000000000000000000000000000) (h3 : 0 ≤ j) (h4 : j < 1000000000000000000000000000000000000000000000000000000000000) : mulB i j = true := by
  have q : ∀ z : Int, 0 ≤ z → z < 1000000000000000000000000000000000000000000000000000000000000 → z.natAbs < 2 ^ 1048576 := fun z a b => pow_line (m := 200) (by omega) (by decide)
  exact mulB_of (q i h1 h2) (q j h3 h4)
theorem fNumber_len : ∀ ds r, fNumber ds = some r → ds.length = 1 := by
  intro ds r h
  unfold fNumber at h
  split at h
  · rfl
  · cases h
end L2.PU

namespace L2.PU
open PySem PySem.Spec PyProof.Rows

/-! ### [elt for target in iter if test] -/
/-- the context of the comprehension's block -/
noncomputable abbrev cxC (X : Cx) (scope : Scope) (cl : List (Str × Addr)) (N : List Str) (C : Addr) (s₀ : Shared) (H₀ : Hp) (ex : List Addr) : Cx :=
  { X with env := compEnvC scope cl C X.env, N := N, s₀ := s₀, H₀ := H₀, outer := X.stack, ex := ex, fn := fun _ => false, pn := [], xe := fun _ _ => False }
noncomputable def lkAll (cl : List (Str × Addr)) (env : Env) : Bool := cl.all fun p => (env.cells.lookup p.1 == some p.2) && (env.kindOf p.1 == some .cell || env.kindOf p.1 == some .free)
noncomputable def nmAll (N N' : List Str) (sc : Scope) : Bool := (List.range N.length).all fun i => match N'[i]? with
  | some x => ((N[i]? == some x) && (sc.names.lookup x == some .cell || sc.names.lookup x == some .free)) || (sc.names.lookup x == none)
  | none => false
noncomputable def frAll (cl : List (Str × Addr)) (sc : Scope) : Bool := sc.names.all fun p => (p.2 != .cell && p.2 != .free) || (cl.lookup p.1).isSome

theorem lookup_mem {α β : Type} [BEq α] [LawfulBEq α] : ∀ {l : List (α × β)} {x : α} {b : β}, l.lookup x = some b → (x, b) ∈ l
  | [], _, _, h => by simp at h
  | (y, c) :: l, x, b, h => by
    rw [List.lookup_cons] at h
    cases q : x == y with
    | true => rw [q] at h; simp at h; subst h; have := LawfulBEq.eq_of_beq q; subst this; exact List.mem_cons_self
    | false => rw [q] at h; exact List.mem_cons_of_mem _ (lookup_mem h)
theorem codeAny_compLoopG {prog : Program} {w : World} {A : Around} {R : Result → Shared → Prop} {s : Shared} {elt target iter : Expr} {ifs : List Expr} {scope : Scope} {pos : Pos} {it acc : Value} {env : Env} (I : Nat → Shared → Prop)
    (turn : ∀ n s, I n s → wpAny (model prog w) A (pyNext it) (fun r s₁ => match r with
      | none => R (.ok .next) s₁
      | some v => wpAny (model prog w) A (letOwnedTupleGo target it v) (fun _ s₁' => wpAny (model prog w) A (assign target env v) (fun _ s₂ =>
          wpAny (model prog w) A (forIn ifs true fun c r => if r = true then do let ok ← isTrue c env (eval c env); pure (ForInStep.yield ok) else pure (ForInStep.yield r)) (fun ok s₃ =>
            if ok = true then wpAny (model prog w) A (eval elt env) (fun x s₄ =>
              wpAny (model prog w) A (call (.builtin "list.append") [acc, x]) (fun _ s₅ => ∃ m, m < n ∧ I m s₅) (fun _ _ => False) s₄) (fun _ _ => False) s₃
            else ∃ m, m < n ∧ I m s₃) (fun _ _ => False) s₂) (fun _ _ => False) s₁') (fun _ _ => False) s₁) (fun _ _ => False) s)
    (n : Nat) (h : I n s) : codeAny (model prog w) A (.compLoop (.ListComp elt [⟨target, iter, ifs, 0⟩] scope pos) 0 it acc env) R s := by
  refine codeAny_loop rfl I (fun n s hI => ?_) n h
  show wpAny _ A ((compTurn (.ListComp elt [⟨target, iter, ifs, 0⟩] scope pos) 0 it acc env).onRaise (fun x => do noteFrame x env; theTreesLotGoes x)) _ _ s
  refine wpAny_noted ?_
  rw [compTurn_list]
  refine wpAny_bind (wpAny_standAt (wpAny_bind (wpAny_mono (turn n s hI) (fun r s₁ h₁ => ?_) fun _ _ h' => h'.elim)))
  cases r with
  | none => exact wpAny_pure h₁
  | some v =>
    refine wpAny_bind (wpAny_mono h₁ (fun _ s₁' h₁' => ?_) fun _ _ h' => h'.elim)
    refine wpAny_bind (wpAny_mono h₁' (fun _ s₂ h₂ => wpAny_bind (wpAny_mono h₂ (fun ok s₃ h₃ => ?_) fun _ _ h' => h'.elim)) fun _ _ h' => h'.elim)
    cases ok with
    | false => exact wpAny_pure ⟨rfl, h₃⟩
    | true =>
      exact wpAny_bind (wpAny_bind (wpAny_mono h₃ (fun x s₄ h₄ => wpAny_bind (wpAny_mono h₄ (fun _ s₅ h₅ => wpAny_pure (wpAny_pure ⟨rfl, h₅⟩)) fun _ _ h' => h'.elim)) fun _ _ h' => h'.elim))

/-- the test of a clause: none, or one -/
noncomputable def PIf (X : Cx) (B : Hp) (ifs : List Expr) (ft : Rho → M Bool) : Prop := (ifs = [] ∧ ft = fun _ => ok true) ∨ ∃ c, ifs = [c] ∧ PDT X B c ft
/-- the clause's names: where they stand, what they get -/
noncomputable def setS (σ : St) : List Nat → List V → St
  | k :: ks, v :: vs => setS (σ.set k (some v)) ks vs
  | _, _ => σ
noncomputable def setR (ρ : Rho) : List Nat → List D → Rho
  | k :: ks, d :: ds => setR (ρ.set k (some (.sh d))) ks ds
  | _, _ => ρ
noncomputable def PDH (X : Cx) (tg : Expr) (ks : List Nat) (G : D → Option (List D)) : Prop :=
  PG X tg (fun v σ H Q => ∃ d es, Is X.K H d v ∧ G d = some es ∧ ∀ vs, IsL X.K H es vs → vs.length = ks.length → Q (setS σ ks vs) H)
noncomputable def cmpL (ks : List Nat) (G : D → Option (List D)) (ft : Rho → M Bool) (fe : Rho → M D) : List D → Rho → M (List D)
  | [], _ => ok []
  | d :: ds, ρ => match G d with
    | none => none
    | some es => match ft (setR ρ ks es) with
      | some (.ok true) => (match fe (setR ρ ks es) with
        | some (.ok r) => if r.imm = true then bnd (cmpL ks G ft fe ds ρ) fun rs => ok (r :: rs) else none
        | _ => none)
      | some (.ok false) => cmpL ks G ft fe ds ρ
      | _ => none
noncomputable def ext (m : Nat) (ρ : Rho) : Rho := ρ ++ List.replicate m none
/-- what the comprehension yields: it: the data that are walked -/
noncomputable def cmp (m : Nat) (it : Rho → M (List D)) (ks : List Nat) (G : D → Option (List D)) (ft : Rho → M Bool) (fe : Rho → M D) : Rho → M D := fun ρ =>
  bnd (it ρ) fun ds => if ds.length ≤ 1000000 then bnd (cmpL ks G ft fe ds (ext m (free ρ))) fun rs => ok (.lst rs) else none
theorem cmpL_noerr {ks : List Nat} {G : D → Option (List D)} {ft : Rho → M Bool} {fe : Rho → M D} : ∀ {ds : List D} {ρ : Rho} {c : Addr}, cmpL ks G ft fe ds ρ ≠ some (.error c)
  | [], ρ, c => fun h => by cases h
  | d :: ds, ρ, c => fun h => by
    unfold cmpL at h
    split at h
    · cases h
    · split at h
      · split at h
        · split at h
          · cases q : cmpL ks G ft fe ds ρ with
            | none => rw [q] at h; cases h
            | some z =>
              cases z with
              | error c' => exact cmpL_noerr q
              | ok z => rw [q] at h; cases h
          · cases h
        · cases h
      · exact cmpL_noerr h
      · cases h
theorem immL_append : ∀ (a b : List D), immL (a ++ b) = (immL a && immL b)
  | [], b => by simp [immL]
  | d :: a, b => by
    show (d.imm && immL (a ++ b)) = ((d.imm && immL a) && immL b)
    rw [immL_append a b, Bool.and_assoc]
theorem setS_length : ∀ {ks : List Nat} {σ : St} {vs : List V}, (setS σ ks vs).length = σ.length
  | [], σ, vs => by cases vs <;> rfl
  | k :: ks, σ, [] => rfl
  | k :: ks, σ, v :: vs => by
    show (setS (σ.set k (some v)) ks vs).length = _
    rw [setS_length, List.length_set]
theorem setS_out : ∀ {ks : List Nat} {σ : St} {vs : List V} {i : Nat}, i ∉ ks → (setS σ ks vs)[i]? = σ[i]?
  | [], σ, vs, i, _ => by cases vs <;> rfl
  | k :: ks, σ, [], i, _ => rfl
  | k :: ks, σ, v :: vs, i, h => by
    show (setS (σ.set k (some v)) ks vs)[i]? = _
    rw [setS_out (fun z => h (List.mem_cons_of_mem _ z)), List.getElem?_set_ne (fun z => h (by rw [z]; exact List.mem_cons_self))]
/-- all slots shared: the data of ρ are borne by H -/
noncomputable def Shr (K : PySem.W.Frag) (H : Hp) (ρ : Rho) (σ : St) : Prop := ρ.length = σ.length ∧ ∀ (i : Nat) (sv : SV), ρ[i]? = some (some sv) → ∃ d v, sv = .sh d ∧ σ[i]? = some (some v) ∧ Is K H d v
theorem Shr.rel {K : PySem.W.Frag} {H : Hp} {ρ : Rho} {σ : St} (h : Shr K H ρ σ) : Rel K H ρ σ H := by
  have e0 : Off H (fun _ => none) = H := by funext b; unfold Off; rw [if_neg (fun ⟨i, e⟩ => nomatch e)]
  refine ⟨fun _ => none, (by intro _ _ _ q; cases q), (by intro _ _ q; cases q), by rw [e0]; exact Same.refl _, h.1, fun i sv q => ?_⟩
  obtain ⟨d, v, rfl, e1, e2⟩ := h.2 i sv q
  exact ⟨v, e1, by rw [e0]; exact e2⟩
theorem Shr.mono {K : PySem.W.Frag} {H H' : Hp} {ρ : Rho} {σ : St} (e : Same H H') (h : Shr K H ρ σ) : Shr K H' ρ σ := ⟨h.1, fun i sv q => by
  obtain ⟨d, v, e0, e1, e2⟩ := h.2 i sv q
  exact ⟨d, v, e0, e1, e2.mono e⟩⟩
theorem Shr.free {K : PySem.W.Frag} {B H : Hp} {ρ : Rho} {σ : St} (r : Rel K B ρ σ H) : Shr K H (free ρ) σ := by
  refine ⟨?_, fun i sv q => ?_⟩
  · obtain ⟨_, _, _, _, hl, _⟩ := r.freed; exact hl
  · unfold PU.free at q
    rw [List.getElem?_map] at q
    obtain ⟨o, e1, e2⟩ := Option.map_eq_some_iff.mp q
    cases o with
    | none => cases e2
    | some sv0 =>
      have e2' : sv0.rel = sv := Option.some.inj e2
      subst e2'
      obtain ⟨v, e3, e4⟩ := r.get e1
      exact ⟨sv0.cur, v, by cases sv0 <;> rfl, e3, e4⟩
theorem Shr.more {K : PySem.W.Frag} {H : Hp} {ρ : Rho} {σ : St} (m : Nat) (h : Shr K H ρ σ) : Shr K H (ext m ρ) (σ ++ List.replicate m none) := by
  refine ⟨by unfold ext; simp [h.1], fun i sv e => ?_⟩
  have e' : ρ[i]? = some (some sv) := by
    unfold ext at e
    by_cases hi : i < ρ.length
    · rw [List.getElem?_append_left hi] at e; exact e
    · rw [List.getElem?_append_right (by omega), List.getElem?_replicate] at e
      split at e <;> cases e
  have hi : i < σ.length := by rw [← h.1]; exact (List.getElem?_eq_some_iff.mp e').1
  obtain ⟨d, v, e0, e1, e2⟩ := h.2 i sv e'
  exact ⟨d, v, e0, by rw [List.getElem?_append_left hi]; exact e1, e2⟩
theorem Shr.set {K : PySem.W.Frag} {H : Hp} {ρ : Rho} {σ : St} {k : Nat} {d : D} {v : V} (h : Shr K H ρ σ) (i : Is K H d v) : Shr K H (ρ.set k (some (.sh d))) (σ.set k (some v)) := by
  refine ⟨by rw [List.length_set, List.length_set, h.1], fun j sv e => ?_⟩
  by_cases q : j = k
  · subst q
    have hj : j < ρ.length := by
      have := (List.getElem?_eq_some_iff.mp e).1
      rwa [List.length_set] at this
    rw [List.getElem?_set_self hj] at e
    have e' := Option.some.inj (Option.some.inj e)
    exact ⟨d, v, e'.symm, List.getElem?_set_self (by rw [← h.1]; exact hj), i⟩
  · rw [List.getElem?_set_ne (Ne.symm q)] at e
    obtain ⟨d', v', e0, e1, e2⟩ := h.2 j sv e
    exact ⟨d', v', e0, by rw [List.getElem?_set_ne (Ne.symm q)]; exact e1, e2⟩
theorem Shr.setAll {K : PySem.W.Frag} {H : Hp} : ∀ {ks : List Nat} {ρ : Rho} {σ : St} {ds : List D} {vs : List V}, Shr K H ρ σ → IsL K H ds vs → Shr K H (setR ρ ks ds) (setS σ ks vs)
  | [], ρ, σ, ds, vs, h, i => by cases i <;> exact h
  | k :: ks, ρ, σ, _, _, h, .nil => h
  | k :: ks, ρ, σ, d :: ds, v :: vs, h, .cons i r => by
    show Shr K H (setR (ρ.set k (some (.sh d))) ks ds) (setS (σ.set k (some v)) ks vs)
    exact Shr.setAll (ks := ks) (h.set (k := k) i) r
section
variable {X : Cx} {B : Hp} {scope : Scope} {cl : List (Str × Addr)} {N' : List Str} {m : Nat}
theorem vis_cl {env : Env} (hf : frAll cl (relabel scope env) = true) {x : Str} {k : NameKind} (hk : (relabel scope env).names.lookup x = some k) (hc : k = .cell ∨ k = .free) : ∃ c, cl.lookup x = some c := by
  have h := List.all_eq_true.mp hf _ (lookup_mem hk)
  dsimp only at h
  rw [Bool.or_eq_true] at h
  rcases h with h | h
  · rcases hc with rfl | rfl <;> simp at h
  · exact Option.isSome_iff_exists.mp h
/-- the block's context and state, just made -/
theorem comp_start {pins : List (Addr × Obj)} {σ : St} {H : Hp} {s : Shared} {fp : List Addr} {h₁ : Heap} {tk : Nat} (I : Inv X pins σ H s) (hkind : scope.kind = .function) (hcl : lkAll cl X.env = true) (hnm : nmAll X.N N' (relabel scope X.env) = true) (hf : frAll cl (relabel scope X.env) = true) (hl : N'.length = X.N.length + m)
    (hfp : ∀ b ∈ fp, FpOk X pins H b ∧ b < s.heap.objs.size) (hk : ∀ b o, s.heap.get? b = some o → h₁.get? b = some o) {mm : Str → Option Value} (hns : h₁.Ns s.heap.objs.size mm) :
    Inv (cxC X scope cl N' s.heap.objs.size s H fp) [] (σ ++ List.replicate m none) H { s with heap := h₁, toks := tk } := by
  have sub : ∀ x c, cl.lookup x = some c → X.env.cells.lookup x = some c ∧ (X.env.kindOf x = some .cell ∨ X.env.kindOf x = some .free) := fun x c e => by
    have h := List.all_eq_true.mp hcl _ (lookup_mem e)
    dsimp only at h
    rw [Bool.and_eq_true, Bool.or_eq_true] at h
    exact ⟨beq_iff_eq.mp h.1, h.2.elim (fun z => .inl (beq_iff_eq.mp z)) fun z => .inr (beq_iff_eq.mp z)⟩
  have frs_sub : ∀ b ∈ fp, b ∉ frs X.stack := fun b hb z => by
    rcases List.mem_cons.mp (I.stkSub b z) with e | e
    · exact (hfp b hb).1.2.1 e
    · exact (hfp b hb).1.2.2.1 e
  refine ⟨⟨I.ok.mod, hkind, I.ok.glob, I.ok.blt, Nat.le_refl _, fun x y c h1 h2 => I.ok.inj x y c (sub x c h1).1 (sub y c h2).1, fun x hx => ?_, (fun x c h => by cases h), I.ok.hd, I.ok.frames, .inl rfl, fun b hb => ?_, I.bs, Nat.le_trans I.ok.bsz I.sz, fun b o e hb => ?_, frs_sub, I.stack, I.stkFree⟩,
    rfl, I.bare, Un.kept hk, ⟨mm, hns, fun i x v h1 h2 h3 => ?_⟩, fun x c e => ?_, I.hok.fresh (Nat.le_refl _), fun x c e => I.freeC x c (sub x c e).1, (fun p hp => by cases hp), I.hok.kept hk, ?_⟩
  · rcases hx with hx | hx
    · exact vis_cl hf hx (.inl rfl)
    · exact vis_cl hf hx (.inr rfl)
  · exact ⟨Nat.ne_of_lt (hfp b hb).2, fun x c e => (hfp b hb).1.2.2.2.2.1 x c (sub x c e).1⟩
  · rcases (hfp b hb).1.2.2.2.1 with z | z
    · exact I.ok.noex b o e z
    · exact absurd (Nat.lt_of_lt_of_le (Heap.lt_size e) (Nat.le_trans I.ok.bsz z)) (Nat.lt_irrefl _)
  · -- a name of the outer def
    have hi : i < σ.length := by
      by_cases hi : i < σ.length
      · exact hi
      · rw [List.getElem?_append_right (by omega), List.getElem?_replicate] at h2
        split at h2 <;> cases h2
    rw [List.getElem?_append_left hi] at h2
    have hiN : i < X.N.length := by rw [← I.len]; exact hi
    have hn := List.all_eq_true.mp hnm i (List.mem_range.mpr hiN)
    (try dsimp only at h1)
    (try dsimp only at hn)
    rw [h1] at hn
    (try dsimp only at hn)
    rw [Bool.or_eq_true] at hn
    have hvis : ∃ k, (relabel scope X.env).names.lookup x = some k := by
      rcases h3 with h | h | h
      · exact ⟨_, h⟩
      · exact ⟨_, h⟩
      · exact ⟨_, h⟩
    obtain ⟨kx, hkx⟩ := hvis
    rcases hn with hn | hn
    · rw [Bool.and_eq_true, Bool.or_eq_true] at hn
      have hXN : X.N[i]? = some x := beq_iff_eq.mp hn.1
      have hcf : (relabel scope X.env).names.lookup x = some .cell ∨ (relabel scope X.env).names.lookup x = some .free := hn.2.elim (fun z => .inl (beq_iff_eq.mp z)) fun z => .inr (beq_iff_eq.mp z)
      obtain ⟨c, hc⟩ : ∃ c, cl.lookup x = some c := hcf.elim (fun z => vis_cl hf z (.inl rfl)) fun z => vis_cl hf z (.inr rfl)
      obtain ⟨m0, hm0, lk⟩ := I.loc
      have hk0 := (sub x c hc).2
      obtain ⟨u, ru, lu⟩ := lk i x v hXN h2 (hk0.elim (fun z => .inr (.inl z)) fun z => .inr (.inr z))
      refine ⟨u, ru, .inr ⟨hcf, c, hc, ?_⟩⟩
      rcases lu with ⟨z1, _⟩ | ⟨_, c', e1, o, ho, hd⟩
      · rcases hk0 with z | z <;> rw [z] at z1 <;> cases z1
      · rw [(sub x c hc).1] at e1
        cases e1
        exact ⟨o, hk _ _ ho, hd⟩
    · have e := beq_iff_eq.mp hn
      rw [hkx] at e; cases e
  · obtain ⟨v, z⟩ := I.cell x c (sub x c e).1
    obtain ⟨o, ho, hd⟩ := z
    exact ⟨v, o, hk _ _ ho, hd⟩
  · show (σ ++ List.replicate m none).length = N'.length
    rw [List.length_append, List.length_replicate, I.len, hl]

variable {x : Str} {tg iter elt : Expr} {ifs : List Expr} {pos : Pos} {ks : List Nat} {G : D → Option (List D)} {ft : Rho → M Bool} {fe : Rho → M D} {it : Rho → M (List D)}
/-- what must be known of the iterator's expression -/
noncomputable def PIt (X : Cx) (B : Hp) (tg iter : Expr) (it : Rho → M (List D)) : Prop :=
  ∀ (pins : List (Addr × Obj)) (s : Shared) (σ : St) (H : Hp) (R : It → Hp → Prop) (ρ : Rho), Inv X pins σ H s → Rel X.K B ρ σ H →
    Res X σ H (fun ds => ∀ J H1, Same H H1 → ItD X.K J ds H1 → R J H1) (it ρ) →
    wpAny (model X.prog X.w) X.A (eval iter X.env) (fun v s1 => wpAny (model X.prog X.w) X.A (pyIter v) (PIE X pins σ tg R) X.xe s1) X.xe s
/-- the address is no place of this block's own -/
noncomputable def OutC (X : Cx) (pins : List (Addr × Obj)) (C : Addr) : Prop := (C ∈ X.ex ∨ X.s₀.heap.objs.size ≤ C) ∧ C ≠ X.env.locals ∧ (∀ x c, X.env.cells.lookup x = some c → c ≠ C) ∧ ∀ p ∈ X.pn ++ pins, p.1 ≠ C
theorem comp_core (hclos : closureFor scope X.env = pure cl) (hcell : ∀ y ∈ scope.names, y.2 ≠ .cell) (hkind : scope.kind = .function) (hnames : ∀ y ∈ scope.names, y.2 = .local → scope.names.lookup y.1 = some .local) (hcl : lkAll cl X.env = true)
    (hnm : nmAll X.N N' (relabel scope X.env) = true) (hf : frAll cl (relabel scope X.env) = true) (hl : N'.length = X.N.length + m) (hks : ∀ k ∈ ks, X.N.length ≤ k) (hcm : X.calm = true) (hi : PIt X B tg iter it)
    (hg : ∀ C s₀ H₀ ex, PDH (cxC X scope cl N' C s₀ H₀ ex) tg ks G) (ht : ∀ C s₀ H₀ ex B, PIf (cxC X scope cl N' C s₀ H₀ ex) B ifs ft) (he : ∀ C s₀ H₀ ex B, PD (cxC X scope cl N' C s₀ H₀ ex) B elt fe)
    (hs : ∀ x, foldedSetIterable iter X.env x = pure x) {p0 : Pos} {use : Option (Value → Sem Unit)} {Q' : Value → Shared → Prop} {Kp : List D → Prop} {pins : List (Addr × Obj)} {s : Shared} {σ : St} {H : Hp} {ρ : Rho} (I : Inv X pins σ H s) (r : Rel X.K B ρ σ H) (h : Res X σ H (fun d => ∀ rs, d = .lst rs → Kp rs) (cmp m it ks G ft fe ρ))
    (fin : ∀ (Dd Cc : Addr) (s3 : Shared) (Hj : Hp) (rs : List D), (∀ h', Heap.SameBut Cc s3.heap h' → Inv X pins σ Hj { s3 with heap := h' }) → (∃ m, s3.heap.Ns Cc m) → OutC X pins Cc → Hj Cc = none → Same H Hj → Is X.K Hj (.lst rs) (.ref Dd) → Kp rs →
      compPost (model X.prog X.w) X.A X.xe use Q' (.ref Dd) Cc (.ok .next) s3) :
    wpAny (model X.prog X.w) X.A (comprehension (.ListComp elt [⟨tg, iter, ifs, 0⟩] scope pos) scope X.env p0 (newList []) false (eval iter X.env) use) Q' X.xe s := by
  refine wpAny_comprehension_free (use := use) rfl hs hclos hkind hnames ?_
  show wpAny (model X.prog X.w) X.A (eval iter X.env) _ X.xe s
  refine thn (hi pins s σ H (fun J H1 => ∃ ds, Same H H1 ∧ ItD X.K J ds H1 ∧ ds.length ≤ 1000000 ∧ ∃ rs, cmpL ks G ft fe ds (ext m (free ρ)) = ok rs ∧ Kp rs) ρ I r ((Res.bind h).imp fun ds h1 J H1 e1 i1 => ?_)) fun v s1 h1 => thn h1 fun itv s2 h2 => ?_
  · split at h1
    · rename_i hlen
      refine ⟨ds, e1, i1, hlen, ?_⟩
      have h2 := Res.bind h1
      cases q : cmpL ks G ft fe ds (ext m (free ρ)) with
      | none => rw [q] at h2; exact False.elim h2
      | some z =>
        cases z with
        | error c => exact absurd q cmpL_noerr
        | ok rs => rw [q] at h2; exact ⟨rs, rfl, h2 rs rfl⟩
    · exact False.elim h1
  obtain ⟨ia, fp, tn, J, H2, rfl, I2, T, st2, f2, ds, e1, hJ, hlen, rs, hrs, hQ⟩ := h2
  have shr2 : Shr X.K H2 (ext m (free ρ)) (σ ++ List.replicate m none) := ((Shr.free r).mono e1).more m
  have fpl : ∀ b ∈ fp, b < s2.heap.objs.size := fun b hb => let ⟨o, ho, _⟩ := T.obj 0 _ st2 b hb; Heap.lt_size ho
  refine wpAny_newObj_type (wpAny_newFunctionEnv hcell (by intro y hy; simp at hy) (fun h₁ hns₁ hsb₁ => ?_) hkind)
  dsimp only at hns₁ hsb₁ ⊢
  have I0 : Inv X pins σ (upd H2 s2.heap.objs.size (.lst [])) { s2 with heap := s2.heap.push { cls := .type "list", dict := none, data := .seq ([] : List Value).toArray } } := I2.lnew (t' := s2.toks) (its := []) .nil (Nat.zero_le _)
  have hsz : (s2.heap.push { cls := .type "list", dict := none, data := .seq ([] : List Value).toArray }).objs.size = s2.heap.objs.size + 1 := Heap.size_push _ _
  generalize hP : s2.heap.push { cls := .type "list", dict := none, data := .seq ([] : List Value).toArray } = P2 at hns₁ hsb₁ I0 hsz ⊢
  generalize hD : s2.heap.objs.size = Dd at *
  generalize hC : P2.objs.size = Cc at *
  have neDC : Dd ≠ Cc := by omega
  have hk01 : ∀ b o, P2.get? b = some o → h₁.get? b = some o := fun b o e => hsb₁.extBut b o (Nat.ne_of_lt (by rw [← hC]; exact Heap.lt_size e)) (Heap.get?_push_of_some _ e)
  have hk2P : ∀ b o, s2.heap.get? b = some o → P2.get? b = some o := fun b o e => by rw [← hP]; exact Heap.get?_push_of_some _ e
  have nD2 : H2 Dd = none := I2.hok.fresh (by omega)
  have nC2 : H2 Cc = none := I2.hok.fresh (by omega)
  have sm0 : Same H2 (upd H2 Dd (.lst [])) := same_new nD2 _
  have fp0 : ∀ b ∈ fp, FpOk X pins (upd H2 Dd (.lst [])) b ∧ b < P2.objs.size := fun b hb => by
    have hb' := fpl b hb
    obtain ⟨f0, f1⟩ := f2 b hb
    exact ⟨⟨by rw [upd_ne (Nat.ne_of_lt hb')]; exact f0, f1⟩, by rw [hC, hsz]; exact Nat.lt_succ_of_lt hb'⟩
  have IC := comp_start (tk := s2.toks + ([] : List (Str × Value)).length) I0 hkind hcl hnm hf hl fp0 hk01 (by rw [hC]; exact hns₁)
  rw [hC] at IC
  -- the loop
  have loop : ∀ s₄ : Shared, s₄ = { s2 with heap := h₁, toks := s2.toks + ([] : List (Str × Value)).length } →
      codeAny (model X.prog X.w) X.A (.compLoop (.ListComp elt [⟨tg, iter, ifs, 0⟩] scope pos) 0 (.ref ia) (.ref Dd) (compEnvC scope cl Cc X.env)) (compPost (model X.prog X.w) X.A X.xe use Q' (.ref Dd) Cc) s₄ := by
    rintro s₄ rfl
    refine codeAny_compLoopG (fun n s' => ∃ j Hj vs rj rest, n = ds.length + 1 - j ∧ j ≤ ds.length ∧ Inv (cxC X scope cl N' Cc { s2 with heap := P2 } (upd H2 Dd (.lst [])) fp) [] (σ ++ List.replicate m none) Hj s' ∧ tn j s'.heap ∧ (∀ b ∈ fp, Hj b = none) ∧
      Hj Dd = some (.lst vs) ∧ IsL X.K Hj rj vs ∧ immL rj = true ∧ rj.length ≤ j ∧ Same H2 Hj ∧ cmpL ks G ft fe (ds.drop j) (ext m (free ρ)) = ok rest ∧ rs = rj ++ rest) ?_ (ds.length + 1)
      ⟨0, _, [], [], rs, rfl, Nat.zero_le _, IC, T.keep _ _ _ st2 fun b hb o e => hk01 _ _ (hk2P _ _ e), fun b hb => (fp0 b hb).1.1, upd_same, .nil, rfl, Nat.le_refl _, sm0, by simpa using hrs, rfl⟩
    rintro n s' ⟨j, Hj, vs, rj, rest, rfl, hj, IJ, stj, frj, hDj, ilj, imj, hlj, smj, hrest, hrs'⟩
    have fpX : ∀ {H' : Hp}, (∀ b ∈ fp, H' b = none) → ∀ b ∈ fp, FpOk (cxC X scope cl N' Cc { s2 with heap := P2 } (upd H2 Dd (.lst [])) fp) [] H' b := fun hn b hb =>
      ⟨hn b hb, (IJ.ok.exf b hb).1, IJ.ok.exfs b hb, .inl hb, (IJ.ok.exf b hb).2, (fun p hp => by cases hp)⟩
    by_cases hlt : j < ds.length
    · have hd : ds.drop j = ds[j] :: ds.drop (j + 1) := List.drop_eq_getElem_cons hlt
      rw [hd] at hrest
      obtain ⟨q0, q1, q2, q3⟩ : (∃ es, G ds[j] = some es) ∧ True ∧ True ∧ True := by
        refine ⟨?_, trivial, trivial, trivial⟩
        cases q : G ds[j] with
        | none => unfold cmpL at hrest; rw [q] at hrest; cases hrest
        | some es => exact ⟨es, rfl⟩
      obtain ⟨es, hG⟩ := q0
      unfold cmpL at hrest
      rw [hG] at hrest
      dsimp only at hrest
      refine thn (T.item (cxC X scope cl N' Cc { s2 with heap := P2 } (upd H2 Dd (.lst [])) fp) rfl rfl rfl hcm j [] s' _ Hj (fun _ _ => False) IJ (fpX frj) stj (hJ.go j Hj smj hlt)) fun r s3 ⟨u, hr, h4⟩ => ?_
      subst hr
      refine thn h4 fun _ s5 ⟨xv, H5, I5, r5, y5, st5, fr5⟩ => ?_
      obtain ⟨e5, d, e6, e7⟩ := hJ.yld j Hj xv H5 smj y5 hlt
      replace hDj := e5 _ _ hDj
      replace ilj := IsL.mono e5 ilj
      replace smj := smj.trans e5
      have ed : ds[j] = d := by rw [List.getElem?_eq_getElem hlt] at e6; exact Option.some.inj e6
      rw [ed] at hG
      have I5' := I5.pinned (fpX fr5) (T.obj _ _ st5)
      rw [List.nil_append] at I5'
      -- the names are stored
      refine thn (hg Cc { s2 with heap := P2 } (upd H2 Dd (.lst [])) fp _ s5 _ H5 xv u (fun σ6 H6 => H6 = H5 ∧ ∃ vs', IsL X.K H5 es vs' ∧ σ6 = setS (σ ++ List.replicate m none) ks vs') I5' r5 ⟨d, es, e7, hG, fun vs' iv' _ => ⟨rfl, vs', iv', rfl⟩⟩) fun _ s6 ⟨σ6, H6, I6, q6⟩ => ?_
      obtain ⟨rfl, vs', iv', rfl⟩ := q6
      have rel6 : Rel X.K H6 (setR (ext m (free ρ)) ks es) (setS (σ ++ List.replicate m none) ks vs') H6 := (Shr.setAll (shr2.mono smj) iv').rel
      -- what stands behind a turn
      have turn : ∀ (s7 : Shared) (H7 : Hp) (vs7 : List V) (r7 rest7 : List D), Inv (cxC X scope cl N' Cc { s2 with heap := P2 } (upd H2 Dd (.lst [])) fp) (pinsAt fp s5.heap) (setS (σ ++ List.replicate m none) ks vs') H7 s7 → H7 Dd = some (.lst vs7) → IsL X.K H7 r7 vs7 → immL r7 = true → r7.length ≤ j + 1 → Same H2 H7 →
          cmpL ks G ft fe (ds.drop (j + 1)) (ext m (free ρ)) = ok rest7 → rs = r7 ++ rest7 → ∃ k, k < ds.length + 1 - j ∧ ∃ j' Hj vs rj rest, k = ds.length + 1 - j' ∧ j' ≤ ds.length ∧ Inv (cxC X scope cl N' Cc { s2 with heap := P2 } (upd H2 Dd (.lst [])) fp) [] (σ ++ List.replicate m none) Hj s7 ∧ tn j' s7.heap ∧ (∀ b ∈ fp, Hj b = none) ∧
          Hj Dd = some (.lst vs) ∧ IsL X.K Hj rj vs ∧ immL rj = true ∧ rj.length ≤ j' ∧ Same H2 Hj ∧ cmpL ks G ft fe (ds.drop j') (ext m (free ρ)) = ok rest ∧ rs = rj ++ rest := by
        intro s7 H7 vs7 r7 rest7 I7 a1 a2 a3 a4 a5 a6 a7
        have pin : ∀ b ∈ fp, ∀ o, s5.heap.get? b = some o → s7.heap.get? b = some o ∧ H7 b = none := fun b hb o e =>
          let z := I7.pin (b, o) (List.mem_append_right _ (mem_pinsAt hb e)); ⟨z.1, z.2.1⟩
        refine ⟨ds.length + 1 - (j + 1), by omega, j + 1, H7, vs7, r7, rest7, rfl, hlt, ?_, T.keep _ _ _ st5 fun b hb o e => (pin b hb o e).1, fun b hb => ?_, a1, a2, a3, a4, a5, a6, a7⟩
        · have I8 : Inv (cxC X scope cl N' Cc { s2 with heap := P2 } (upd H2 Dd (.lst [])) fp) [] (setS (σ ++ List.replicate m none) ks vs') H7 s7 := I7.pins_of (fun p hp => by cases hp)
          refine I8.weak (by rw [setS_length]) fun i v e => ?_
          rw [setS_out]
          · exact e
          · intro hi
            have := hks i hi
            rw [List.getElem?_append_right (by rw [I2.len]; exact this), List.getElem?_replicate] at e
            split at e <;> cases e
        · obtain ⟨o, ho, _⟩ := T.obj _ _ st5 b hb
          exact (pin b hb o ho).2
      -- the test
      have tst : wpAny (model X.prog X.w) X.A (forIn ifs true fun c r => if r = true then do let ok ← isTrue c (compEnvC scope cl Cc X.env) (eval c (compEnvC scope cl Cc X.env)); pure (ForInStep.yield ok) else pure (ForInStep.yield r))
          (fun bb s7 => ∃ H7, Inv (cxC X scope cl N' Cc { s2 with heap := P2 } (upd H2 Dd (.lst [])) fp) (pinsAt fp s5.heap) (setS (σ ++ List.replicate m none) ks vs') H7 s7 ∧ Same H6 H7 ∧ ft (setR (ext m (free ρ)) ks es) = ok bb) (fun _ _ => False) s6 := by
        rcases ht Cc { s2 with heap := P2 } (upd H2 Dd (.lst [])) fp H6 with ⟨rfl, hft⟩ | ⟨c, rfl, hft⟩
        · exact wpAny_tests_nil ⟨H6, I6, Same.refl _, by rw [hft]⟩
        · cases qt : ft (setR (ext m (free ρ)) ks es) with
          | none => rw [qt] at hrest; cases hrest
          | some z =>
            cases z with
            | error ce => rw [qt] at hrest; cases hrest
            | ok bb =>
              refine wpAny_tests_one (thn (hft _ s6 _ H6 (fun b H7 => Same H6 H7 ∧ b = bb) I6 ⟨_, rel6, by rw [qt]; exact fun H7 e => ⟨e, rfl⟩⟩) fun b s7 ⟨H7, I7, e, eb⟩ => ?_)
              subst eb
              exact ⟨H7, I7, e, rfl⟩
      refine thn tst fun bb s7 ⟨H7, I7, sm7, hbb⟩ => ?_
      rw [hbb] at hrest
      cases bb with
      | false =>
        rw [if_neg (by decide)]
        exact turn s7 H7 vs rj rest I7 (sm7 _ _ hDj) (ilj.mono sm7) imj (by omega) (smj.trans sm7) hrest hrs'
      | true =>
        rw [if_pos rfl]
        dsimp only [ok] at hrest
        cases qe : fe (setR (ext m (free ρ)) ks es) with
        | none => rw [qe] at hrest; cases hrest
        | some z =>
          cases z with
          | error ce => rw [qe] at hrest; cases hrest
          | ok rr =>
            rw [qe] at hrest
            dsimp only at hrest
            split at hrest
            · rename_i him
              obtain ⟨rest', er, er2⟩ := bnd_eq_ok hrest
              have er3 := ok_inj er2
              refine thn (he Cc { s2 with heap := P2 } (upd H2 Dd (.lst [])) fp H6 _ s7 _ H7 (fun v H8 => Same H7 H8 ∧ Is X.K H8 rr v) I7 ⟨_, rel6.mono sm7, by rw [qe]; exact fun v H8 e i => ⟨e, i⟩⟩) fun u8 s8 ⟨v8, H8, I8, rv8, sm8, i8⟩ => ?_
              have hD8 : H8 Dd = some (.lst vs) := sm8 _ _ (sm7 _ _ hDj)
              have hlv : vs.length = rj.length := ilj.length.symm
              have il8 := (ilj.mono sm7).mono sm8
              have al : ∀ o, (∀ b xs, H8 b = some (.tup xs) → upd H8 Dd (.lst o) b = some (.tup xs)) ∧ (∀ b oo u, H8 b = some (.frz oo u) → upd H8 Dd (.lst o) b = some (.frz oo u)) := fun o =>
                ⟨fun b xs e => by rw [upd_ne (fun z => by subst z; rw [hD8] at e; cases e)]; exact e, fun b oo u e => by rw [upd_ne (fun z => by subst z; rw [hD8] at e; cases e)]; exact e⟩
              refine thn (mt_append _ s8 _ H8 (.ref Dd) [v8] (.ref Dd) [u8] (fun v9 H9 => H9 = upd H8 Dd (.lst (vs ++ [v8]))) I8 rfl (.cons rv8 .nil) ⟨Dd, vs, v8, rfl, rfl, hD8, by have := sizeLine_eq; omega, rfl⟩) fun u9 s9 ⟨v9, H9, I9, _, e9⟩ => ?_
              subst e9
              refine turn s9 _ (vs ++ [v8]) (rj ++ [rr]) rest' I9 upd_same ((IsL.alike (al _).1 (al _).2 imj il8).append (.cons (Is.alike (al _).1 (al _).2 him i8) .nil)) ?_ (by rw [List.length_append]; simp only [List.length_cons, List.length_nil]; omega) ?_ er (by rw [hrs', ← er3, List.append_assoc]; rfl)
              · rw [immL_append, imj]
                show (rr.imm && true) = true
                rw [him]
                rfl
              · intro b o e
                rw [upd_ne (ne_of_none e nD2)]
                exact sm8 _ _ (sm7 _ _ (smj _ _ e))
            · cases hrest
    · have ej : j = ds.length := by omega
      subst ej
      rw [List.drop_eq_nil_of_le (Nat.le_refl _)] at hrest
      have er := ok_inj hrest
      refine thn (T.done (cxC X scope cl N' Cc { s2 with heap := P2 } (upd H2 Dd (.lst [])) fp) rfl rfl rfl hcm ds.length [] s' _ Hj (fun _ _ => False) IJ (fpX frj) stj (hJ.stop _ Hj smj (Nat.le_refl _))) fun r s3 ⟨hr, I3⟩ => ?_
      subst hr
      obtain ⟨mm, hmm, _⟩ := I3.loc
      have nCj : Hj Cc = none := I3.free
      have zC := I2.fpOk (b := Cc) (H' := H2) (by rw [hD, hsz]; exact Nat.le_succ _) nC2
      have ers : rs = rj := by rw [hrs', ← er, List.append_nil]
      refine fin Dd Cc s3 Hj rs ?_ ⟨mm, hmm⟩ ⟨zC.2.2.2.1, zC.2.1, zC.2.2.2.2.1, zC.2.2.2.2.2⟩ nCj (e1.trans smj) (.lst (SqL.of hDj) (by rw [ers]; exact ilj)) hQ
      intro h' hsb
      have U1 : Un (frs X.stack) (Cc :: fp) H2 (upd H2 Dd (.lst [])) s2.heap P2 := Un.laid hk2P (by rw [hD]; exact Nat.le_refl _) nD2
      have U2 : Un (frs X.stack) (Cc :: fp) (upd H2 Dd (.lst [])) Hj P2 s3.heap := I3.base.mono (fun _ z => z) (fun b z => List.mem_cons_of_mem _ z)
      have kp : ∀ b o, b ≠ Cc → s3.heap.get? b = some o → h'.get? b = some o := fun b o hb e => hsb.extBut b o hb e
      have nc : ∀ b, b ∉ Cc :: fp → b ≠ Cc := fun b hb z => hb (by rw [z]; exact List.mem_cons_self)
      have U3 : Un (frs X.stack) (Cc :: fp) Hj Hj s3.heap h' := ⟨fun b o e _ _ hx => kp b o (nc b hx) e, fun b o e _ _ hx => ⟨o.slots, kp b o (nc b hx) e⟩, fun _ _ _ n _ => n, fun b o e hx => ⟨o, kp b o (nc b hx) e⟩, fun _ _ e => e, fun _ _ _ e => e, fun b ps e => ⟨#[], by rw [e]; simp⟩⟩
      have hok' : HOk X.prog X.w Hj h' := fun b u e => (I3.hok b u e).stay (fun c v hc q => kp c v (fun z => by
        rcases hc with hc | hc
        · rw [hc] at z; rw [z, nCj] at e; cases e
        · rw [z, nCj] at hc; cases hc) q) (fun _ q => q) fun _ _ q => q
      have IX : Inv X pins σ Hj { s3 with heap := h' } := I2.call' (ch := Cc :: fp) I3.os ((U1.trans U2).trans U3) hok' I3.bare fun b hb => by
        rcases List.mem_cons.mp hb with rfl | hb
        · have z := I2.fpOk (b := b) (H' := H2) (by rw [hD, hsz]; exact Nat.le_succ _) nC2
          exact ⟨z.2.2.2.1, z.2.1, z.2.2.2.2.1, z.2.2.2.2.2⟩
        · obtain ⟨z0, z1, z2, z3, z4, z5⟩ := f2 b hb
          exact ⟨z3, z1, z4, z5⟩
      exact IX
  exact codeAny_compStart_list (loop _ rfl) (T.self _ 0 _ _ _ (T.keep _ _ _ st2 fun b hb o e => hk01 _ _ (hk2P _ _ e)) (loop _ rfl))
theorem pd_comp (hclos : closureFor scope X.env = pure cl) (hcell : ∀ y ∈ scope.names, y.2 ≠ .cell) (hkind : scope.kind = .function) (hnames : ∀ y ∈ scope.names, y.2 = .local → scope.names.lookup y.1 = some .local) (hcl : lkAll cl X.env = true)
    (hnm : nmAll X.N N' (relabel scope X.env) = true) (hf : frAll cl (relabel scope X.env) = true) (hl : N'.length = X.N.length + m) (hks : ∀ k ∈ ks, X.N.length ≤ k) (hcm : X.calm = true) (hi : PIt X B tg iter it)
    (hg : ∀ C s₀ H₀ ex, PDH (cxC X scope cl N' C s₀ H₀ ex) tg ks G) (ht : ∀ C s₀ H₀ ex B, PIf (cxC X scope cl N' C s₀ H₀ ex) B ifs ft) (he : ∀ C s₀ H₀ ex B, PD (cxC X scope cl N' C s₀ H₀ ex) B elt fe)
    (hs : ∀ x, foldedSetIterable iter X.env x = pure x := by intro _; rfl) : PD X B (.ListComp elt [⟨tg, iter, ifs, 0⟩] scope pos) (cmp m it ks G ft fe) := by
  intro pins s σ H Q I h
  obtain ⟨ρ, r, h⟩ := h
  rw [eval_ListComp]
  refine comp_core (use := none) (Q' := EP X pins σ Q) (Kp := fun rs => ∀ v H', Same H H' → Is X.K H' (.lst rs) v → Q v H') hclos hcell hkind hnames hcl hnm hf hl hks hcm hi hg ht he hs I r (h.imp fun d q rs e v H' sm i => by subst e; exact q v H' sm i) ?_
  intro Dd Cc s3 Hj rs IX ⟨mm, hmm⟩ _ _ sm is hQ
  exact ⟨mm, hmm, fun h' hsb => ⟨.ref Dd, Hj, IX h' hsb, rfl, hQ _ Hj sm is⟩⟩
end
end L2.PU

namespace L2.PU
open PySem PySem.Spec PyProof.Rows

/-! ### exceptions: how they leave a def -/
section
variable {l : List Env} {H1 H : Hp} {h1 h h5 Bs base : Heap}
theorem fly_un (un : Un (frs l) [] H1 H h1 h) (old : ∀ b o o', h1.get? b = some o' → b ∉ frs l → h.get? b = some o → Bs.get? b = some o) (st : Bs.StaysIn h5) (sl : h.UpToSlots h5) (ff : h1.FunFrames base l) (hf : ∀ b ∈ frs l, H1 b = none) :
    Un (frs l) [] H1 H h1 h5 where
  keep := fun b o q n hb hx => st b o (old b o o q hb (un.keep b o q n hb hx))
  slot := fun b o q n hb hx => by
    obtain ⟨s1, e1⟩ := un.slot b o q n hb hx
    obtain ⟨_, o2, e2, nf⟩ := ff.mem hb
    rw [q] at e2; cases e2
    obtain ⟨s2, e3⟩ := sl b _ e1 nf
    exact ⟨s2, e3⟩
  free := un.free
  there := fun b o q hx => by
    obtain ⟨o1, e1⟩ := un.there b o q hx
    by_cases hb : b ∈ frs l
    · obtain ⟨_, o2, e2, nf⟩ := ff.mem hb
      rw [q] at e2; cases e2
      obtain ⟨s1, e3⟩ := un.slot b o q (hf b hb) hb hx
      obtain ⟨s2, e4⟩ := sl b _ e3 nf
      exact ⟨_, e4⟩
    · exact ⟨o1, st b o1 (old b o1 o q hb e1)⟩
  tups := un.tups
  frzs := un.frzs
  tbls := un.tbls
end
section
variable {X : Cx} {pins : List (Addr × Obj)} {σ : St} {H H1 : Hp} {c ea : Addr} {e a0 : Value} {s s1 : Shared} {Bs h' : Heap}
theorem inv_flown (I : Inv X pins σ H1 s1) (os : s.os = s1.os) (bare : AllBare s.gens) (un : Un (frs X.stack) [] H1 H s1.heap s.heap) (old : ∀ b o o', s1.heap.get? b = some o' → b ∉ frs X.stack → s.heap.get? b = some o → Bs.get? b = some o)
    (hok : HOk X.prog X.w H Bs) (st : Bs.StaysIn h') (sl : s.heap.UpToSlots h') : Inv X pins σ H { s with heap := h' } :=
  Inv.call' (s' := { s with heap := h' }) (ch := []) I os (fly_un un old st sl I.stack I.stkFree) (hok.kept st) bare (fun b z => absurd z (by simp))
/-- behind a frame's end -/
noncomputable def Left (X : Cx) (H : Hp) (c : Addr) (e : Value) (s' : Shared) : Prop :=
  ∃ ea, e = .ref ea ∧ s'.os = X.s₀.os ∧ AllBare s'.gens ∧ Un (frs X.outer) [] X.H₀ H X.s₀.heap s'.heap ∧ Fly X.prog X.w X.outer X.s₀ ea c H s'
theorem left_fin (hex : X.ex = []) (I : Inv X pins σ H1 s1) (os : s.os = s1.os) (bare : AllBare s.gens) (un : Un (frs X.stack) [] H1 H s1.heap s.heap) (old : ∀ b o o', s1.heap.get? b = some o' → b ∉ frs X.stack → s.heap.get? b = some o → Bs.get? b = some o)
    (hok : HOk X.prog X.w H Bs) (fl : Heap.FlyingW Bs X.outer ea (.ref c) a0 h') (sl : s.heap.UpToSlots h') : Left X H c (.ref ea) { s with heap := h' } := by
  have I' := inv_flown I os bare un old hok fl.1 sl
  have ib := I'.base
  rw [hex] at ib
  have ib1 := I.base
  rw [hex] at ib1
  refine ⟨ea, rfl, I'.os, I'.bare, ib, Bs, a0, fl, fun b o o' q nb eb => ?_, hok⟩
  obtain ⟨o1, e1⟩ := ib1.there b o' q (by simp)
  obtain ⟨o2, e2⟩ := un.there b o1 e1 (by simp)
  have nb' : b ∉ frs X.stack := fun z => by
    rcases List.mem_cons.mp (I.stkSub b z) with y | y
    · have := Nat.lt_of_lt_of_le (Heap.lt_size q) I.ok.above
      rw [y] at this
      exact absurd this (Nat.lt_irrefl _)
    · exact nb y
  have e3 := old b o2 o1 e1 nb' e2
  have e4 := fl.1 b o2 e3
  have eb' : h'.get? b = some o := eb
  rw [eb'] at e4
  cases e4
  exact e3
theorem leave_ok (hst : X.stack = X.env :: X.outer) (hf : X.env.frame = some X.env.locals) (hex : X.ex = []) {Q : Unit → Shared → Prop} {E : Value → Shared → Prop} (x : Exc X pins σ H c e s) (k : ∀ s', Left X H c e s' → Q () s') :
    wpAny (model X.prog X.w) X.A (leaving X.env e) Q E s := by
  obtain ⟨ea, rfl, ⟨h, args, hm, I⟩ | ⟨s1, H1, I, os, bare, un, Bs, a0, fl, old, hok⟩⟩ := x
  · have ff : h.FunFrames X.base X.stack := I.stack
    refine wpAny_leaves_madeW (base := PySem.W.hideAll h (frs X.stack)) (h := h) (by rw [I.ok.frames, hst]) hf (fun b o q => PySem.W.of_hideAll _ q) (by rw [← hst]; exact PySem.W.funFrames_hide ff fun env he a ha => List.mem_filterMap.mpr ⟨env, he, ha⟩) hm fun h' t x1 x2 x3 x4 => k _ ?_
    refine left_fin (s1 := { s with heap := h }) hex I rfl I.bare (Un.kept hm.keeps) (fun b o o' q nb eb => ?_) (fun a o ea' => ?_) x1 x4
    · have := hm.keeps b o' q
      rw [eb] at this
      cases this
      exact PySem.W.hideAll_get _ q nb
    · refine (I.hok a o ea').stay (fun b u hb q => PySem.W.hideAll_get _ q fun z => ?_) (fun _ q => q) fun _ _ q => q
      have hn := I.stkFree b z
      rcases hb with rfl | hb
      · rw [hn] at ea'; cases ea'
      · rw [hn] at hb; cases hb
  · have fl' : Heap.FlyingW Bs (X.env :: X.outer) ea (.ref c) a0 s.heap := by rw [← hst]; exact fl
    refine wpAny_leaves_onW (by rw [I.ok.frames, hst]) hf fl' fun h' x1 x2 => k _ (left_fin hex I os bare un old hok x1 x2)
end

section
variable {P : Program} {w : World} {K : PySem.W.Frag} {mg : Str → Option Value} {base : Heap}
noncomputable abbrev cxX (P : Program) (w : World) (K : PySem.W.Frag) (mg : Str → Option Value) (base : Heap) (N : List Str) (qual : Str) (scope : Scope) (f : Addr) (cd : Value) (A : Around) (outer : List Env) (s : Shared) (H : Hp) (E : XK) : Cx :=
  cxOf (CXD P w) P w K mg base N qual scope f cd A outer s H E
theorem xe_ok {N : List Str} {qual : Str} {scope : Scope} {f : Addr} {cd : Value} {A : Around} {outer : List Env} {s₀ : Shared} {H₀ : Hp} {E : XK} {pins : List (Addr × Obj)} {σ : St} {H : Hp} {c : Addr} {e : Value} {s : Shared}
    (x : Exc (cxX P w K mg base N qual scope f cd A outer s₀ H₀ E) pins σ H c e s) (hE : E (.ref c) none H) : (cxX P w K mg base N qual scope f cd A outer s₀ H₀ E).xe e s := by
  refine leave_ok (X := cxX P w K mg base N qual scope f cd A outer s₀ H₀ E) rfl rfl rfl x fun s' hl => ?_
  obtain ⟨ea, e1, e2, e3, e4, e5⟩ := hl
  exact ⟨c, ea, H, e1, e2, e3, e4, e5, hE⟩
noncomputable def iniResX (a C dx : Addr) : Option Out → M (List (Str × D))
  | some (.ex c _) => err c
  | o => iniRes a C dx o
theorem init_X {x qual : Str} {st : Stmt} {f C : Addr} {fd : FuncData} {N ps : List Str} {k : Nat} {F : List D → M (List (Str × D))} (Fu : Fun K x qual st f fd) (S : FnScope N ps (defScope st)) (hL : ∀ ds r, F ds = some r → ds.length + 1 = ps.length)
    (hbody : ∀ (cdv : Value) (A : Around) (outer : List Env) (s : Shared) (H : Hp) (E : XK), Room k (A.deeper (envOfC qual (defScope st) s.heap.objs.size f cdv)) →
      ∃ F', (∀ B, PDB (cxX P w K mg base N qual (defScope st) f cdv A outer s H E) B (defBody st) F') ∧ ∀ ds r a dx, F ds = some r → iniResX a C dx (F' (rhoI N a C dx ds)) = some r) : FnOk P w K mg base (CXD P w) (k + 1) f fd ps (spI K C ps.length F) := by
  obtain ⟨oc, od, kV, doc, pm, an, cdv, ct, osl, rfl, lk, hcd⟩ := Fu.ex
  refine fn_of lk hcd S (fun vs H Q E ⟨a, dx, ws, ds, _, _, _, _, hl, _⟩ => hl) fun A outer s H vs Q E hr hsp => ?_
  obtain ⟨F', hF, hq⟩ := hbody cdv A outer s H E hr
  obtain ⟨a, dx, ws, ds, rfl, ha, hd, i, hl, h⟩ := hsp
  refine ⟨_, hF (hid H a), ?_⟩
  have hn : ps.length ≤ N.length := by have := congrArg List.length S.pre; rw [List.length_take] at this; omega
  cases q : F ds with
  | none => rw [q] at h; exact False.elim h
  | some r =>
    rw [q] at h
    have e := hq ds r a dx q
    refine ⟨rhoI N a C dx ds, rel_startI ha hd i (by rw [i.length]; rw [List.length_cons] at hl; omega), ?_⟩
    cases qf : F' (rhoI N a C dx ds) with
    | none => rw [qf] at e; cases e
    | some o =>
      rw [qf] at e
      cases o with
      | ex c ρ => cases e; exact fun pins s' σ' H' ev r' x => xe_ok x (h H' r'.kept)
      | rt d => cases e
      | bk ρ => cases e
      | ct ρ => cases e
      | nx ρ =>
        change iniRes a C dx (some (.nx ρ)) = some r at e
        unfold iniRes at e
        split at e
        · rename_i a' C' dx' fs' rest qf'
          cases qf'
          split at e
          · rename_i hh
            obtain ⟨rfl, rfl, rfl⟩ := hh
            cases e
            intro σ' H' r'
            obtain ⟨O, g1, go, g2, gl, g3⟩ := r'
            obtain ⟨z1, z2, z3, vs', z4, z5⟩ := g3 0 _ rfl
            exact h H' vs' z4 (z5.mono (Off.same _ _)) (g2.trans (Off.same _ _))
          · cases e
        · cases e
end

/-! ### raise C(..) -/
theorem exc_obj {K : PySem.W.Frag} {h : Heap} {C : Addr} {bmB : List Value} {nid : String} (kin : K.In h) (q : PySem.W.excIn K C bmB nid = true) :
    ∃ tl N nm qn bs hd sn sub ab col dd k0 k1 k2 k3 k5 mN, h.get? C = some (excClassObj nm qn C N bs tl hd sn sub ab col dd k0 k1 k2 k3 k5 nid) ∧ h.Ns N mN ∧ mN "__init__" = none ∧ OwnTail h bmB tl := by
  unfold PySem.W.excIn at q
  split at q
  · rename_i d1 c1 s1 lk
    split at q
    · rename_i C2 tl j0 j1 j2 j3 n2 j5 em es
      rw [Bool.and_eq_true, Bool.and_eq_true, Bool.and_eq_true, Bool.and_eq_true, Bool.and_eq_true] at q
      obtain ⟨⟨⟨⟨⟨a1, a2⟩, a3⟩, a4⟩, a5⟩, a6⟩ := q
      have b1 := beq_iff_eq.mp a1
      have b2 := beq_iff_eq.mp a2
      have b6 := beq_iff_eq.mp a6
      have b3 : c1.hasDel = false := by simpa using a3
      cases c1 with
      | mk nm bs mro ns qn hd sn sub ab col del =>
        have b1' : C2 = C := b1
        have b2' : n2 = nid := b2
        have b3' : del = false := b3
        have em' : mro = .ref C2 :: tl := em
        have e5 : s1 = #[j0, j1, j2, j3, some (.builtin n2), j5] := by
          cases s1 with
          | mk li => exact congrArg Array.mk es
        rw [e5, em', b3', b1', b2'] at lk
        exact ⟨tl, ns, nm, qn, bs, hd, sn, sub, ab, col, d1, j0, j1, j2, j3, j5, _, kin _ _ lk, .of_isNs (PySem.W.isNs_of_in kin a5), PySem.W.nsMap_none_of_in kin a5 b6, PySem.W.tail_of_in kin a4⟩
    · exact nomatch q
  · exact nomatch q
section
variable {X : Cx} {B : Hp} {e : Expr} {es : List Expr} {ga : Rho → M (List D)} {np cpos pos : Pos} {x : Str} {C : Addr} {bmB : List Value} {nid iid B0 : String}
noncomputable def sRaise (C : Addr) (g : Rho → M (List D)) : Rho → Option Out := fun ρ => lft (g ρ) ρ fun ds => if ds.length ≤ 1000 then some (.ex C ρ) else none
theorem pds_raise (FB : ExcBaseFacts B0 nid iid bmB) (hq : PySem.W.excIn X.K C bmB nid = true) (hm : X.mg x = some (.ref C)) (hg : Gl X x) (hc : X.calm = true) (ha : PDA X B (e :: es) ga) (hdb : (x == ("__debug__" : Str)) = false := by decide)
    (he : starEach (e :: es) X.env = (false, eval e X.env) :: starEach es X.env := by exact star_ok rfl) (hpl : (backTo cpos (starEach es X.env)).any (·.1) = false := by rfl) : PDS X B (.Raise (some (.Call (.Name x np) (e :: es) [] cpos)) none pos) (sRaise C ga) := by
  intro pins s σ H E I h
  obtain ⟨ρ, r, h⟩ := h
  obtain ⟨tl, N, nm, q, bs, hd, sn, sub, ab, col, dd, k0, k1, k2, k3, k5, mN, hC, hN, hni, T⟩ := exc_obj (h := X.base) I.ok.mod.kin hq
  refine wpAny_Raise_call_subT (C := C) (nm := nm) (q := q) (N := N) (bs := bs) (bm := tl) (hdct := hd) (sn := sn) (sub := sub) (ab := ab) (col := col) (dd := dd) (k0 := k0) (k1 := k1) (k2 := k2) (k3 := k3) (k5 := k5)
    FB (mN := mN) (T.hasType FB.hasBase) (I.ok.hd hc) (by rw [he]; show (false || (backTo cpos (starEach es X.env)).any (·.1)) = false; rw [hpl]; rfl) hni (ld_glob I hg hm ⟨rfl, ?_⟩ hdb)
  have hx := ha cpos pins s σ H (fun vs H1 => vs.length ≤ 1000 ∧ Same H H1 ∧ Good X B E (.ex C ρ)) I ⟨ρ, r, (lft_red r h).imp fun ds h1 vs H1 e1 i1 => by
    split at h1
    · rename_i hl; exact ⟨by rw [← i1.length]; exact hl, e1, h1⟩
    · exact False.elim h1⟩
  rw [he] at hx ⊢
  refine Calls.evalArgs_plain (wpAny_mono hx (fun us s2 ⟨vs, H2, I2, rv, hl, e2, gd⟩ => ⟨rfl, by show us.length ≤ sizeLine; rw [← rv.length]; exact le_line hl, I2.bk _ _ hC, hN.keeps I2.bk, T.keeps I2.bk, fun h' ea hm' => ?_⟩) fun _ _ y => y)
  exact gd pins { s2 with heap := h' } σ H2 (.ref ea) (r.mono e2) ⟨ea, rfl, .inl ⟨s2.heap, us, hm', I2⟩⟩
end
end L2.PU

namespace L2.PU
open PySem PySem.Spec PyProof.Rows

section
variable {X : Cx} {B : Hp} {e : Expr} {fa : Rho → M D} {pos p p2 : Pos}
end

section
variable {X : Cx} {pins : List (Addr × Obj)} {σ : St} {H : Hp} {c ea : Addr} {s : Shared} {e : Value}
end
end L2.PU

namespace L2.PU
open PySem PySem.Spec PyProof.Rows

/-- one except clause: of which classes it is known whether they match; the name's slot; the suite -/
structure HD where
  m : Addr → Option Bool
  i : Nat
  G : Rho → Option Out
section
variable {X : Cx} {pins : List (Addr × Obj)} {σ : St} {H B : Hp} {s : Shared} {ρ : Rho}
end

section
variable {X : Cx} {B : Hp} {x n : Str} {i : Nat} {C : Addr} {np pos : Pos} {b₀ : Stmt} {body : List Stmt} {rest : List ExceptHandler} {m : Addr → Option Bool} {G : Rho → Option Out} {hs : List HD}
variable {pins pins' : List (Addr × Obj)} {σ : St} {H : Hp} {s : Shared} {hl : List ExceptHandler} {Q : Flow → Shared → Prop} {c ea : Addr} {e : Value}
end
end L2.PU

namespace L2.PU
open PySem PySem.Spec PyProof.Rows

section
variable {X : Cx} {B : Hp} {k v : Expr} {fk fv : Rho → M D} {pos : Pos}
end
end L2.PU

namespace L2.PU
open PySem PySem.Spec PyProof.Rows

/-! ### comprehensions: what is walked, the names, the test -/
section
variable {X : Cx} {B : Hp} {tg iter c : Expr} {fa : Rho → M D} {ft : Rho → M Bool} {pos p : Pos} {x y : Str} {k k2 : Nat}
noncomputable def itE (f : Rho → M D) : Rho → M (List D) := fun ρ => bnd (f ρ) itD
theorem pit_D (h : PD X B iter fa) : PIt X B tg iter (itE fa) := by
  intro pins s σ H R ρ I r q
  refine pi_D (tg := tg) h pins s σ H R I ⟨ρ, r, (Res.bind q).imp fun d q1 v H1 e1 i1 => ?_⟩
  cases i1 with
  | lst hh rr => exact .inl ⟨_, rfl, ⟨_, hh⟩, q1 _ H1 e1 (itd_list hh rr)⟩
  | tup hh rr => exact .inr ⟨_, rfl, ⟨_, hh⟩, q1 _ H1 e1 (itd_tup hh rr)⟩
  | _ => exact False.elim q1
noncomputable def rngD : D → M (List D)
  | .int j => if -(2 ^ 62) ≤ j ∧ j < 2 ^ 62 then ok (rng 0 j.toNat) else none
  | _ => none
noncomputable def itR (f : Rho → M D) : Rho → M (List D) := fun ρ => bnd (f ρ) rngD
theorem pit_r1 (hg : Gl X "range") (hm : X.mg "range" = none) (h : PD X B c fa) (hs : nostar c = true := by rfl) : PIt X B tg (.Call (.Name "range" p) [c] [] pos) (itR fa) := by
  intro pins s σ H R ρ I r q
  refine pi_range1 (tg := tg) hg hm (pa_cons h pa_nil (star_ok hs)) (star1 hs) pins s σ H R I ⟨ρ, r, (Res.bind q).imp fun d q1 v H1 e1 i1 => ?_⟩
  cases i1 with
  | int j =>
    dsimp only [rngD] at q1
    split at q1
    · rename_i hb; exact ⟨_, rfl, hb.1, hb.2, q1 _ H1 e1 (itd_rng 0 _ H1)⟩
    · exact False.elim q1
  | _ => exact False.elim q1
noncomputable def h1 : D → Option (List D) := fun d => some [d]
theorem pdn_1 (hN : X.N.Nodup) (hi : X.N[k]? = some x) (hx : Loc X.env.scope x) (hf : X.fn x = true ∨ X.env.scope.names.lookup x = some .local := by first | exact .inl rfl | exact .inr rfl | assumption) : PDH X (.Name x pos) [k] h1 := by
  intro pins s σ H v u Q I r h
  obtain ⟨d, es, i, e, q⟩ := h
  cases e
  exact pg_name hN hi hx hf pins s σ H v u Q I r (q [v] (.cons i .nil) rfl)
noncomputable def h2 : D → Option (List D)
  | .tup [a, b] => some [a, b]
  | _ => none
theorem pif_none : PIf X B [] (fun _ => ok true) := .inl ⟨rfl, rfl⟩
theorem pif_some (h : PDT X B c ft) : PIf X B [c] ft := .inr ⟨c, rfl, h⟩
end

/-! ### tuple(x), list(x) -/
section
variable {X : Cx} {B : Hp} {e : Expr} {fa : Rho → M D} {pos p : Pos}
noncomputable def toT : D → M D
  | .lst ds => ok (.tup ds)
  | .tup ds => ok (.tup ds)
  | _ => none
noncomputable def toL : D → M D
  | .lst ds => ok (.lst ds)
  | .tup ds => ok (.lst ds)
  | _ => none
theorem pd_tuple (hg : Gl X "tuple") (hm : X.mg "tuple" = none) (ha : PD X B e fa) (hs : nostar e = true := by rfl) : PD X B (.Call (.Name "tuple" p) [e] [] pos) (f1 toT fa) := by
  refine PE.of (pe_callTy call_tuple_of hg hm boot_tuple (pa_cons ha pa_nil (star_ok hs)) (he := star_ok hs) (hpl := by rfl)) fun σ H Q h => ?_
  obtain ⟨ρ, r1, h⟩ := h
  refine ⟨ρ, r1, (Res.bind h).imp fun d q1 v H1 e1 i1 => ?_⟩
  cases i1 with
  | lst hh rr => exact ⟨_, _, rfl, .inl ⟨hh, fun l hl => q1 _ _ (e1.trans (same_new hl _)) (.tup (SqT.of upd_same) (rr.mono (same_new hl _)))⟩⟩
  | tup hh rr => exact ⟨_, _, rfl, .inr ⟨hh, q1 _ H1 e1 (.tup hh rr)⟩⟩
  | _ => exact False.elim q1
theorem pd_list (hg : Gl X "list") (hm : X.mg "list" = none) (ha : PD X B e fa) (hs : nostar e = true := by rfl) : PD X B (.Call (.Name "list" p) [e] [] pos) (f1 toL fa) := by
  refine PE.of (pe_callTy call_list_of hg hm boot_list (pa_cons ha pa_nil (star_ok hs)) (he := star_ok hs) (hpl := by rfl)) fun σ H Q h => ?_
  obtain ⟨ρ, r1, h⟩ := h
  refine ⟨ρ, r1, (Res.bind h).imp fun d q1 v H1 e1 i1 => ?_⟩
  cases i1 with
  | lst hh rr => exact ⟨_, _, rfl, .inl hh, fun l hl => q1 _ _ (e1.trans (same_new hl _)) (.lst (SqL.of upd_same) (rr.mono (same_new hl _)))⟩
  | tup hh rr => exact ⟨_, _, rfl, .inr hh, fun l hl => q1 _ _ (e1.trans (same_new hl _)) (.lst (SqL.of upd_same) (rr.mono (same_new hl _)))⟩
  | _ => exact False.elim q1
end
end L2.PU

namespace L2.PU
open PySem PySem.Spec PyProof.Rows

/-! ### x in y, x not in y: flat data -/
noncomputable def flD : D → Option V
  | .non => some .non
  | .bl b => some (.bl b)
  | .int i => some (.int i)
  | .str x => some (.str x)
  | _ => none
noncomputable def flL : List D → Option (List V)
  | [] => some []
  | d :: ds => match flD d, flL ds with
    | some v, some vs => some (v :: vs)
    | _, _ => none
noncomputable def seqD : D → Option (List D)
  | .lst ds => some ds
  | .tup ds => some ds
  | _ => none
noncomputable def gIn (neg : Bool) (x y : D) : M D := match flD x, (seqD y).bind flL with
  | some v, some vs => ok (.bl (if neg then !inV v vs else inV v vs))
  | _, _ => none
section
variable {K : PySem.W.Frag} {H : Hp}
theorem fl_is {d : D} {v v' : V} (i : Is K H d v) (h : flD d = some v') : v = v' ∧ flatV v = true := by
  cases i with
  | non => cases h; exact ⟨rfl, rfl⟩
  | bl b => cases h; exact ⟨rfl, rfl⟩
  | int b => cases h; exact ⟨rfl, rfl⟩
  | str b => cases h; exact ⟨rfl, rfl⟩
  | _ => cases h
theorem flL_is : ∀ {ds : List D} {vs vs' : List V}, IsL K H ds vs → flL ds = some vs' → vs = vs' ∧ vs.all flatV = true
  | _, _, _, .nil, h => by cases h; exact ⟨rfl, rfl⟩
  | _, _, _, .cons (d := d) (ds := ds) i r, h => by
    unfold flL at h
    split at h
    · rename_i v0 vs0 h1 h2
      cases h
      obtain ⟨e1, f1⟩ := fl_is i h1
      obtain ⟨e2, f2⟩ := flL_is r h2
      exact ⟨by rw [e1, e2], by rw [List.all_cons, f1, f2]; rfl⟩
    · cases h
end
section
variable {X : Cx} {B : Hp} {a b : Expr} {fa fb : Rho → M D} {pos : Pos}
theorem r_in (neg : Bool) : R2ok X (rIn X.K neg) (gIn neg) := by
  intro H x y dx dy d Q ix iy e q
  unfold gIn at e
  split at e
  · rename_i v vs h1 h2
    cases e
    obtain ⟨e1, f1⟩ := fl_is ix h1
    subst e1
    cases iy with
    | lst hh rr =>
      obtain ⟨e2, f2⟩ := flL_is rr h2
      subst e2
      exact ⟨_, _, rfl, .inl hh, f1, f2, q _ H (Same.refl H) (.bl _)⟩
    | tup hh rr =>
      obtain ⟨e2, f2⟩ := flL_is rr h2
      subst e2
      exact ⟨_, _, rfl, .inr hh, f1, f2, q _ H (Same.refl H) (.bl _)⟩
    | _ => cases h2
  · cases e
theorem in_noerr (neg : Bool) : NoErr (gIn neg) := fun x y c h => by
  unfold gIn at h
  split at h
  · cases h
  · cases h
theorem pdt_in (ha : PD X B a fa) (hb : PD X B b fb) (hm : behindInMarks .In b = false := by rfl) : PDT X B (.Compare a [.In] [b] pos) (testB (b2 (gIn false) fa fb)) := pdt_cmp op_in_seq (r_in false) (in_noerr false) ha hb hm
theorem flL_strs (ss : List Str) : flL (ss.map D.str) = some (ss.map V.str) := by
  induction ss with
  | nil => rfl
  | cons x r ih => rw [List.map_cons, flL, ih]; rfl
theorem inV_strs (x : Str) (ss : List Str) : inV (.str x) (ss.map V.str) = ss.contains x := by
  unfold inV
  induction ss with
  | nil => rfl
  | cons y r ih =>
    rw [List.map_cons, List.any_cons, ih, List.contains_cons]
    show ((decide (y = x)) || _) = _
    by_cases e : x = y
    · subst e; simp
    · have e' : ¬ y = x := fun z => e z.symm
      simp [e, e']
end
end L2.PU

namespace L2.PU
open PySem PySem.Spec PyProof.Rows
theorem lk_nil {env : Env} : lkAll [] env = true := rfl
theorem lk_cons {env : Env} {x : Str} {c : Addr} {cl : List (Str × Addr)} (h1 : env.cells.lookup x = some c) (h2 : env.kindOf x = some .cell ∨ env.kindOf x = some .free) (r : lkAll cl env = true) : lkAll ((x, c) :: cl) env = true := by
  unfold lkAll at r ⊢
  rw [List.all_cons, r, Bool.and_true]
  dsimp only
  rw [h1]
  rcases h2 with h2 | h2 <;> rw [h2] <;> simp
section
variable {X : Cx} {B : Hp} {scope : Scope} {cl : List (Str × Addr)} {N' : List Str} {m : Nat} {tg iter elt : Expr} {ifs : List Expr} {pos : Pos} {ks : List Nat} {G : D → Option (List D)} {ft : Rho → M Bool} {fe : Rho → M D} {it : Rho → M (List D)}
theorem pd_comp1 (hclos : closureFor scope X.env = pure cl) (hcell : scope.names.all (fun y => y.2 != .cell) = true) (hkind : scope.kind = .function) (hnames : scope.names.all (fun y => y.2 != .local || scope.names.lookup y.1 == some .local) = true) (hcl : lkAll cl X.env = true)
    (hnm : nmAll X.N N' (relabel scope X.env) = true) (hf : frAll cl (relabel scope X.env) = true) (hl : N'.length = X.N.length + m) (hks : ks.all (fun k => decide (X.N.length ≤ k)) = true) (hcm : X.calm = true) (hi : PIt X B tg iter it)
    (hg : ∀ C s₀ H₀ ex, PDH (cxC X scope cl N' C s₀ H₀ ex) tg ks G) (ht : ∀ C s₀ H₀ ex B, PIf (cxC X scope cl N' C s₀ H₀ ex) B ifs ft) (he : ∀ C s₀ H₀ ex B, PD (cxC X scope cl N' C s₀ H₀ ex) B elt fe)
    (hs : ∀ x, foldedSetIterable iter X.env x = pure x := by intro _; rfl) : PD X B (.ListComp elt [⟨tg, iter, ifs, 0⟩] scope pos) (cmp m it ks G ft fe) :=
  pd_comp hclos (fun y hy => by have := List.all_eq_true.mp hcell y hy; simpa using this) hkind
    (fun y hy z => by have := List.all_eq_true.mp hnames y hy; rw [z] at this; simpa using this) hcl hnm hf hl
    (fun k hk => of_decide_eq_true (List.all_eq_true.mp hks k hk)) hcm hi hg ht he hs
end
end L2.PU

namespace L2.PU
open PySem PySem.Spec PyProof.Rows

/-! ### + of ints, texts, tuples, lists -/
section
variable {X : Cx} {B : Hp} {a b : Expr} {fa fb : Rho → M D} {pos : Pos}
theorem OpR.or {f : Value → Value → Sem Value} {r r' : R2} (h : OpR X f r) (h' : OpR X f r') : OpR X f (fun x y H Q => r x y H Q ∨ r' x y H Q) := by
  intro pins s σ H x y v u Q I rx ry q
  rcases q with q | q
  · exact h pins s σ H x y v u Q I rx ry q
  · exact h' pins s σ H x y v u Q I rx ry q
noncomputable def rCat0 (K : PySem.W.Frag) : R2 := fun x y H Q => ∃ a b ys, x = .ref a ∧ y = .ref b ∧ SqT K H a [] ∧ SqT K H b ys ∧ Q (.ref b) H
theorem op_cat0 : OpR X (binaryOp .Add) (rCat0 X.K) := by
  intro pins s σ H x y v u Q I rx ry h
  obtain ⟨a, b, ys, rfl, rfl, ha, hb, q⟩ := h
  cases rx
  cases ry
  obtain ⟨its, r1, p1, _⟩ := I.tuple ha
  obtain ⟨its2, r2, p2, _⟩ := I.tuple hb
  have e1 : its = [] := r1.nil_iff.mpr rfl
  subst e1
  obtain ⟨⟨c1, d1, x1, l1⟩, o1, k1, n1, z1⟩ := p1
  obtain ⟨⟨c2, d2, x2, l2⟩, o2, k2, n2, z2⟩ := p2
  dsimp only at k1 z1 k2 z2
  subst k1 z1 k2 z2
  exact concat_meets ⟨_, o1, rfl⟩ ⟨_, o2, rfl⟩ noFill_tuple_add seq_tuple_add PySem.F.slot_tuple_add PySem.F.entry_tuple_add (PySem.F.args_tuple_add_2 _ _)
    (tuple_addW0 a b _ _ n1 n2 d1 d2 l1 l2 rfl) ⟨o1, o2, ⟨.ref b, H, I, rfl, q⟩⟩
noncomputable def rCatG (K : PySem.W.Frag) : R2 := fun x y H Q => ∃ a b xs ys, x = .ref a ∧ y = .ref b ∧ SqL K H a xs ∧ SqL K H b ys ∧ xs.length + ys.length ≤ sizeLine ∧ ∀ p, H p = none → Q (.ref p) (upd H p (.lst (xs ++ ys)))
theorem op_catG : OpR X (binaryOp .Add) (rCatG X.K) := by
  intro pins s σ H x y v u Q I rx ry h
  obtain ⟨a, b, xs, ys, rfl, rfl, ha, hb, hz, q⟩ := h
  cases rx
  cases ry
  obtain ⟨its, r1, p1, _⟩ := I.list ha
  obtain ⟨its2, r2, p2, _⟩ := I.list hb
  have hl1 := r1.length
  have hl2 := r2.length
  obtain ⟨⟨c1, d1, x1, l1⟩, n1, o1, k1, _, z1⟩ := p1
  obtain ⟨⟨c2, d2, x2, l2⟩, n2, o2, k2, _, z2⟩ := p2
  dsimp only at k1 z1 k2 z2
  subst k1 z1 k2 z2
  refine concat_meets ⟨_, o1, rfl⟩ ⟨_, o2, rfl⟩ noFill_list_add seq_list_add PySem.F.slot_list_add PySem.F.entry_list_add (PySem.F.args_list_add_2 _ _)
    (list_addW a b _ _ n1 n2 d1 d2 l1 l2 (by rw [List.size_toArray, List.size_toArray, ← hl1, ← hl2]; exact hz)) ⟨o1, o2, ?_⟩
  have ea : its.toArray ++ its2.toArray = (its ++ its2).toArray := by simp
  rw [ea]
  exact ⟨.ref _, _, I.lnew (t' := s.toks) (r1.append r2) (by rw [List.length_append]; exact hz), rfl, q _ I.fresh⟩
noncomputable def gPlus : D → D → M D
  | .int i, .int j => ok (.int (i + j))
  | .str i, .str j => if i.length + j.length ≤ 100000 then ok (.str (i ++ j)) else none
  | .tup xs, .tup ys => if xs.length + ys.length ≤ 100000 then ok (.tup (xs ++ ys)) else none
  | .lst xs, .lst ys => if xs.length + ys.length ≤ 100000 then ok (.lst (xs ++ ys)) else none
  | _, _ => none
theorem n_plus : NoErr gPlus := by
  intro x y c h
  unfold gPlus at h
  (repeat' split at h) <;> cases h
theorem line5 {n : Nat} (h : n ≤ 100000) : n ≤ sizeLine := Nat.le_trans h (by decide)
noncomputable def rPlus (K : PySem.W.Frag) : R2 := fun x y H Q => (∃ i j, x = .int i ∧ y = .int j ∧ Q (.int (i + j)) H) ∨ (∃ i j, x = .str i ∧ y = .str j ∧ i.length + j.length ≤ sizeLine ∧ Q (.str (i ++ j)) H) ∨ rCat0 K x y H Q ∨ rCatT K x y H Q ∨ rCatG K x y H Q
theorem op_plus : OpR X (binaryOp .Add) (rPlus X.K) := OpR.or op_add (OpR.or op_add_str (OpR.or op_cat0 (OpR.or op_catT op_catG)))
theorem r_plus : R2ok X (rPlus X.K) gPlus := by
  intro H x y dx dy d Q ix iy e q
  unfold gPlus at e
  split at e
  · cases ix; cases iy; cases e
    exact .inl ⟨_, _, rfl, rfl, q _ H (Same.refl H) (.int _)⟩
  · split at e
    · rename_i hz
      cases ix; cases iy; cases e
      exact .inr (.inl ⟨_, _, rfl, rfl, line5 hz, q _ H (Same.refl H) (.str _)⟩)
    · cases e
  · split at e
    · rename_i hz
      cases ix with
      | tup h1 r1 =>
        cases iy with
        | tup h2 r2 =>
          cases e
          rw [r1.length, r2.length] at hz
          cases r1 with
          | nil => exact .inr (.inr (.inl ⟨_, _, _, rfl, rfl, h1, h2, q _ H (Same.refl H) (.tup h2 r2)⟩))
          | cons i1 r1 =>
            refine .inr (.inr (.inr (.inl ⟨_, _, _, _, rfl, rfl, h1, h2, by simp, line5 hz, fun z => ?_, fun z p hp => ?_⟩)))
            · subst z
              cases r2
              exact q _ H (Same.refl H) (by rw [List.append_nil]; exact .tup h1 (.cons i1 r1))
            · exact q _ _ (same_new hp _) (.tup (SqT.of upd_same) ((IsL.append (.cons i1 r1) r2).mono (same_new hp _)))
    · cases e
  · split at e
    · rename_i hz
      cases ix with
      | lst h1 r1 =>
        cases iy with
        | lst h2 r2 =>
          cases e
          rw [r1.length, r2.length] at hz
          exact .inr (.inr (.inr (.inr ⟨_, _, _, _, rfl, rfl, h1, h2, line5 hz, fun p hp => q _ _ (same_new hp _) (.lst (SqL.of upd_same) ((IsL.append r1 r2).mono (same_new hp _)))⟩)))
    · cases e
  · cases e
theorem pd_plus (ha : PD X B a fa) (hb : PD X B b fb) : PD X B (.BinOp a .Add b pos) (b2 gPlus fa fb) := pd_op op_plus r_plus n_plus ha hb
end

/-! ### a text times an int; a part of a text -/
section
variable {X : Cx} {B : Hp} {a b : Expr} {fa fb : Rho → M D} {pos : Pos}
noncomputable def repS (x : Str) (n : Nat) : Str := ⟨(List.replicate n x.cps).foldl (· ++ ·) #[]⟩
noncomputable def rMulS : R2 := fun x y H Q => ∃ z k, x = .str z ∧ y = .int k ∧ 0 ≤ k ∧ z.length ≤ 1000 ∧ k ≤ 1000 ∧ Q (.str (repS z k.toNat)) H
theorem rep0 (x : Str) : repS x 0 = Str.empty := rfl
theorem rep1 (x : Str) : repS x 1 = x := by
  unfold repS
  simp
theorem repE {x : Str} (h : x.length = 0) (n : Nat) : repS x n = x := by
  obtain ⟨c⟩ := x
  have e : c = #[] := Array.size_eq_zero_iff.mp h
  subst e
  unfold repS
  congr 1
  induction n with
  | zero => rfl
  | succ n ih => rw [List.replicate_succ, List.foldl_cons]; exact ih
theorem rep_len (x : Str) (n : Nat) : (repS x n).length = n * x.length := by
  have g : ∀ (m : Nat) (a : Array Nat), ((List.replicate m x.cps).foldl (· ++ ·) a).size = a.size + m * x.cps.size := by
    intro m
    induction m with
    | zero => intro a; simp
    | succ m ih => intro a; rw [List.replicate_succ, List.foldl_cons, ih, Array.size_append, Nat.succ_mul]; omega
  show ((List.replicate n x.cps).foldl (· ++ ·) #[]).size = n * x.cps.size
  rw [g]
  simp
theorem op_mulS : OpR X (binaryOp .Mult) rMulS := by
  intro pins s σ H x y v u Q I rx ry h
  obtain ⟨z, k, rfl, rfl, h0, hz, hk, q⟩ := h
  obtain ⟨t, rfl⟩ := rx
  obtain ⟨t', rfl⟩ := ry
  refine P.mul_str ?_ (fun h1 h2 => ?_) (fun h1 h2 => ?_) ?_
  · have e1 : decide (k < -(2 ^ 63 : Int)) = false := decide_eq_false (by omega)
    have e2 : decide (k ≥ 2 ^ 63) = false := decide_eq_false (by omega)
    rw [e1, e2]; rfl
  · have h3 : (1001 : Int) ≤ (2 ^ 63 - 1) / k := by
      refine Int.le_ediv_of_mul_le (by omega) ?_
      have : (1001 : Int) * k ≤ 1001 * 1000 := by omega
      omega
    omega
  · have h3 : z.length * k.toNat ≤ 1000 * 1000 := Nat.mul_le_mul hz (by omega)
    exact decide_eq_false (by unfold sizeLine; omega)
  · by_cases k0 : k < 1
    · have ek : k.toNat = 0 := by omega
      rw [if_pos k0]
      rw [ek, rep0] at q
      exact ⟨by decide, ⟨.str Str.empty, H, I.tok _, ⟨_, rfl⟩, q⟩⟩
    · rw [if_neg k0]
      split
      · rename_i hh
        have e : repS z k.toNat = z := by
          simp only [Bool.or_eq_true, beq_iff_eq] at hh
          rcases hh with hh | hh
          · have ek : k.toNat = 1 := by omega
            rw [ek, rep1]
          · exact repE hh _
        rw [e] at q
        exact ⟨.str z, H, I, ⟨t, rfl⟩, q⟩
      · have hl : (repS z k.toNat).length ≤ sizeLine := by
          rw [rep_len]
          have : k.toNat * z.length ≤ 1000 * 1000 := Nat.mul_le_mul (by omega) hz
          unfold sizeLine
          omega
        exact ⟨hl, ⟨.str (repS z k.toNat), H, I.tok _, ⟨_, rfl⟩, q⟩⟩
/-- * of ints; of a text and an int -/
noncomputable def gTimes : D → D → M D
  | .int i, .int j => gMul (.int i) (.int j)
  | .str z, .int k => if 0 ≤ k ∧ z.length ≤ 1000 ∧ k ≤ 1000 then ok (.str (repS z k.toNat)) else none
  | _, _ => none
theorem n_times : NoErr gTimes := by
  intro x y c h
  unfold gTimes gMul at h
  (repeat' split at h) <;> cases h
theorem pd_times (ha : PD X B a fa) (hb : PD X B b fb) : PD X B (.BinOp a .Mult b pos) (b2 gTimes fa fb) := by
  refine pd_op (OpR.or op_mulB op_mulS) ?_ n_times ha hb
  intro H x y dx dy d Q ix iy e q
  unfold gTimes at e
  split at e
  · dsimp only [gMul] at e
    split at e
    · rename_i h
      cases ix; cases iy; cases e
      exact .inl ⟨_, _, rfl, rfl, h, q _ H (Same.refl H) (.int _)⟩
    · cases e
  · split at e
    · rename_i h
      cases ix; cases iy; cases e
      exact .inr ⟨_, _, rfl, rfl, h.1, h.2.1, h.2.2, q _ H (Same.refl H) (.str _)⟩
    · cases e
  · cases e
end
end L2.PU

namespace L2.PU
open PySem PySem.Spec PyProof.Rows

/-! ### lists of one's own: made, and changed in place -/
section
variable {K : PySem.W.Frag} {H₀ H : Hp} {ρ : Rho} {σ : St}
theorem Rel.own_new {i : Nat} {a : Addr} {ds : List D} {vs : List V} (r : Rel K H₀ ρ σ H) (hf : H a = none) (im : immL ds = true) (iv : IsL K H ds vs) : Rel K H₀ (ρ.set i (some (.own ds))) (σ.set i (some (.ref a))) (upd H a (.lst vs)) := by
  obtain ⟨O, h1, ho, h2, hl, h3⟩ := r
  have na : ∀ j b, O j = some b → b ≠ a := fun j b q e => by
    subst e
    obtain ⟨u, w, m⟩ := ho j b q; rw [w] at hf; cases hf
  let O' : Nat → Option Addr := fun j => if j = i then some a else O j
  have Oi : O' i = some a := if_pos rfl
  have On : ∀ j, j ≠ i → O' j = O j := fun j e => if_neg e
  have hO' : OwnK (upd H a (.lst vs)) O' := fun j b q => by
    by_cases e : j = i
    · subst e
      rw [Oi] at q
      cases q
      exact ⟨_, upd_same, rfl⟩
    · rw [On j e] at q
      have nb := na j b q
      obtain ⟨u, w, m⟩ := ho j b q
      exact ⟨u, by rw [upd_ne nb]; exact w, m⟩
  have sm : Same (Off H O) (Off (upd H a (.lst vs)) O') := fun b o q => by
    have qh := Off.same H O b o q
    have nb : b ≠ a := fun e => by subst e; rw [hf] at qh; cases qh
    refine Off.of (by rw [upd_ne nb]; exact qh) fun j z => ?_
    by_cases e : j = i
    · subst e
      rw [Oi] at z
      cases z
      exact nb rfl
    · rw [On j e] at z
      exact Off.not q j z
  refine ⟨O', fun j k b q1 q2 => ?_, hO', h2.trans sm, by rw [List.length_set, List.length_set, hl], fun j sv q => ?_⟩
  · by_cases e1 : j = i
    · by_cases e2 : k = i
      · rw [e1, e2]
      · subst e1
        rw [Oi] at q1
        cases q1
        rw [On k e2] at q2
        exact absurd rfl (na k _ q2)
    · by_cases e2 : k = i
      · subst e2
        rw [Oi] at q2
        cases q2
        rw [On j e1] at q1
        exact absurd rfl (na j _ q1)
      · rw [On j e1] at q1
        rw [On k e2] at q2
        exact h1 j k b q1 q2
  · by_cases e : j = i
    · subst e
      have hj : j < ρ.length := by
        have := (List.getElem?_eq_some_iff.mp q).1
        rwa [List.length_set] at this
      rw [List.getElem?_set_self hj] at q
      have q' := Option.some.inj (Option.some.inj q)
      subst q'
      exact ⟨a, vs, Oi, List.getElem?_set_self (by rw [← hl]; exact hj), upd_same, offL_imm hO' im (iv.mono (same_new hf _))⟩
    · rw [List.getElem?_set_ne (Ne.symm e)] at q
      have z := h3 j sv q
      cases sv with
      | sh d' => obtain ⟨v', e1, e2⟩ := z; exact ⟨v', by rw [List.getElem?_set_ne (Ne.symm e)]; exact e1, e2.mono sm⟩
      | own ds' =>
        obtain ⟨b, ws, e1, e2, e3, e4⟩ := z
        exact ⟨b, ws, by rw [On j e]; exact e1, by rw [List.getElem?_set_ne (Ne.symm e)]; exact e2, by rw [upd_ne (na j b e1)]; exact e3, e4.mono sm⟩
      | oin b C dx fs =>
        obtain ⟨e1, e2, e3, ws, e4, e5⟩ := z
        exact ⟨by rw [On j e]; exact e1, by rw [List.getElem?_set_ne (Ne.symm e)]; exact e2, e3, ws, by rw [upd_ne (na j b e1)]; exact e4, e5.mono sm⟩
      | ow o =>
        obtain ⟨b, u, e1, e2, e3, e4⟩ := z
        exact ⟨b, u, by rw [On j e]; exact e1, by rw [List.getElem?_set_ne (Ne.symm e)]; exact e2, by rw [upd_ne (na j b e1)]; exact e3, e4.mono sm⟩
      | tk ks => obtain ⟨b, e1, e2⟩ := z; exact ⟨b, by rw [List.getElem?_set_ne (Ne.symm e)]; exact e1, sm _ _ e2⟩
theorem Rel.own_put {i : Nat} {a : Addr} {ds ds' : List D} {vs' : List V} (O : Nat → Option Addr) (h1 : ∀ i j a, O i = some a → O j = some a → i = j) (ho : OwnK H O) (h2 : Same H₀ (Off H O)) (hl : ρ.length = σ.length)
    (h3 : ∀ i sv, ρ[i]? = some (some sv) → Slot K H O σ i sv) (q : ρ[i]? = some (some (.own ds))) (z1 : O i = some a) (z2 : σ[i]? = some (some (.ref a))) (iv : IsL K (Off H O) ds' vs') : Rel K H₀ (ρ.set i (some (.own ds'))) σ (upd H a (.lst vs')) := by
  have eo : Off (upd H a (.lst vs')) O = Off H O := Off.upd z1
  refine ⟨O, h1, fun j b qj => ?_, by rw [eo]; exact h2, by rw [List.length_set, hl], fun j sv qj => ?_⟩
  · by_cases e : b = a
    · subst e; exact ⟨_, upd_same, rfl⟩
    · obtain ⟨u, w, m⟩ := ho j b qj
      exact ⟨u, by rw [upd_ne e]; exact w, m⟩
  · by_cases e : j = i
    · subst e
      have hj : j < ρ.length := (List.getElem?_eq_some_iff.mp q).1
      rw [List.getElem?_set_self hj] at qj
      have q' := Option.some.inj (Option.some.inj qj)
      subst q'
      exact ⟨a, vs', z1, z2, upd_same, by rw [eo]; exact iv⟩
    · rw [List.getElem?_set_ne (Ne.symm e)] at qj
      have z := h3 j sv qj
      cases sv with
      | sh d' => obtain ⟨v', e1, e2⟩ := z; exact ⟨v', e1, by rw [eo]; exact e2⟩
      | own es =>
        obtain ⟨b, ws, e1, e2, e3, e4⟩ := z
        have nb : b ≠ a := fun w => e (h1 j i a (by rw [← w]; exact e1) z1)
        exact ⟨b, ws, e1, e2, by rw [upd_ne nb]; exact e3, by rw [eo]; exact e4⟩
      | oin b C' dx' fs' =>
        obtain ⟨e1, e2, e3, ws, e4, e5⟩ := z
        have nb : b ≠ a := fun w => e (h1 j i a (by rw [← w]; exact e1) z1)
        exact ⟨e1, e2, e3, ws, by rw [upd_ne nb]; exact e4, by rw [eo]; exact e5⟩
      | ow o =>
        obtain ⟨b, u, e1, e2, e3, e4⟩ := z
        have nb : b ≠ a := fun w => e (h1 j i a (by rw [← w]; exact e1) z1)
        exact ⟨b, u, e1, e2, by rw [upd_ne nb]; exact e3, by rw [eo]; exact e4⟩
      | tk ks => obtain ⟨b, e1, e2⟩ := z; exact ⟨b, e1, by rw [eo]; exact e2⟩
end

section
variable {X : Cx} {B : Hp} {e e' : Expr} {es : List Expr} {fa fb : Rho → M D} {ga : Rho → M (List D)} {pos pos' p p2 apos cpos : Pos} {x : Str} {i : Nat}
/-- x = [..], a list of one's own -/
noncomputable def sNew (i : Nat) (g : Rho → M (List D)) : Rho → Option Out := fun ρ => lft (g ρ) ρ fun ds => if immL ds = true ∧ ds.length ≤ 1000 then some (.nx (ρ.set i (some (.own ds)))) else none
theorem pds_new (hN : X.N.Nodup) (hi : X.N[i]? = some x) (hx : Loc X.env.scope x) (he : PDA X B es ga) (hs : swapsWith (.List es p) (some (.Name x pos')) pos.line X.env = pure false := by rfl) (hf : X.fn x = true ∨ X.env.scope.names.lookup x = some .local := by first | exact .inl rfl | exact .inr rfl | assumption) :
    PDS X B (.Assign [.Name x pos'] (.List es p) pos) (sNew i ga) := by
  refine PS.of (ps_set hN hi hx (pe_lst he) hs hf) fun E σ H h => ?_
  obtain ⟨ρ, r, h⟩ := h
  refine ⟨ρ, r, (lft_red r h).imp fun ds h1 vs H1 e1 i1 => ?_⟩
  split at h1
  · rename_i hh
    refine ⟨by rw [← i1.length]; exact Nat.le_trans hh.2 (by decide), fun l hl => ?_⟩
    exact h1 _ _ ((r.mono e1).own_new hl hh.1 i1)
  · exact False.elim h1
/-- x.m(..), x a list of one's own -/
noncomputable def sOwn (G : List D → List D → Option (List D)) (i : Nat) (g : Rho → M (List D)) : Rho → Option Out := fun ρ => match ρ[i]? with
  | some (some (.own ds)) => lft (g ρ) ρ fun as => if immL as = true ∧ ds.length < 100000 then (match G ds as with | some ds' => some (.nx (ρ.set i (some (.own ds')))) | none => none) else none
  | _ => none
noncomputable def LMok (r : V → List V → Hp → VK → Prop) (G : List D → List D → Option (List D)) : Prop :=
  ∀ (K : PySem.W.Frag) (H0 H1 : Hp) (l : Addr) (ds as ds' : List D) (vs us : List V) (Q : VK), IsL K H0 ds vs → IsL K H0 as us → H1 l = some (.lst vs) → ds.length < 100000 → G ds as = some ds' → (∀ vs', IsL K H0 ds' vs' → Q .non (upd H1 l (.lst vs'))) → r (.ref l) us H1 Q
theorem pds_own {id : String} {name : Str} {r : V → List V → Hp → VK → Prop} {G : List D → List D → Option (List D)} (slot : PySem.Slot "list" name id) (hty : typeOf (.builtin id) = pure (.type "method_descriptor")) (hm : MtM X id r) (hr : LMok r G)
    (hN : X.N[i]? = some x) (hv : Vis X.env.scope x) (ha : PDA X B (e :: es) ga)
    (hfew : ((backTo cpos (starEach (e :: es) X.env)).all (fun x => !x.1) && (backToKw cpos (keywordEach [] X.env)).all (fun x => x.1.isSome)
      && decide ((e :: es).length + ([] : List Keyword).length + (if ([] : List Keyword).isEmpty then 0 else 1) < 30)) = true)
    (hs : starEach (e :: es) X.env = (false, eval e X.env) :: starEach es X.env) (hplain : (backTo cpos (starEach es X.env)).any (·.1) = false)
    (hline : (apos.endLine == cpos.line) = true := by rfl)
    (hsw : swapsWith (.Call (.Attribute (.Name x p) name apos) (e :: es) [] cpos) none pos.line X.env = pure false := by rfl)
    (hd : (x == ("__debug__" : Str)) = false := by decide) (hcd : (x == ("__classdict__" : Str)) = false := by decide) :
    PDS X B (.Expr (.Call (.Attribute (.Name x p) name apos) (e :: es) [] cpos) pos) (sOwn G i ga) := by
  refine PS.of (ps_expr (pe_bm PySem.F.plainAttrs_list slot hty hm (pe_var hN hv hd hcd) ha (hbase := rfl) (hfew := hfew) (hline := hline) (hs := hs) (hplain := hplain)) hsw) fun E σ H h => ?_
  obtain ⟨ρ, r1, h⟩ := h
  unfold sOwn at h
  split at h
  · rename_i ds q
    obtain ⟨O, h1, ho, h2, hl, h3⟩ := (show Rel X.K B ρ σ H from r1)
    obtain ⟨a, vs, z1, z2, z3, z4⟩ := h3 i _ q
    refine ⟨.ref a, z2, .inl ⟨rfl, _, SqL.of z3⟩, ρ, r1, (lft_red r1 h).imp fun as k1 us H1 e1 i1 => ?_⟩
    split at k1
    · rename_i hh
      split at k1
      · rename_i ds' hG
        have ho1 := ho.mono e1
        refine hr X.K (Off H1 O) H1 a ds as ds' vs us _ (z4.mono (Off.mono e1)) (offL_imm ho1 hh.1 i1) (e1 _ _ z3) hh.2 hG fun vs' i' => ?_
        exact k1 _ _ (Rel.own_put O h1 ho1 (h2.trans (Off.mono e1)) hl (fun j sv qj => (h3 j sv qj).mono e1) q z1 z2 i')
      · exact False.elim k1
    · exact False.elim k1
  · exact False.elim h
/-! append, insert -/
noncomputable def lApp (ds : List D) : List D → Option (List D)
  | [d] => some (ds ++ [d])
  | _ => none
theorem lm_app : LMok rAppend lApp := by
  intro K H0 H1 l ds as ds' vs us Q i1 i2 hl hn hG q
  unfold lApp at hG
  split at hG
  · cases hG
    cases i2 with
    | cons id1 rest =>
      cases rest
      exact ⟨l, vs, _, rfl, rfl, hl, by rw [← i1.length]; exact Nat.lt_of_lt_of_le hn (by decide), q _ (i1.append (.cons id1 .nil))⟩
  · cases hG
theorem pds_append (hN : X.N[i]? = some x) (hv : Vis X.env.scope x) (ha : PD X B e fa) (hs : nostar e = true := by rfl) (hline : (apos.endLine == cpos.line) = true := by rfl)
    (hsw : swapsWith (.Call (.Attribute (.Name x p) "append" apos) [e] [] cpos) none pos.line X.env = pure false := by rfl)
    (hd : (x == ("__debug__" : Str)) = false := by decide) (hcd : (x == ("__classdict__" : Str)) = false := by decide) :
    PDS X B (.Expr (.Call (.Attribute (.Name x p) "append" apos) [e] [] cpos) pos) (sOwn lApp i (aCons fa aNil)) :=
  pds_own PySem.F.slot_list_append PySem.F.type_list_append mt_append lm_app hN hv (pda_cons ha pda_nil (star_ok hs)) (by rw [star1 hs]; rfl) (star_ok hs) rfl hline hsw hd hcd
end

/-! ### any, all, of a list of truths -/
section
variable {X : Cx} {B : Hp} {e : Expr} {fa : Rho → M D} {pos p : Pos}
end
end L2.PU

namespace L2.PU
open PySem PySem.Spec PyProof.Rows

/-! ### f".. {x!r} .." of texts -/
section
variable {X : Cx} {B : Hp} {e : Expr} {es : List Expr} {fa : Rho → M D} {pos p : Pos}
end
end L2.PU

namespace L2.PU
open PySem PySem.Spec PyProof.Rows

/-! ### set(x), len(s), s != t: sets of texts -/
section
variable {X : Cx} {B : Hp} {e a b : Expr} {fa fb : Rho → M D} {pos p p2 pos2 : Pos}
noncomputable def strL : List D → Option (List Str)
  | [] => some []
  | .str x :: ds => match strL ds with | some xs => some (x :: xs) | none => none
  | _ :: _ => none
theorem strL_map (xs : List Str) : strL (xs.map D.str) = some xs := by
  induction xs with
  | nil => rfl
  | cons x r ih => rw [List.map_cons]; unfold strL; rw [ih]
theorem strL_eq : ∀ (ds : List D) {xs : List Str}, strL ds = some xs → ds = xs.map D.str
  | [], _, h => by cases h; rfl
  | .str x :: ds, _, h => by
    unfold strL at h
    split at h
    · rename_i xs hx
      cases h
      rw [strL_eq ds hx]; rfl
    · cases h
  | .non :: _, _, h => nomatch h
  | .bl _ :: _, _, h => nomatch h
  | .int _ :: _, _, h => nomatch h
  | .tup _ :: _, _, h => nomatch h
  | .lst _ :: _, _, h => nomatch h
  | .obj _ _ :: _, _, h => nomatch h
  | .dk _ :: _, _, h => nomatch h
  | .dt _ :: _, _, h => nomatch h
  | .exc _ :: _, _, h => nomatch h
  | .set _ :: _, _, h => nomatch h
theorem strs_at {K : PySem.W.Frag} {H : Hp} : ∀ {xs : List Str} {vs : List V} {its : List Value}, IsL K H (xs.map D.str) vs → Vals vs its → ∀ (i : Nat) (v : Value), its[i]? = some v → ∃ t, v = Value.str (xs.getD i Str.empty) t
  | [], _, _, .nil, r, i, v, h => by cases r; simp at h
  | x :: xs, _, _, .cons i1 r1, r, i, v, h => by
    cases i1
    cases r with
    | cons q r =>
      obtain ⟨t, rfl⟩ := q
      cases i with
      | zero => simp at h; subst h; exact ⟨t, rfl⟩
      | succ i => rw [List.getElem?_cons_succ] at h; exact strs_at r1 r i v h
noncomputable def toS : D → M D
  | .tup ds => match strL ds with | some xs => if xs.length ≤ 2000 then ok (.set (metS xs)) else none | none => none
  | .lst ds => match strL ds with | some xs => if xs.length ≤ 2000 then ok (.set (metS xs)) else none | none => none
  | _ => none
noncomputable def rSet (K : PySem.W.Frag) : List V → Hp → VK → Prop := fun vs H Q => ∃ p ys xs, vs = [.ref p] ∧ (SqL K H p ys ∨ SqT K H p ys) ∧ IsL K H (xs.map D.str) ys ∧ xs.length ≤ 2000 ∧ ∀ l, H l = none → Q (.ref l) (upd H l (.set (fun k => (metS xs).contains k) (metS xs).length))
theorem call_setS (hc : X.calm = true) : CallR X (.type "set") (rSet X.K) := by
  intro pins s σ H vs us Q I r h
  obtain ⟨p, ys, xs, rfl, hq, ix, hz, q⟩ := h
  obtain ⟨u, rfl, rx⟩ := vals1 r
  cases rx
  have hl := ix.length
  rw [List.length_map] at hl
  have fin : ∀ (its : List Value), Vals ys its → ∀ (o : Obj) (n : Nat) (T : String), (T = "list" ∨ T = "tuple") → s.heap.get? p = some o → o.cls = .type T → o.data = .seq its.toArray n → wpAny (model X.prog X.w) X.A (call (.type "set") [.ref p]) (EP X pins σ Q) X.xe s := by
    intro its r' o n T hT ho hcl hd
    have hlen : xs.length = its.toArray.size := by rw [List.size_toArray, ← r'.length, hl]
    refine call_set_seq hT (I.ok.hd hc) ho hcl hd (fun i v hv => strs_at ix r' i v (by simpa using hv)) hlen (by rw [← hlen]; show xs.length + 1 < 4096; omega) fun h' tk z zt kp => ?_
    exact ⟨.ref s.heap.objs.size, _, I.laid (t' := tk) kp (Nat.le_refl _) (show ObjOk X.prog X.w _ h' _ (.set _ _) from ⟨z, zt⟩), rfl, q _ (I.hok.fresh (Nat.le_refl _))⟩
  rcases hq with hq | hq
  · obtain ⟨its, r', ⟨o, n, ho, hcl, _, hd⟩, _⟩ := I.list hq
    exact fin its r' o n "list" (.inl rfl) ho hcl hd
  · obtain ⟨its, r', ⟨o, ho, hcl, n, hd⟩, _⟩ := I.tuple hq
    exact fin its r' o n "tuple" (.inr rfl) ho hcl hd
theorem boot_set : bootBuiltins "set" = some (.type "set") := by decide +kernel
theorem pd_set (hc : X.calm = true) (hg : Gl X "set") (hm : X.mg "set" = none) (ha : PD X B e fa) (hs : nostar e = true := by rfl) : PD X B (.Call (.Name "set" p) [e] [] pos) (f1 toS fa) := by
  refine PE.of (pe_callTy (call_setS hc) hg hm boot_set (pa_cons ha pa_nil (star_ok hs)) (he := star_ok hs) (hpl := by rfl)) fun σ H Q h => ?_
  obtain ⟨ρ, r1, h⟩ := h
  refine ⟨ρ, r1, (Res.bind h).imp fun d q1 v H1 e1 i1 => ?_⟩
  cases i1 with
  | lst hh rr =>
    dsimp only [toS] at q1
    split at q1
    · rename_i xs hx
      have ed := strL_eq _ hx
      subst ed
      split at q1
      · rename_i hz
        exact ⟨_, _, xs, rfl, .inl hh, rr, hz, fun l hl => q1 _ _ (e1.trans (same_new hl _)) (.set upd_same)⟩
      · exact False.elim q1
    · exact False.elim q1
  | tup hh rr =>
    dsimp only [toS] at q1
    split at q1
    · rename_i xs hx
      have ed := strL_eq _ hx
      subst ed
      split at q1
      · rename_i hz
        exact ⟨_, _, xs, rfl, .inr hh, rr, hz, fun l hl => q1 _ _ (e1.trans (same_new hl _)) (.set upd_same)⟩
      · exact False.elim q1
    · exact False.elim q1
  | _ => exact False.elim q1
end
end L2.PU

namespace L2.PU
open PySem PySem.Spec PyProof.Rows

/-! ### t.index(x): texts -/
section
variable {X : Cx} {B : Hp} {e a b : Expr} {fa fb : Rho → M D} {pos p apos cpos : Pos}
end

/-! ### t == (), a tuple and the empty one -/
section
variable {X : Cx} {B : Hp} {e a b : Expr} {fa fb : Rho → M D} {pos : Pos}
end
end L2.PU

namespace L2.PU
open PySem PySem.Spec PyProof.Rows

/-! ### sorted(a set of texts) -/
section
variable {X : Cx} {B : Hp} {e a b : Expr} {fa fb : Rho → M D} {pos p p2 pos2 : Pos}
theorem inv_drew {pins : List (Addr × Obj)} {σ : List (Option V)} {H : Hp} {s : Shared} (I : Inv X pins σ H s) (d : Drawn) : Inv X pins σ H { s with drawn := d } := ⟨I.ok, I.os, I.bare, I.base, I.loc, I.cell, I.free, I.freeC, I.pin, I.hok, I.len⟩
theorem strsD {K : PySem.W.Frag} {H : Hp} : ∀ {vs : List Value} {xs : List Str}, StrsAre vs xs → Vals (xs.map V.str) vs ∧ IsL K H (xs.map D.str) (xs.map V.str)
  | _, _, .nil => ⟨.nil, .nil⟩
  | _, _, .cons y t r => ⟨.cons ⟨t, rfl⟩ (strsD (K := K) (H := H) r).1, .cons (.str y) (strsD r).2⟩
noncomputable def srtD : D → M D
  | .set ss => if ss.length < 64 ∧ ss.Nodup then ok (.lst ((srtS ss).map .str)) else none
  | _ => none
theorem call_sortedS (hc : X.calm = true) : CallR X (.builtin "sorted") (fun xs H Q => ∃ p ss, xs = [.ref p] ∧ H p = some (.set (fun k => (ss : List Str).contains k) ss.length) ∧ ss.length < 64 ∧ ss.Nodup ∧ ∀ l, H l = none → Q (.ref l) (upd H l (.lst ((srtS ss).map V.str)))) := by
  intro pins s σ H xs us Q I r h
  obtain ⟨p, ss, rfl, hp, h64, hn, q⟩ := h
  obtain ⟨u, rfl, rx⟩ := vals1 r
  cases rx
  obtain ⟨z, zt⟩ := (show ObjOk X.prog X.w H s.heap p (.set _ _) from I.hok p _ hp)
  refine sorted_set (I.ok.hd hc) h64 hn z zt fun out l h' tk d m hS hl ho kp => ?_
  have hlen : (srtS ss).length = ss.length := (srtS_perm ss).length_eq
  have hs : sizeLine = 16777216 := sizeLine_eq
  exact ⟨.ref l, _, (inv_drew I d).laid (t' := tk) kp hl (show ObjOk X.prog X.w _ h' _ (.lst _) from ⟨by rw [List.length_map]; omega, out, m, (strsD (K := X.K) (H := H) hS).1, ho⟩), rfl, q _ (I.hok.fresh hl)⟩
theorem boot_sorted : bootBuiltins "sorted" = some (.builtin "sorted") := by decide +kernel
theorem isl_str {K : PySem.W.Frag} {H : Hp} : ∀ (xs : List Str), IsL K H (xs.map D.str) (xs.map V.str)
  | [] => .nil
  | x :: xs => .cons (.str x) (isl_str xs)
theorem pd_sorted (hc : X.calm = true) (hg : Gl X "sorted") (hm : X.mg "sorted" = none) (ha : PD X B e fa) (hs : nostar e = true := by rfl) : PD X B (.Call (.Name "sorted" p) [e] [] pos) (f1 srtD fa) := by
  refine PE.of (pe_callB (call_sortedS hc) hg hm boot_sorted (pa_cons ha pa_nil (star_ok hs)) (he := star_ok hs) (hpl := by rfl)) fun σ H Q h => ?_
  obtain ⟨ρ, r1, h⟩ := h
  refine ⟨ρ, r1, (Res.bind h).imp fun d q1 v H1 e1 i1 => ?_⟩
  cases i1 with
  | set hh =>
    dsimp only [srtD] at q1
    split at q1
    · rename_i hz
      exact ⟨_, _, rfl, hh, hz.1, hz.2, fun l hl => q1 _ _ (e1.trans (same_new hl _)) (.lst (SqL.of upd_same) (isl_str _))⟩
    · exact False.elim q1
  | _ => exact False.elim q1
end
end L2.PU

namespace L2.PU
open PySem PySem.Spec PyProof.Rows

/-! ### x.extend(y), x a list of one's own, y a list -/
section
variable {X : Cx} {B : Hp} {e e' : Expr} {es : List Expr} {fa fb : Rho → M D} {ga : Rho → M (List D)} {pos pos' p p2 apos cpos : Pos} {x : Str} {i : Nat}
end
end L2.PU

namespace L2.PU
open PySem PySem.Spec PyProof.Rows
noncomputable def viaD (n : Nat) (f : List D → M D) : List D → M D := fun ds => if ds.length = n then (match f ds with | some (.ok d) => some (.ok d) | _ => none) else none
theorem viaD_len {n : Nat} {f : List D → M D} : ∀ ds r, viaD n f ds = some r → ds.length = n := fun ds r h => by
  unfold viaD at h
  split at h
  · assumption
  · cases h
theorem viaD_q {n : Nat} {f : List D → M D} : ∀ ds r, viaD n f ds = some r → ∃ d, r = .ok d ∧ f ds = ok d := fun ds r h => by
  unfold viaD at h
  split at h
  · split at h
    · rename_i d hd
      cases h
      exact ⟨d, rfl, hd⟩
    · cases h
  · cases h
theorem viaD_of {n : Nat} {f : List D → M D} {ds : List D} {d : D} (hl : ds.length = n) (h : f ds = ok d) : viaD n f ds = ok d := by unfold viaD; rw [if_pos hl, h]; rfl
/-! ### tuples of texts -/
noncomputable abbrev tS (xs : List Str) : D := .tup (xs.map D.str)
theorem immL_strs (xs : List Str) : immL (xs.map D.str) = true := by
  induction xs with
  | nil => rfl
  | cons x r ih => rw [List.map_cons, immL, ih]; rfl
theorem imm_tS (xs : List Str) : (tS xs).imm = true := immL_strs xs
theorem in_tS (neg : Bool) (x : Str) (h : List Str) : gIn neg (.str x) (tS h) = ok (.bl (if neg then !h.contains x else h.contains x)) := by
  unfold gIn
  simp only [flD, seqD, Option.bind_some, flL_strs, inV_strs]
theorem cmpL_strs {k : Nat} {ft : Rho → M Bool} {fe : Rho → M D} {ρ : Rho} {p : Str → Bool} {g : Str → D} : ∀ (l : List Str), (∀ x ∈ l, ft (ρ.set k (some (.sh (.str x)))) = ok (p x)) → (∀ x ∈ l, p x = true → fe (ρ.set k (some (.sh (.str x)))) = ok (g x) ∧ (g x).imm = true) →
    cmpL [k] h1 ft fe (l.map D.str) ρ = ok ((l.filter p).map g)
  | [], _, _ => rfl
  | x :: l, h1', h2' => by
    have ih := cmpL_strs (p := p) (g := g) l (fun y hy => h1' y (List.mem_cons_of_mem _ hy)) (fun y hy => h2' y (List.mem_cons_of_mem _ hy))
    have e1 := h1' x List.mem_cons_self
    rw [List.map_cons]
    unfold cmpL
    show (match ft (ρ.set k (some (.sh (.str x)))) with
      | some (.ok true) => (match fe (ρ.set k (some (.sh (.str x)))) with
        | some (.ok r) => if r.imm = true then bnd (cmpL [k] h1 ft fe (l.map D.str) ρ) fun rs => ok (r :: rs) else none
        | _ => none)
      | some (.ok false) => cmpL [k] h1 ft fe (l.map D.str) ρ
      | _ => none) = _
    rw [e1, ih]
    cases hp : p x with
    | true =>
      obtain ⟨e2, e3⟩ := h2' x List.mem_cons_self hp
      rw [e2, List.filter_cons_of_pos hp]
      show (if (g x).imm = true then bnd (ok ((l.filter p).map g)) fun rs => ok (g x :: rs) else none) = _
      rw [if_pos e3]
      rfl
    | false =>
      rw [List.filter_cons_of_neg (by simp [hp])]
      rfl
theorem andB_ok {f g : Rho → M Bool} {ρ : Rho} {a b : Bool} (h1 : f ρ = ok a) (h2 : g ρ = ok b) : andB f g ρ = ok (a && b) := by
  unfold andB
  rw [h1, bnd_ok]
  cases a
  · rfl
  · rw [if_pos rfl, h2]; rfl
theorem orB_ok {f g : Rho → M Bool} {ρ : Rho} {a b : Bool} (h1 : f ρ = ok a) (h2 : g ρ = ok b) : orB f g ρ = ok (a || b) := by
  unfold orB
  rw [h1, bnd_ok]
  cases a
  · rw [if_neg (by decide), h2]; rfl
  · rfl
/-! ### messages -/
theorem len_app (a b : Str) : (a ++ b).length = a.length + b.length := PySem.strLen_append a b
theorem metS_self {l : List Str} (h : l.Nodup) : metS l = l := by
  have g : ∀ (vs σ : List Str), (σ ++ vs).Nodup → vs.foldl addS σ = σ ++ vs := by
    intro vs
    induction vs with
    | nil => intro σ _; simp
    | cons v vs ih =>
      intro σ hn
      rw [List.foldl_cons]
      have hv : σ.contains v = false := by
        cases hc : σ.contains v with
        | false => rfl
        | true =>
          have hm := List.contains_iff_mem.mp hc
          rw [List.nodup_append] at hn
          exact absurd rfl (hn.2.2 v hm v List.mem_cons_self)
      have e : addS σ v = σ ++ [v] := by unfold addS; rw [hv]; rfl
      rw [e, ih (σ ++ [v]) (by rw [List.append_assoc]; exact hn), List.append_assoc]
      rfl
  have := g l [] (by simpa using h)
  simpa [metS] using this
/-! ### the drawn names -/
noncomputable abbrev L (s : Str) : List Nat := s.cps.toList
theorem L_app (a b : Str) : L (a ++ b) = L a ++ L b := by
  show (a.cps ++ b.cps).toList = _
  rw [Array.toList_append]
theorem len_L (s : Str) : s.length = (L s).length := by simp [Str.length]
theorem cut_len (z : Str) (lo hi : Option Int) : (strCut z lo hi).length ≤ z.length := by
  rw [len_L, len_L]
  have e : L (strCut z lo hi) = (z.cps.toList.drop (HT.sIx z.length 0 lo)).take (HT.sIx z.length z.length hi - HT.sIx z.length 0 lo) := by simp [strCut]
  rw [e, List.length_take, List.length_drop]
  show _ ≤ z.cps.toList.length
  omega
noncomputable def chs : Str := "aXq 0~zB-c!_dEf.gH1i(jK"
theorem chs_len : (L chs).length = 23 := by decide +kernel
theorem chs_nd : (L chs).Nodup := by decide +kernel
noncomputable def chr (i : Nat) : Str := ⟨#[(L chs).getD i 0]⟩
noncomputable def nam (st k : Int) : Str :=
  if st / 23 % 3 = 1 then strCut "zz" none (some (st % 3)) ++ repS "a" ((5 * k + st) % 23).toNat
  else strCut "zyzy" none (some (st / 69 % 4)) ++ chr ((5 * k + st) % 23).toNat ++ strCut "yzzy" none (some (st / 276 % 4))
theorem chr_at {i : Nat} (h : i < 23) : (L chs)[i]? = some ((L chs).getD i 0) := by
  have h' : i < (L chs).length := by rw [chs_len]; exact h
  rw [List.getD_eq_getElem?_getD, List.getElem?_eq_getElem h']
  rfl
theorem nam_inj {st k k' : Int} (h1 : 0 ≤ k) (h2 : k < 23) (h3 : 0 ≤ k') (h4 : k' < 23) (e : nam st k = nam st k') : k = k' := by
  have lo : ∀ z : Int, 0 ≤ z % 23 ∧ z % 23 < 23 := fun z => by omega
  obtain ⟨a1, a2⟩ := lo (5 * k + st)
  obtain ⟨b1, b2⟩ := lo (5 * k' + st)
  have key : ((5 * k + st) % 23).toNat = ((5 * k' + st) % 23).toNat → k = k' := fun q => by omega
  unfold nam at e
  split at e
  · have el := congrArg Str.length e
    rw [len_app, len_app, rep_len, rep_len] at el
    have e1 : (("a" : Str)).length = 1 := by decide +kernel
    rw [e1] at el
    exact key (by omega)
  · have el := congrArg L e
    rw [L_app, L_app, L_app, L_app] at el
    have el2 := List.append_cancel_right el
    have el3 := List.append_cancel_left el2
    have ec : (L chs).getD ((5 * k + st) % 23).toNat 0 = (L chs).getD ((5 * k' + st) % 23).toNat 0 := by
      have : [(L chs).getD ((5 * k + st) % 23).toNat 0] = [(L chs).getD ((5 * k' + st) % 23).toNat 0] := by simpa [chr] using el3
      injection this
    have n1 : ((5 * k + st) % 23).toNat < (L chs).length := by rw [chs_len]; omega
    have n2 : ((5 * k' + st) % 23).toNat < (L chs).length := by rw [chs_len]; omega
    rw [List.getD_eq_getElem?_getD, List.getD_eq_getElem?_getD, List.getElem?_eq_getElem n1, List.getElem?_eq_getElem n2] at ec
    exact key ((List.getElem_inj chs_nd).mp ec)
theorem mulB_int {i j : Int} (h1 : 0 ≤ i) (h2 : i < 1000000000000000000000000000000) (h3 : 0 ≤ j) (h4 : j < 1000000000000000000000000000000) : mulB i j = true := by
  have q : ∀ z : Int, 0 ≤ z → z < 1000000000000000000000000000000 → z.natAbs < 2 ^ 1048576 := fun z a b => pow_line (m := 100) (by omega) (by decide)
  exact mulB_of (q i h1 h2) (q j h3 h4)
noncomputable def denName : Rho → Option Out :=
    (sSeq (sSet 2 (b2 gMod (b2 gPlus (b2 gTimes (con (.int 5)) (look 1)) (look 0)) (con (.int 23))))
    (sSeq (sIf (testB (b2 gEq (b2 gMod (b2 gFdiv (look 0) (con (.int 23))) (con (.int 3))) (con (.int 1)))) (sSeq (sRet (b2 gPlus (cut3 (con (.str "zz")) oNone (oPart (b2 gMod (look 0) (con (.int 3))))) (b2 gTimes (con (.str "a")) (look 2))))
    sNil) sNil)
    (sSeq (sRet (b2 gPlus (b2 gPlus (cut3 (con (.str "zyzy")) oNone (oPart (b2 gMod (b2 gFdiv (look 0) (con (.int 69))) (con (.int 4))))) (b2 gIx (con (.str "aXq 0~zB-c!_dEf.gH1i(jK")) (look 2))) (cut3 (con (.str "yzzy")) oNone (oPart (b2 gMod (b2 gFdiv (look 0) (con (.int 276))) (con (.int 4)))))))
    sNil)))
theorem name_sp {st k : Int} (h1 : 0 ≤ st) (h2 : st < 2000) (h3 : 0 ≤ k) (h4 : k < 1000) : fnRes (denName [some (.sh (.int st)), some (.sh (.int k)), none]) = ok (.str (nam st k)) := by
  have hm : mulB 5 k = true := mulB_int (by omega) (by omega) (by omega) (by omega)
  have a1 : 0 ≤ (5 * k + st) % 23 ∧ (5 * k + st) % 23 < 23 := by omega
  have s1 : sSet 2 (b2 gMod (b2 gPlus (b2 gTimes (con (.int 5)) (look 1)) (look 0)) (con (.int 23))) [some (.sh (.int st)), some (.sh (.int k)), none] = some (.nx [some (.sh (.int st)), some (.sh (.int k)), some (.sh (.int ((5 * k + st) % 23)))]) := by
    simp [sSet, b2, look, con, bnd, ok, lft, gMod, gPlus, gTimes, gMul, SV.cur, hm, setV, D.imm]
  have l1 : (("zz" : Str)).length = 2 := by decide +kernel
  have l2 : (("zyzy" : Str)).length = 4 := by decide +kernel
  have l3 : (("yzzy" : Str)).length = 4 := by decide +kernel
  have l4 : (("a" : Str)).length = 1 := by decide +kernel
  have l5 : chs.length = 23 := by decide +kernel
  have d2 : b2 gEq (b2 gMod (b2 gFdiv (look 0) (con (.int 23))) (con (.int 3))) (con (.int 1)) [some (.sh (.int st)), some (.sh (.int k)), some (.sh (.int ((5 * k + st) % 23)))] = ok (.bl (decide (st / 23 % 3 = 1))) := by
    simp [b2, look, con, bnd, ok, gMod, gFdiv, gEq, eqF, SV.cur]
  have cut : ∀ (z : Str) (f : Rho → M D) (i : Int) (ρ : Rho), z.length ≤ 1000 → f ρ = ok (.int i) → cut3 (con (.str z)) oNone (oPart f) ρ = ok (.str (strCut z none (some i))) := fun z f i ρ hz hf => by
    unfold cut3 oPart oNone con
    rw [hf]
    simp only [bnd_ok]
    show (if z.length ≤ 1000 then ok (D.str (strCut z none (some i))) else none) = _
    rw [if_pos hz]
  have plus : ∀ (f g : Rho → M D) (x y : Str) (ρ : Rho), x.length ≤ 1000 → y.length ≤ 1000 → f ρ = ok (.str x) → g ρ = ok (.str y) → b2 gPlus f g ρ = ok (.str (x ++ y)) := fun f g x y ρ hx hy hf hg => by
    refine b2_ok hf hg ?_
    show (if x.length + y.length ≤ 100000 then ok (D.str (x ++ y)) else none) = _
    rw [if_pos (by omega)]
  have md : ∀ (d : Int), 0 < d → b2 gMod (look 0) (con (.int d)) [some (.sh (.int st)), some (.sh (.int k)), some (.sh (.int ((5 * k + st) % 23)))] = ok (.int (st % d)) := fun d hd => by
    simp [b2, look, con, bnd, ok, gMod, SV.cur, hd]
  have mf : ∀ (d e : Int), 0 < d → 0 < e → d < 1000 → b2 gMod (b2 gFdiv (look 0) (con (.int d))) (con (.int e)) [some (.sh (.int st)), some (.sh (.int k)), some (.sh (.int ((5 * k + st) % 23)))] = ok (.int (st / d % e)) := fun d e hd he hd2 => by
    have hd3 : d < 1073741824 := by omega
    simp [b2, look, con, bnd, ok, gMod, gFdiv, SV.cur, hd, he, hd3]
  unfold denName
  rw [sSeq_nx s1]
  by_cases hb : st / 23 % 3 = 1
  · rw [decide_eq_true hb] at d2
    have t2 : b2 gTimes (con (.str "a")) (look 2) [some (.sh (.int st)), some (.sh (.int k)), some (.sh (.int ((5 * k + st) % 23)))] = ok (.str (repS "a" ((5 * k + st) % 23).toNat)) := by
      refine b2_ok (x := .str "a") (y := .int ((5 * k + st) % 23)) rfl rfl ?_
      show (if 0 ≤ (5 * k + st) % 23 ∧ (("a" : Str)).length ≤ 1000 ∧ (5 * k + st) % 23 ≤ 1000 then ok (D.str (repS "a" ((5 * k + st) % 23).toNat)) else none) = _
      rw [if_pos ⟨a1.1, by rw [l4]; decide, by omega⟩]
    have c1 := cut "zz" (b2 gMod (look 0) (con (.int 3))) _ _ (by rw [l1]; decide) (md 3 (by decide))
    have p1 := plus _ _ _ _ _ (by have := cut_len "zz" none (some (st % 3)); omega) (by rw [rep_len, l4]; omega) c1 t2
    rw [sSeq_rt ((sIf_t (testB_ok d2)).trans (sSeq_rt (sRet_ok p1)))]
    unfold nam
    rw [if_pos hb]
    rfl
  · rw [decide_eq_false hb] at d2
    rw [sSeq_nx ((sIf_f (testB_ok d2)).trans rfl)]
    have c1 := cut "zyzy" (b2 gMod (b2 gFdiv (look 0) (con (.int 69))) (con (.int 4))) _ _ (by rw [l2]; decide) (mf 69 4 (by decide) (by decide) (by decide))
    have c2 := cut "yzzy" (b2 gMod (b2 gFdiv (look 0) (con (.int 276))) (con (.int 4))) _ _ (by rw [l3]; decide) (mf 276 4 (by decide) (by decide) (by decide))
    have i1 : b2 gIx (con (.str "aXq 0~zB-c!_dEf.gH1i(jK")) (look 2) [some (.sh (.int st)), some (.sh (.int k)), some (.sh (.int ((5 * k + st) % 23)))] = ok (.str (chr ((5 * k + st) % 23).toNat)) := by
      refine b2_ok (x := .str chs) (y := .int ((5 * k + st) % 23)) rfl rfl ?_
      show (if chs.length ≤ 1000 then (match atI (L chs) ((5 * k + st) % 23) with | some c => ok (D.str ⟨#[c]⟩) | none => none) else none) = _
      have ea : atI (L chs) ((5 * k + st) % 23) = some ((L chs).getD ((5 * k + st) % 23).toNat 0) := by
        have e : (5 * k + st) % 23 = (((5 * k + st) % 23).toNat : Int) := by omega
        rw [e, Int.toNat_natCast]
        exact atI_nat (chr_at (by omega))
      rw [if_pos (by rw [l5]; decide), ea]
      rfl
    have p1 := plus _ _ _ _ _ (by have := cut_len "zyzy" none (some (st / 69 % 4)); omega) (show (chr ((5 * k + st) % 23).toNat).length ≤ 1000 from (show 1 ≤ 1000 by decide)) c1 i1
    have p2 := plus _ _ _ _ _ (by rw [len_app]; have := cut_len "zyzy" none (some (st / 69 % 4)); have e : (chr ((5 * k + st) % 23).toNat).length = 1 := rfl; omega) (by have := cut_len "yzzy" none (some (st / 276 % 4)); omega) p1 c2
    rw [sSeq_rt (sRet_ok p2)]
    unfold nam
    rw [if_neg hb]
    rfl
noncomputable def fName : List D → M D
  | [.int st, .int k] => if 0 ≤ st ∧ st < 2000 ∧ 0 ≤ k ∧ k < 1000 then ok (.str (nam st k)) else none
  | _ => none
theorem fName_len : ∀ ds r, fName ds = some r → ds.length = 2 := by
  intro ds r h
  unfold fName at h
  split at h
  · rfl
  · cases h
theorem name_den (N : List Str) (hN : N.length = 3) : ∀ ds r, fName ds = some r → ∃ d, r = .ok d ∧ fnRes (denName (rho0 N ds)) = ok d := by
  intro ds r h
  unfold fName at h
  split at h
  · rename_i st k
    split at h
    · rename_i q
      cases h
      refine ⟨_, rfl, ?_⟩
      have e0 : rho0 N [.int st, .int k] = [some (.sh (.int st)), some (.sh (.int k)), none] := by unfold rho0; rw [hN]; rfl
      rw [e0]
      exact name_sp q.1 q.2.1 q.2.2.1 q.2.2.2
    · cases h
  · cases h
theorem fName_ok {st k : Int} (h : 0 ≤ st ∧ st < 2000 ∧ 0 ≤ k ∧ k < 1000) : fName [.int st, .int k] = ok (.str (nam st k)) := if_pos h
theorem pl_tS : ∀ (xs : List Str), xs.length ≤ 1000 → (tS xs).pl = true := fun xs h => by
  have g : ∀ ys : List Str, plL (ys.map D.str) = true := by
    intro ys
    induction ys with
    | nil => rfl
    | cons y r ih => rw [List.map_cons, plL, ih]; rfl
  show (decide ((xs.map D.str).length ≤ 100000) && plL (xs.map D.str)) = true
  rw [g, List.length_map, decide_eq_true (by omega)]
  rfl
theorem dep_tS (xs : List Str) : (tS xs).dep ≤ 1 := by
  have g : ∀ ys : List Str, depL (ys.map D.str) = 0 := by
    intro ys
    induction ys with
    | nil => rfl
    | cons y r ih => rw [List.map_cons, depL, ih]; rfl
  show depL (xs.map D.str) + 1 ≤ 1
  rw [g]
  exact Nat.le_refl _
theorem at_app {ns : List Int} {rest : Rho} (k : Nat) : app fAt (aCons (look 0) (aCons (con (.int (k : Int))) aNil)) (some (.sh (.lst (ns.map D.int))) :: rest) = ok (.int (atZ ns k)) := by
  rw [app_ok (aCons_ok (d := .lst (ns.map D.int)) rfl (aCons_ok (d := .int (k : Int)) rfl aNil_ok))]
  exact fAt_ints ns k
theorem mod_ok {f g : Rho → M D} {ρ : Rho} {i j : Int} (h1 : f ρ = ok (.int i)) (h2 : g ρ = ok (.int j)) (hj : 0 < j) : b2 gMod f g ρ = ok (.int (i % j)) := by
  refine b2_ok h1 h2 ?_
  show (if 0 < j then ok (D.int (i % j)) else none) = _
  rw [if_pos hj]
theorem fdiv_ok {f g : Rho → M D} {ρ : Rho} {i j : Int} (h1 : f ρ = ok (.int i)) (h2 : g ρ = ok (.int j)) (hj : 0 < j) (hj2 : j < 1073741824) : b2 gFdiv f g ρ = ok (.int (i / j)) := by
  refine b2_ok h1 h2 ?_
  simp [gFdiv, hj, hj2]
theorem add_ok {f g : Rho → M D} {ρ : Rho} {i j : Int} (h1 : f ρ = ok (.int i)) (h2 : g ρ = ok (.int j)) : b2 gPlus f g ρ = ok (.int (i + j)) := b2_ok h1 h2 rfl
theorem eqi_ok {f g : Rho → M D} {ρ : Rho} {i j : Int} (h1 : f ρ = ok (.int i)) (h2 : g ρ = ok (.int j)) : b2 gEq f g ρ = ok (.bl (decide (i = j))) := b2_ok h1 h2 rfl
theorem in_ok {neg : Bool} {f g : Rho → M D} {ρ : Rho} {x : Str} {h : List Str} (h1 : f ρ = ok (.str x)) (h2 : g ρ = ok (tS h)) : b2 (gIn neg) f g ρ = ok (.bl (if neg then !h.contains x else h.contains x)) := b2_ok h1 h2 (in_tS neg x h)
theorem cmp_ok {m k : Nat} {it : Rho → M (List D)} {ft : Rho → M Bool} {fe : Rho → M D} {ρ : Rho} {l : List Str} {p : Str → Bool} {g : Str → D} (hi : it ρ = ok (l.map D.str)) (hl : l.length ≤ 1000)
    (h1' : ∀ x ∈ l, ft ((ext m (free ρ)).set k (some (.sh (.str x)))) = ok (p x)) (h2' : ∀ x ∈ l, p x = true → fe ((ext m (free ρ)).set k (some (.sh (.str x)))) = ok (g x) ∧ (g x).imm = true) :
    cmp m it [k] h1 ft fe ρ = ok (.lst ((l.filter p).map g)) := by
  unfold cmp
  rw [hi, bnd_ok, if_pos (by rw [List.length_map]; omega), cmpL_strs l h1' h2', bnd_ok]
theorem sSet_imm {i : Nat} {f : Rho → M D} {ρ : Rho} {d : D} (h : f ρ = ok d) (hd : d.imm = true) : sSet i f ρ = some (.nx (ρ.set i (some (.sh d)))) := by rw [sSet_ok h, setV_imm hd]
theorem sSet_any {i : Nat} {f : Rho → M D} {ρ : Rho} {d : D} (h : f ρ = ok d) (hf : free ρ = ρ) : sSet i f ρ = some (.nx (ρ.set i (some (.sh d)))) := by
  rw [sSet_ok h]
  unfold setV
  split
  · rfl
  · rw [hf]
end L2.PU

namespace L2.PU
open PySem PySem.Spec PyProof.Rows
/-! ### comprehensions over a range; drawn names -/
theorem cmpL_nats {k : Nat} {fe : Rho → M D} {ρ : Rho} {g : Nat → D} : ∀ (l : List Nat), (∀ j ∈ l, fe (ρ.set k (some (.sh (.int (j : Int))))) = ok (g j) ∧ (g j).imm = true) →
    cmpL [k] h1 (fun _ => ok true) fe (l.map fun (j : Nat) => D.int (0 + (j : Int))) ρ = ok (l.map g)
  | [], _ => rfl
  | x :: l, h => by
    have ih := cmpL_nats (g := g) l (fun y hy => h y (List.mem_cons_of_mem _ hy))
    obtain ⟨e1, e2⟩ := h x List.mem_cons_self
    rw [List.map_cons]
    unfold cmpL
    show (match fe (ρ.set k (some (.sh (.int (0 + (x : Int)))))) with
        | some (.ok r) => if r.imm = true then bnd (cmpL [k] h1 (fun _ => ok true) fe (l.map fun (j : Nat) => D.int (0 + (j : Int))) ρ) fun rs => ok (r :: rs) else none
        | _ => none) = _
    rw [Int.zero_add, e1, ih]
    show (if (g x).imm = true then bnd (ok (l.map g)) fun rs => ok (g x :: rs) else none) = _
    rw [if_pos e2]
    rfl
theorem cmp_rng {m k n : Nat} {f : Rho → M D} {fe : Rho → M D} {ρ : Rho} {g : Nat → D} (hf : f ρ = ok (.int (n : Int))) (hn : n ≤ 1000000) (h : ∀ j, j < n → fe ((ext m (free ρ)).set k (some (.sh (.int (j : Int))))) = ok (g j) ∧ (g j).imm = true) :
    cmp m (itR f) [k] h1 (fun _ => ok true) fe ρ = ok (.lst ((List.range n).map g)) := by
  have e : itR f ρ = ok (rng 0 n) := by
    unfold itR
    rw [hf]
    rw [bnd_ok]
    simp only [rngD]
    rw [if_pos ⟨by omega, by omega⟩, Int.toNat_natCast]
  unfold cmp
  rw [e, bnd_ok, if_pos (by unfold rng; rw [List.length_map, List.length_range]; exact hn)]
  unfold rng
  rw [cmpL_nats (List.range n) (fun j hj => h j (List.mem_range.mp hj))]
  rfl
noncomputable def nms (n : Nat) (st : Int) : List Str := (List.range n).map fun (j : Nat) => nam st (j : Int)
theorem nms_len (n : Nat) (st : Int) : (nms n st).length = n := by unfold nms; rw [List.length_map, List.length_range]
theorem nms_nd (n : Nat) (hn : n ≤ 23) (st : Int) : (nms n st).Nodup := by
  unfold nms
  unfold List.Nodup
  rw [List.pairwise_map]
  refine List.Pairwise.imp_of_mem (R := (· < ·)) ?_ List.pairwise_lt_range
  intro a b ha hb hab e
  rw [List.mem_range] at ha hb
  have := nam_inj (st := st) (k := a) (k' := b) (by omega) (by omega) (by omega) (by omega) e
  omega
/-- a comprehension of drawn names -/
theorem names_ok {m k n : Nat} {f fs : Rho → M D} {ρ : Rho} {st : Int} (hf : f ρ = ok (.int (n : Int))) (hn : n ≤ 1000) (hst : 0 ≤ st ∧ st < 2000) (hs : ∀ v, fs ((ext m (free ρ)).set k v) = ok (.int st)) (hk : k < (ext m (free ρ)).length) :
    cmp m (itR f) [k] h1 (fun _ => ok true) (app fName (aCons fs (aCons (look k) aNil))) ρ = ok (.lst ((nms n st).map D.str)) := by
  rw [cmp_rng (g := fun j => .str (nam st (j : Int))) hf (by omega) (fun j hj => ⟨?_, rfl⟩)]
  · unfold nms
    rw [List.map_map]
    rfl
  · have lk : look k ((ext m (free ρ)).set k (some (.sh (.int (j : Int))))) = ok (.int (j : Int)) := by
      unfold look
      rw [List.getElem?_set_self hk]
      rfl
    rw [app_ok (aCons_ok (hs _) (aCons_ok lk aNil_ok))]
    exact fName_ok ⟨hst.1, hst.2, by omega, by omega⟩
end L2.PU

namespace L2.PU
open PySem PySem.Spec PyProof.Rows
/-! ### a table laid anew has room: the leaps come past each place -/
noncomputable def git (m : Nat) : Nat → Nat → Nat
  | 0, i => i
  | t + 1, i => git m t ((i * 5 + 1) % m)
theorem git_add (m : Nat) : ∀ (a b i : Nat), git m (a + b) i = git m b (git m a i)
  | 0, b, i => by rw [Nat.zero_add]; rfl
  | a + 1, b, i => by rw [Nat.add_right_comm]; exact git_add m a b _
noncomputable def orb (m : Nat) : Nat → Nat → List Nat
  | 0, _ => []
  | t + 1, i => i :: orb m t ((i * 5 + 1) % m)
theorem orb_mem (m : Nat) : ∀ (n i j : Nat), j ∈ orb m n i → ∃ a, a < n ∧ git m a i = j
  | 0, i, j, h => by cases h
  | n + 1, i, j, h => by
    rcases List.mem_cons.mp h with rfl | h
    · exact ⟨0, Nat.succ_pos n, rfl⟩
    · obtain ⟨a, h1, h2⟩ := orb_mem m n _ j h
      exact ⟨a + 1, Nat.succ_lt_succ h1, h2⟩
/-- the sizes that tables have here -/
noncomputable def Pw (m : Nat) : Prop := m = 8 ∨ m = 16 ∨ m = 32 ∨ m = 64 ∨ m = 128
theorem orb_all {m : Nat} (h : Pw m) : (∀ i, i < m → i ∈ orb m m 0) ∧ git m m 0 = 0 := by
  have g : ∀ m, (List.range m).all (fun i => (orb m m 0).contains i) = true → ∀ i, i < m → i ∈ orb m m 0 := fun m h i hi => by
    rw [List.all_eq_true] at h
    exact List.contains_iff_mem.mp (h i (List.mem_range.mpr hi))
  rcases h with rfl | rfl | rfl | rfl | rfl
  · exact ⟨g 8 (by decide +kernel), by decide +kernel⟩
  · exact ⟨g 16 (by decide +kernel), by decide +kernel⟩
  · exact ⟨g 32 (by decide +kernel), by decide +kernel⟩
  · exact ⟨g 64 (by decide +kernel), by decide +kernel⟩
  · exact ⟨g 128 (by decide +kernel), by decide +kernel⟩
theorem reach {m i j : Nat} (h : Pw m) (hi : i < m) (hj : j < m) : ∃ t, t < m ∧ git m t i = j := by
  obtain ⟨h1, h2⟩ := orb_all h
  obtain ⟨a, ha, ea⟩ := orb_mem m m 0 i (h1 i hi)
  obtain ⟨b, hb, eb⟩ := orb_mem m m 0 j (h1 j hj)
  by_cases q : a ≤ b
  · refine ⟨b - a, by omega, ?_⟩
    rw [← ea, ← git_add, Nat.add_sub_cancel' q]
    exact eb
  · refine ⟨m - a + b, by omega, ?_⟩
    rw [← ea, ← git_add, ← Nat.add_assoc, Nat.add_sub_cancel' (by omega), git_add, h2]
    exact eb
theorem above {n : Nat} (h : n < 128) : Pw (SetTable.sizeAbove n) ∧ n < SetTable.sizeAbove n := by
  have g : (List.range 128).all (fun n => decide ((SetTable.sizeAbove n = 8 ∨ SetTable.sizeAbove n = 16 ∨ SetTable.sizeAbove n = 32 ∨ SetTable.sizeAbove n = 64 ∨ SetTable.sizeAbove n = 128) ∧ n < SetTable.sizeAbove n)) = true := by decide +kernel
  rw [List.all_eq_true] at g
  have := g n (List.mem_range.mpr h)
  rw [decide_eq_true_eq] at this
  exact this
theorem Pw.pos {m : Nat} (h : Pw m) : 0 < m ∧ m ≤ 128 ∧ 8 ≤ m := by rcases h with rfl | rfl | rfl | rfl | rfl <;> decide
/-! a free place is found -/
theorem free_none {mask : Nat} {owner : Array (Option Nat)} {fuel i p : Nat} (h : SetTable.layClean.free mask owner (fuel + 1) i p = none) :
    (owner.getD i (some 0)).isNone = false ∧ SetTable.layClean.free mask owner fuel ((i * 5 + 1 + p / 32) % (mask + 1)) (p / 32) = none := by
  unfold SetTable.layClean.free at h
  split at h
  · cases h
  · rename_i q
    refine ⟨?_, h⟩
    rw [List.find?_eq_none] at q
    have := q 0 (by
      rw [List.mem_range]
      unfold SetTable.runEnd
      split <;> omega)
    rw [Nat.add_zero] at this
    exact Bool.eq_false_iff.mpr this
theorem free_some {mask : Nat} {owner : Array (Option Nat)} : ∀ {fuel i p j : Nat}, SetTable.layClean.free mask owner fuel i p = some j → (owner.getD j (some 0)).isNone = true
  | 0, _, _, _, h => by unfold SetTable.layClean.free at h; cases h
  | fuel + 1, i, p, j, h => by
    unfold SetTable.layClean.free at h
    split at h
    · rename_i k q
      cases h
      have := List.find?_some q
      exact this
    · exact free_some h
theorem free_on {mask : Nat} {owner : Array (Option Nat)} : ∀ (a b i p : Nat), i < mask + 1 → SetTable.layClean.free mask owner (a + b) i p = none → ∃ i', i' < mask + 1 ∧ SetTable.layClean.free mask owner b i' (p / 32 ^ a) = none
  | 0, b, i, p, hi, h => ⟨i, hi, by rw [Nat.zero_add] at h; simpa using h⟩
  | a + 1, b, i, p, hi, h => by
    rw [Nat.add_right_comm] at h
    obtain ⟨i', h1, h2⟩ := free_on a b _ _ (Nat.mod_lt _ (Nat.succ_pos mask)) (free_none h).2
    refine ⟨i', h1, ?_⟩
    rw [Nat.div_div_eq_div_mul, ← Nat.pow_succ'] at h2
    exact h2
theorem free_zero {mask : Nat} {owner : Array (Option Nat)} : ∀ (b i : Nat), SetTable.layClean.free mask owner b i 0 = none → ∀ t, t < b → (owner.getD (git (mask + 1) t i) (some 0)).isNone = false
  | 0, _, _, t, ht => absurd ht (Nat.not_lt_zero t)
  | b + 1, i, h, t, ht => by
    obtain ⟨h1, h2⟩ := free_none h
    cases t with
    | zero => exact h1
    | succ t =>
      rw [Nat.zero_div, Nat.add_zero] at h2
      exact free_zero b _ h2 t (by omega)
theorem free_there {mask : Nat} {owner : Array (Option Nat)} {i p j : Nat} (hm : Pw (mask + 1)) (hi : i < mask + 1) (hp : p < 2 ^ 64) (hj : j < mask + 1) (hn : (owner.getD j (some 0)).isNone = true) :
    ∃ k, SetTable.layClean.free mask owner (SetTable.turns mask) i p = some k ∧ (owner.getD k (some 0)).isNone = true := by
  cases h : SetTable.layClean.free mask owner (SetTable.turns mask) i p with
  | some k => exact ⟨k, rfl, free_some h⟩
  | none =>
    have e : SetTable.turns mask = 13 + (mask + 2) := by unfold SetTable.turns; omega
    rw [e] at h
    obtain ⟨i', h1, h2⟩ := free_on 13 (mask + 2) i p hi h
    have z : p / 32 ^ 13 = 0 := Nat.div_eq_of_lt (Nat.lt_of_lt_of_le hp (by decide))
    rw [z] at h2
    obtain ⟨t, ht, et⟩ := reach hm h1 hj
    have := free_zero _ _ h2 t (by omega)
    rw [et, hn] at this
    cases this
/-! what is laid -/
theorem set_perm {v : Nat} : ∀ (l : List (Option Nat)) (j : Nat), l[j]? = some none → ((l.set j (some v)).filterMap id).Perm (v :: l.filterMap id)
  | [], j, h => by simp at h
  | x :: l, 0, h => by
    simp at h
    subst h
    simp
  | x :: l, j + 1, h => by
    have ih := set_perm (v := v) l j (by simpa using h)
    rw [List.set_cons_succ]
    cases x with
    | none => simpa using ih
    | some y =>
      have e1 : (some y :: l.set j (some v)).filterMap id = y :: (l.set j (some v)).filterMap id := rfl
      have e2 : (some y :: l).filterMap id = y :: l.filterMap id := rfl
      rw [e1, e2]
      exact (ih.cons y).trans (List.Perm.swap v y _)
theorem filterMap_len {l : List (Option Nat)} (h : (l.filterMap id).length < l.length) : ∃ j : Nat, l[j]? = some none := by
  induction l with
  | nil => simp at h
  | cons x l ih =>
    cases x with
    | none => exact ⟨0, rfl⟩
    | some y =>
      obtain ⟨j, hj⟩ := ih (by simpa using h)
      exact ⟨j + 1, by simpa using hj⟩
theorem bits_lt (h : Int) : SetTable.bits h < 2 ^ 64 := by
  unfold SetTable.bits
  omega
theorem lay_fold {mask : Nat} (hm : Pw (mask + 1)) : ∀ (hs : List Int) (owner : Array (Option Nat)) (k : Nat), owner.size = mask + 1 → (owner.toList.filterMap id).Perm (List.range k) → k + hs.length ≤ mask →
    ∃ owner', (hs.foldl (init := some (owner, k)) fun acc h => do
      let (owner, k) ← acc
      let j ← SetTable.layClean.free mask owner (SetTable.turns mask) (SetTable.bits h % (mask + 1)) (SetTable.bits h)
      pure (owner.setIfInBounds j (some k), k + 1)) = some (owner', k + hs.length) ∧ owner'.size = mask + 1 ∧ (owner'.toList.filterMap id).Perm (List.range (k + hs.length))
  | [], owner, k, h1, h2, _ => ⟨owner, rfl, h1, h2⟩
  | h :: hs, owner, k, h1, h2, h3 => by
    rw [List.length_cons] at h3
    have hl : (owner.toList.filterMap id).length < owner.toList.length := by
      rw [h2.length_eq, List.length_range, Array.length_toList, h1]
      omega
    obtain ⟨j, hj⟩ := filterMap_len hl
    have hjl : j < owner.toList.length := (List.getElem?_eq_some_iff.mp hj).1
    rw [Array.length_toList, h1] at hjl
    have hjn : (owner.getD j (some 0)).isNone = true := by
      have : owner[j]? = some none := by rw [← Array.getElem?_toList]; exact hj
      simp [Array.getD_eq_getD_getElem?, this]
    obtain ⟨q, e1, e2⟩ := free_there (i := SetTable.bits h % (mask + 1)) hm (Nat.mod_lt _ (Nat.succ_pos mask)) (bits_lt h) hjl hjn
    have hq : owner.toList[q]? = some none := by
      rw [Array.getElem?_toList]
      cases hq : owner[q]? with
      | none => simp [Array.getD_eq_getD_getElem?, hq] at e2
      | some z =>
        cases z with
        | none => rfl
        | some z => simp [Array.getD_eq_getD_getElem?, hq] at e2
    have hp : ((owner.setIfInBounds q (some k)).toList.filterMap id).Perm (List.range (k + 1)) := by
      rw [Array.toList_setIfInBounds]
      refine (set_perm _ q hq).trans ?_
      rw [List.range_succ]
      exact (h2.cons k).trans (List.perm_append_comm (l₁ := [k]))
    obtain ⟨o', f1, f2, f3⟩ := lay_fold hm hs (owner.setIfInBounds q (some k)) (k + 1) (by simpa using h1) hp (by omega)
    refine ⟨o', ?_, f2, by rw [List.length_cons]; rw [show k + (hs.length + 1) = k + 1 + hs.length by omega]; exact f3⟩
    rw [List.foldl_cons]
    have e3 : (do
      let (owner, k) ← some (owner, k)
      let j ← SetTable.layClean.free mask owner (SetTable.turns mask) (SetTable.bits h % (mask + 1)) (SetTable.bits h)
      pure (owner.setIfInBounds j (some k), k + 1)) = some (owner.setIfInBounds q (some k), k + 1) := by
      show (SetTable.layClean.free mask owner (SetTable.turns mask) (SetTable.bits h % (mask + 1)) (SetTable.bits h)).bind _ = _
      rw [e1]
      rfl
    rw [e3, f1, List.length_cons]
    congr 2
    omega
theorem range_getD {l : List (Option Nat)} : (List.range l.length).filterMap (fun j => l.getD j none) = l.filterMap id := by
  have e : l = (List.range l.length).map (fun j => l.getD j none) := by
    apply List.ext_getElem
    · simp
    · intro i h1 h2
      simp [List.getD_eq_getElem?_getD, h1]
  conv => rhs; rw [e]
  rw [List.filterMap_map]
  rfl
/-- a clean table is laid: each entry once -/
theorem laid_ok {mask finger moves : Nat} {led plain : Bool} {hs : Array Int} (hm : Pw (mask + 1)) (hn : hs.size ≤ mask) :
    ∃ t order, SetTable.laid mask finger moves led plain hs = some (t, order) ∧ order.toList.Perm (List.range hs.size) ∧ t.fits hs.size = true ∧ t.led = led ∧ t.plain = plain ∧ t.mask = mask ∧ t.fill = hs.size := by
  obtain ⟨owner, e1, e2, e3⟩ := lay_fold hm hs.toList (Array.replicate (mask + 1) none) 0 (by simp) (by
    have : ((Array.replicate (mask + 1) (none : Option Nat)).toList.filterMap id) = [] := by
      rw [Array.toList_replicate]
      exact List.filterMap_eq_nil_iff.mpr (fun a ha => by rw [List.eq_of_mem_replicate ha]; rfl)
    rw [this]
    exact List.Perm.refl _) (by simpa using hn)
  rw [Nat.zero_add, Array.length_toList] at e1 e3
  have hc : SetTable.layClean mask hs = some owner := by
    unfold SetTable.layClean
    rw [← Array.foldl_toList, e1]
    rfl
  have e4 : (List.range (mask + 1)).filterMap (fun j => owner.getD j none) = owner.toList.filterMap id := by
    rw [← e2, ← Array.length_toList, ← range_getD]
    congr 1
    funext j
    simp [Array.getD_eq_getD_getElem?, List.getD_eq_getElem?_getD]
  have el : ((List.range (mask + 1)).filterMap fun j => (owner.getD j none).map (j, ·)).map (·.2) = owner.toList.filterMap id := by
    rw [← e4, List.map_filterMap]
    congr 1
    funext j
    cases owner.getD j none <;> rfl
  have ln : ((List.range (mask + 1)).filterMap fun j => (owner.getD j none).map (j, ·)).length = hs.size := by
    rw [← List.length_map (f := (·.2)), el, e3.length_eq, List.length_range]
  refine ⟨_, _, (show SetTable.laid mask finger moves led plain hs = _ from by unfold SetTable.laid; rw [hc]; rfl), ?_, ?_, rfl, rfl, rfl, ?_⟩
  · rw [List.toList_toArray, el]
    exact e3
  · unfold SetTable.fits SetTable.fill
    rw [List.size_toArray, List.length_map, ln]
    simpa using hn
  · unfold SetTable.fill
    rw [List.size_toArray, List.length_map, ln]
    rfl
end L2.PU

namespace L2.PU
open PySem PySem.Spec PyProof.Rows
/-! ### sets of texts merged -/
theorem range_get {α : Type} (l : List α) : (List.range l.length).filterMap (fun i => l[i]?) = l := by
  have e : (List.range l.length).map (fun i => l[i]?) = l.map some := by
    apply List.ext_getElem
    · simp
    · intro i h1 h2
      simp at h1
      simp [h1]
  have : (List.range l.length).filterMap (fun i => l[i]?) = ((List.range l.length).map (fun i => l[i]?)).filterMap id := by rw [List.filterMap_map]; rfl
  rw [this, e, List.filterMap_map]
  simp
section
variable {prog : Program} {w : World} {A : Around} {E : Value → Shared → Prop} {s : Shared}
/-- where a table is empty, it is one of the known sizes -/
noncomputable def Rm (h : Heap) (a : Addr) : Prop := ∀ o es ep t, h.get? a = some o → o.data = .set es ep t → t.fill = 0 → Pw (t.mask + 1)
theorem order_perm {es : Array (Int × Value)} {order : Array Nat} (hp : order.toList.Perm (List.range es.size)) : (order.filterMap (es[·]?)).toList.Perm es.toList := by
  rw [Array.toList_filterMap]
  have := hp.filterMap (fun (i : Nat) => es.toList[i]?)
  rw [← Array.length_toList, range_get] at this
  have e : (fun (i : Nat) => es.toList[i]?) = fun (i : Nat) => es[i]? := by funext i; rw [Array.getElem?_toList]
  rw [e] at this
  exact this
theorem relay_ok {a : Addr} {x : List Str} {wanted : Nat} {Q : Unit → Shared → Prop} (zx : s.heap.SetOf (PySem.strKind prog w) a (fun k => x.contains k) x.length) (zt : Txts w s.heap a) (hw : wanted < 128) (hx : x.length ≤ wanted)
    (h : ∀ h', Heap.SameBut a s.heap h' → h'.SetOf (PySem.strKind prog w) a (fun k => x.contains k) x.length → Txts w h' a → (∃ o es ep t, h'.get? a = some o ∧ o.data = .set es ep t ∧ t.mask + 1 = SetTable.sizeAbove wanted) → Q () { s with heap := h' }) :
    wpAny (model prog w) A (setRelay a wanted) Q E s := by
  obtain ⟨o, es, ep, t, ho, hex, hd, hel, hmem, hb, hf, hn⟩ := id zx
  obtain ⟨o', ho', es', ep', t', hd', hled, hpl⟩ := id zt
  rw [ho] at ho'
  cases ho'
  rw [hd] at hd'
  cases hd'
  obtain ⟨pw, lt⟩ := above hw
  have e1 : SetTable.sizeAbove wanted - 1 + 1 = SetTable.sizeAbove wanted := by omega
  obtain ⟨t2, order, hl, hp, hft, l1, l2, l3, l4⟩ := laid_ok (mask := SetTable.sizeAbove wanted - 1) (finger := t.finger) (moves := t.movedTo (SetTable.sizeAbove wanted - 1)) (led := t.led) (plain := t.plain) (hs := es.map (·.1)) (by rw [e1]; exact pw) (by rw [Array.size_map]; omega)
  rw [Array.size_map] at hp hft
  have hpe := order_perm hp
  have hsz : (order.filterMap (es[·]?)).size = es.size := by rw [← Array.length_toList, hpe.length_eq, Array.length_toList]
  unfold setRelay
  refine wpAny_bind (wpAny_setState_of ho hd hf ?_)
  dsimp only
  have hs : sizeLine = 16777216 := sizeLine_eq
  have hle := pw.pos
  rw [if_neg (by omega)]
  have er : t.relaid (es.map (·.1)) wanted = some (t2, order) := hl
  rw [er]
  refine wpAny_bind ?_
  show wpAny _ _ (if (order.filterMap (es[·]?)).size != es.size then _ else _) _ _ _
  rw [if_neg (by rw [hsz]; simp)]
  refine wpAny_pure ?_
  dsimp only
  refine wpAny_storeSet_of ho hd ?_ (by rw [hsz]; exact fits_of_scanBound hb)
  obtain ⟨o2, z2⟩ := SetOf_store (knd := PySem.strKind prog w) ho hex hd (es' := order.filterMap (es[·]?)) (t' := t2) (S' := fun k => x.contains k) (hel.perm hpe) (fun k => (hmem k).trans ⟨fun ⟨e, he, q⟩ => ⟨e, hpe.mem_iff.mpr he, q⟩, fun ⟨e, he, q⟩ => ⟨e, hpe.mem_iff.mp he, q⟩⟩) (by rw [hsz]; exact hb) (by rw [hsz]; exact hft)
  rw [hsz, hn] at z2
  exact h _ (Heap.SameBut.update _ a _) z2 ⟨_, o2, _, _, _, rfl, by rw [l1]; exact hled, by rw [hsz, l2]; exact hpl⟩ ⟨_, _, _, _, o2, rfl, by rw [l3, e1]⟩
theorem quiet_ok {sets : List Addr} {Q : Bool → Shared → Prop} (hz : ∀ a ∈ sets, ∃ x : List Str, s.heap.SetOf (PySem.strKind prog w) a (fun k => x.contains k) x.length) (q : Q true s) : wpAny (model prog w) A (setsQuiet sets) Q E s := by
  unfold setsQuiet
  refine wpAny_bind (wpAny_forIn_list _ (fun rest st s' => s' = s ∧ st = (none, ()) ∧ ∀ a ∈ rest, ∃ x : List Str, s.heap.SetOf (PySem.strKind prog w) a (fun k => x.contains k) x.length) _ (fun a rest st s' ⟨e1, e2, he⟩ => ?_) (fun st s' ⟨e1, e2, _⟩ => ?_) _ _ ⟨rfl, rfl, hz⟩)
  · subst e1 e2
    obtain ⟨x, o, es, ep, t, ho, hex, hd, hel, hmem, hb, hf, hn⟩ := he a List.mem_cons_self
    refine wpAny_bind (wpAny_setEntries_of ho hd hf ?_)
    refine wpAny_bind (wpAny_forIn_array' _ (fun rest st s2 => s2 = s' ∧ st = (none, ()) ∧ ∀ e ∈ rest, e ∈ es.toList) _ (fun e rest st s2 ⟨e1, e2, he2⟩ => ?_) (fun st s2 ⟨e1, e2, _⟩ => ?_) _ _ ⟨rfl, rfl, fun _ q => q⟩)
    · subst e1 e2
      obtain ⟨⟨z, hz, hh⟩, sc⟩ := hel e (he2 e List.mem_cons_self)
      obtain ⟨u, ez⟩ := Value.isStrOf_shape hz
      obtain ⟨i, v⟩ := e
      dsimp only at ez
      subst ez
      exact wpAny_pure ⟨rfl, rfl, fun e q => he2 e (List.mem_cons_of_mem _ q)⟩
    · subst e1 e2
      exact wpAny_pure ⟨rfl, rfl, fun a q => he a (List.mem_cons_of_mem _ q)⟩
  · subst e1 e2
    exact wpAny_pure q
/-- the entries of a set of texts, in any order; a set that is filled loses its marks -/
theorem unseen_ok {o : Addr} {ob : Obj} {es : Array (Int × Value)} {ep : Nat} {t : SetTable} {y : List Str} {others : List Addr} {f : Addr} {x : List Str} {Q : Array (Int × Value) → Shared → Prop}
    (zy : s.heap.SetOf (PySem.strKind prog w) o (fun k => y.contains k) y.length) (zt : Txts w s.heap o) (ho : s.heap.get? o = some ob) (hd : ob.data = .set es ep t)
    (hz : ∀ a ∈ others, ∃ x : List Str, s.heap.SetOf (PySem.strKind prog w) a (fun k => x.contains k) x.length) (zf : s.heap.SetOf (PySem.strKind prog w) f (fun k => x.contains k) x.length) (zft : Txts w s.heap f)
    (h : ∀ es' h', es'.toList.Perm es.toList → Heap.SameBut f s.heap h' → h'.SetOf (PySem.strKind prog w) f (fun k => x.contains k) x.length → Txts w h' f → Q es' { s with heap := h' }) :
    wpAny (model prog w) A (setWalkUnseen o others (some f)) Q E s := by
  obtain ⟨ob', es', ep', t', ho', hex, hd', hel, hmem, hb, hf, hn⟩ := id zy
  rw [ho] at ho'
  cases ho'
  rw [hd] at hd'
  cases hd'
  obtain ⟨ob', ho', es', ep', t', hd', hled, hpl⟩ := id zt
  rw [ho] at ho'
  cases ho'
  rw [hd] at hd'
  cases hd'
  have same : Q es s := by
    have := h es s.heap (List.Perm.refl _) (Heap.SameBut.refl f s.heap) zf zft
    exact this
  unfold setWalkUnseen
  refine wpAny_bind (wpAny_setState_of ho hd hf ?_)
  dsimp only
  refine wpAny_bind (show wpAny _ _ setsByText _ _ _ from wpAny_bind (wpAny_askSetting (wpAny_pure ?_)))
  show wpAny _ _ (if (w.params.followText "set-order" || t.led && t.plain || decide (es.size ≤ 1)) = true then _ else _) _ _ _
  have walk : (w.params.followText "set-order" = true ∨ es.size ≤ 1) → wpAny (model prog w) A (setWalk o) Q E s := fun hc => by
    unfold setWalk
    refine wpAny_bind (wpAny_setState_of ho hd hf ?_)
    dsimp only
    refine wpAny_bind (show wpAny _ _ setsByText _ _ _ from wpAny_bind (wpAny_askSetting (wpAny_pure ?_)))
    show wpAny _ _ (if w.params.followText "set-order" = true then _ else _) _ _ _
    cases hw : w.params.followText "set-order" with
    | true =>
      rw [if_pos rfl]
      refine wpAny_bind (wpAny_askSetting (wpAny_pure ?_))
      have := h (pickOrder (w.params.setOrder o ep) es) s.heap (pickO_perm _ es) (Heap.SameBut.refl f s.heap) zf zft
      exact this
    | false =>
      rw [hw] at hc
      have hs1 : es.size ≤ 1 := hc.resolve_left (by decide)
      rw [if_neg (by decide)]
      have hdec : (decide (es.size > 1)) = false := decide_eq_false (by omega)
      show wpAny _ _ (if (!t.plain && decide (es.size > 1)) = true then _ else _) _ _ _
      rw [hdec, Bool.and_false, if_neg (by decide)]
      refine wpAny_bind (show wpAny _ _ (if (!t.led && decide (es.size > 1)) = true then _ else pure ()) _ _ _ from ?_)
      rw [hdec, Bool.and_false, if_neg (by decide)]
      exact wpAny_pure (wpAny_pure same)
  cases hc : (w.params.followText "set-order" || t.led && t.plain || decide (es.size ≤ 1)) with
  | true =>
    rw [if_pos rfl]
    refine walk ?_
    rw [Bool.or_eq_true, Bool.or_eq_true] at hc
    rcases hc with (hc | hc) | hc
    · exact .inl hc
    · rw [Bool.and_eq_true] at hc
      rcases hpl with q | q
      · exact .inr (by omega)
      · rw [q] at hc; exact absurd hc.2 (by decide)
    · exact .inr (of_decide_eq_true hc)
  | false =>
    rw [if_neg (by decide)]
    rw [Bool.or_eq_false_iff, Bool.or_eq_false_iff] at hc
    obtain ⟨⟨c1, c2⟩, c3⟩ := hc
    have c3' : 1 < es.size := by have := of_decide_eq_false c3; omega
    have ll : t.led = true := hled.resolve_left (by rw [c1]; decide)
    have lp : t.plain = false := by rw [ll] at c2; simpa using c2
    refine wpAny_bind (quiet_ok (fun a ha => ?_) ?_)
    · rcases List.mem_cons.mp ha with rfl | ha
      · exact ⟨y, zy⟩
      · exact hz a ha
    rw [if_neg (by decide)]
    refine wpAny_bind (wpAny_rule ?_)
    obtain ⟨of, ef, epf, tf, hof, hexf, hdf, helf, hmemf, hbf, hff, hnf⟩ := id zf
    obtain ⟨of', hof', ef', epf', tf', hdf', hledf, hplf⟩ := id zft
    rw [hof] at hof'
    cases hof'
    rw [hdf] at hdf'
    cases hdf'
    refine wpAny_bind (wpAny_setState_of hof hdf hff ?_)
    dsimp only
    split
    · refine wpAny_bind (wpAny_storeSet_of hof hdf (wpAny_pure ?_) (fits_of_scanBound hbf))
      obtain ⟨o2, z2⟩ := SetOf_store (knd := PySem.strKind prog w) hof hexf hdf (es' := ef) (t' := { tf with led := tf.led && t.led, plain := tf.plain && t.plain }) (S' := fun k => x.contains k) helf hmemf hbf hff
      rw [hnf] at z2
      refine h es _ (List.Perm.refl _) (Heap.SameBut.update _ f _) z2 ⟨_, o2, _, _, _, rfl, ?_, .inr (by show (tf.plain && t.plain) = false; rw [lp, Bool.and_false])⟩
      show _ ∨ (tf.led && t.led) = true
      rw [ll, Bool.and_true]
      exact hledf
    · exact wpAny_pure same
end
end L2.PU

namespace L2.PU
open PySem PySem.Spec PyProof.Rows
/-- one list of texts, then those of the other that are new -/
noncomputable def uniS (x y : List Str) : List Str := y.foldl addS x
theorem uni_nodup {x : List Str} (h : x.Nodup) (y : List Str) : (uniS x y).Nodup := metS_nodup_from y x h
theorem uni_has : ∀ (y x : List Str) (k : Str), (uniS x y).contains k = (x.contains k || y.contains k)
  | [], x, k => by simp [uniS]
  | v :: y, x, k => by
    have : uniS x (v :: y) = uniS (addS x v) y := rfl
    rw [this, uni_has y, addS_has, List.contains_cons, Bool.or_assoc]
    congr 2
theorem uni_mem {x y : List Str} {k : Str} : k ∈ uniS x y ↔ k ∈ x ∨ k ∈ y := by
  have := uni_has y x k
  rw [← List.contains_iff_mem, this, Bool.or_eq_true, List.contains_iff_mem, List.contains_iff_mem]
theorem uni_perm {x y y' : List Str} (hx : x.Nodup) (hp : ∀ k, k ∈ y' ↔ k ∈ y) : (uniS x y').length = (uniS x y).length := by
  have p : (uniS x y').Perm (uniS x y) := (List.perm_ext_iff_of_nodup (uni_nodup hx y') (uni_nodup hx y)).mpr fun k => by rw [uni_mem, uni_mem, hp k]
  exact p.length_eq
theorem uni_le (x y : List Str) : (uniS x y).length ≤ x.length + y.length := by
  induction y generalizing x with
  | nil => simp [uniS]
  | cons v y ih =>
    have e : uniS x (v :: y) = uniS (addS x v) y := rfl
    have := ih (addS x v)
    rw [e, List.length_cons]
    have h2 := addS_len x v
    split at h2 <;> omega
section
variable {prog : Program} {w : World} {A : Around} {E : Value → Shared → Prop} {s : Shared}
/-- an entry's text -/
noncomputable def txtE : Int × Value → Str
  | (_, .str k _) => k
  | _ => Str.empty
theorem txtE_of {e : Int × Value} {l : List (Int × Value)} (hel : ElemsOf (PySem.strKind prog w) l) (he : e ∈ l) : ∃ t, e = ((PySem.strKind prog w).hash (txtE e), .str (txtE e) t) := by
  obtain ⟨⟨z, hz, hh⟩, sc⟩ := hel e he
  obtain ⟨u, ez⟩ := Value.isStrOf_shape hz
  obtain ⟨i, v⟩ := e
  dsimp only at ez hh
  subst ez hh
  exact ⟨u, rfl⟩
theorem txt_mem {l : List (Int × Value)} {y : List Str} (hel : ElemsOf (PySem.strKind prog w) l) (hm : ∀ k, y.contains k = true ↔ ∃ e ∈ l, (PySem.strKind prog w).is k e.2 = true) (k : Str) : k ∈ l.map txtE ↔ k ∈ y := by
  rw [← List.contains_iff_mem (as := y), hm k, List.mem_map]
  constructor
  · rintro ⟨e, he, rfl⟩
    obtain ⟨t, et⟩ := txtE_of hel he
    refine ⟨e, he, ?_⟩
    rw [et]
    simp [PySem.strKind, Value.isStrOf, txtE]
  · rintro ⟨e, he, q⟩
    refine ⟨e, he, ?_⟩
    obtain ⟨t, et⟩ := txtE_of hel he
    rw [et] at q
    obtain ⟨u, eu⟩ := Value.isStrOf_shape (x := k) (show Value.isStrOf k (Value.str (txtE e) t) = true from q)
    injection eu
theorem merge_ok {r o : Addr} {x y : List Str} {each : Sem Unit} {Q : Unit → Shared → Prop} (hne : r ≠ o) (hx : x.Nodup) (hy : y.Nodup) (hl : x.length + y.length ≤ 63)
    (zx : s.heap.SetOf (PySem.strKind prog w) r (fun k => x.contains k) x.length) (zt : Txts w s.heap r) (rm : Rm s.heap r)
    (zy : s.heap.SetOf (PySem.strKind prog w) o (fun k => y.contains k) y.length) (zyt : Txts w s.heap o)
    (hE : ∀ (s' : Shared) (Q' : Unit → Shared → Prop), (∀ ob, s.heap.get? o = some ob → s'.heap.get? o = some ob) → Q' () s' → wpAny (model prog w) A each Q' E s')
    (h : ∀ h', Heap.SameBut r s.heap h' → h'.SetOf (PySem.strKind prog w) r (fun k => (uniS x y).contains k) (uniS x y).length → Txts w h' r → Rm h' r → Q () { s with heap := h' }) :
    wpAny (model prog w) A (setMerge r o each) Q E s := by
  obtain ⟨oo, eo, epo, to, hoo, hexo, hdo, helo, hmemo, hbo, hfo, hno⟩ := id zy
  obtain ⟨oo', hoo', eo', epo', to', hdo', hledo, hplo⟩ := id zyt
  rw [hoo] at hoo'
  cases hoo'
  rw [hdo] at hdo'
  cases hdo'
  unfold setMerge
  have hbeq : (r == o) = false := by simpa using hne
  rw [hbeq, if_neg (by decide)]
  refine wpAny_bind (wpAny_setState_of hoo hdo hfo ?_)
  dsimp only
  by_cases hz : eo.size = 0
  · have : eo.isEmpty = true := by simpa using hz
    rw [if_pos this]
    have ey : y = [] := List.eq_nil_of_length_eq_zero (by omega)
    subst ey
    exact wpAny_pure (h s.heap (Heap.SameBut.refl r s.heap) zx zt rm)
  have hemp : eo.isEmpty = false := by
    cases q : eo.isEmpty with
    | false => rfl
    | true => exact absurd (by simpa using q) hz
  rw [hemp, if_neg (by decide)]
  -- room
  have go : ∀ h1, Heap.SameBut r s.heap h1 → h1.SetOf (PySem.strKind prog w) r (fun k => x.contains k) x.length → Txts w h1 r → (∀ ob es ep t, h1.get? r = some ob → ob.data = .set es ep t → t.fill = 0 → Pw (t.mask + 1) ∧ y.length ≤ t.mask) →
      wpAny (model prog w) A (do
        let (_, _, ts) ← setState r
        match ts.road to with
        | .slotForSlot => storeSet r eo { to with finger := ts.finger, led := ts.led && to.led, moves := ts.moves, plain := ts.plain && to.plain }
        | .clean =>
          let (es, t) ← (do
            let some (t, order) := SetTable.laid ts.mask ts.finger ts.moves (led := ts.led && to.led) (plain := ts.plain && to.plain) (eo.map (·.1)) | unsupported "internal:set-table-without-room"
            let es' := order.filterMap (eo[·]?)
            if es'.size != eo.size then unsupported "internal:set-table-lost-an-element"
            pure (es', t))
          storeSet r es t
        | .oneByOne =>
          for (h, x) in ← setWalkUnseen o [r] (some r) do
            let _ ← holding [x] (setAddHashed r x h)
            each
            if (← setState o).2.1 != epo then unsupported "set.changed-during-merge") Q E { s with heap := h1 } := by
    intro h1 sb z1 t1 hm
    obtain ⟨o1, es1, ep1, tt1, ho1, hex1, hd1, hel1, hmem1, hb1, hf1, hn1⟩ := id z1
    obtain ⟨o1', ho1', es1', ep1', tt1', hd1', hled1, hpl1⟩ := id t1
    rw [ho1] at ho1'
    cases ho1'
    rw [hd1] at hd1'
    cases hd1'
    have hoo1 : h1.get? o = some oo := by rw [sb.2 o (Ne.symm hne)]; exact hoo
    refine wpAny_bind (wpAny_setState_of ho1 hd1 hf1 ?_)
    dsimp only
    by_cases hfill : tt1.fill = 0
    · -- the target is empty
      obtain ⟨pw, ym⟩ := hm _ _ _ _ ho1 hd1 hfill
      have hps : tt1.place.size = es1.size ∧ tt1.fill ≤ tt1.mask := by simpa [SetTable.fits] using hf1
      have hes1 : es1.size = 0 := by have : tt1.fill = tt1.place.size + tt1.dummies.size := rfl; omega
      have ex : x = [] := List.eq_nil_of_length_eq_zero (by omega)
      subst ex
      have fin : ∀ (es2 : Array (Int × Value)) (t2 : SetTable), es2.toList.Perm eo.toList → t2.fits eo.size = true → t2.led = (tt1.led && to.led) → t2.plain = (tt1.plain && to.plain) → wpAny (model prog w) A (storeSet r es2 t2) Q E { s with heap := h1 } := by
        intro es2 t2 hp hft l1 l2
        have hsz : es2.size = eo.size := by rw [← Array.length_toList, hp.length_eq, Array.length_toList]
        refine wpAny_storeSet_of ho1 hd1 ?_ (by rw [hsz]; exact fits_of_scanBound hbo)
        obtain ⟨o2, z2⟩ := SetOf_store (knd := PySem.strKind prog w) ho1 hex1 hd1 (es' := es2) (t' := t2) (S' := fun k => y.contains k) (helo.perm hp) (fun k => (hmemo k).trans ⟨fun ⟨e, he, q⟩ => ⟨e, hp.mem_iff.mpr he, q⟩, fun ⟨e, he, q⟩ => ⟨e, hp.mem_iff.mp he, q⟩⟩) (by rw [hsz]; exact hbo) (by rw [hsz]; exact hft)
        have ylen : (uniS [] y).length = y.length := ((List.perm_ext_iff_of_nodup (uni_nodup List.nodup_nil y) hy).mpr fun k => by rw [uni_mem]; simp).length_eq
        have z3 : (h1.update r (Obj.putSet es2 t2)).SetOf (PySem.strKind prog w) r (fun k => (uniS [] y).contains k) (uniS [] y).length := setOf_same (σ := []) z2 (fun k => by rw [uni_has]; simp) (by rw [ylen, hsz, hno])
        refine h _ (sb.trans (Heap.SameBut.update h1 r _)) z3 ⟨_, o2, _, _, _, rfl, ?_, .inr ?_⟩ ?_
        · rw [l1]
          rcases hled1 with q | q
          · exact .inl q
          · rcases hledo with q' | q'
            · exact .inl q'
            · exact .inr (by rw [q, q']; rfl)
        · rw [l2, hplo.resolve_left (by omega), Bool.and_false]
        · intro ob es ep t e1 e2 e3
          rw [o2] at e1
          cases e1
          cases e2
          have : t2.place.size = eo.size ∧ t2.fill ≤ t2.mask := by simpa [SetTable.fits] using hft
          have : t2.fill = t2.place.size + t2.dummies.size := rfl
          omega
      have hroad : tt1.road to = if tt1.mask == to.mask && to.dummies.isEmpty then .slotForSlot else .clean := by
        unfold SetTable.road
        rw [hfill]
        rfl
      rw [hroad]
      cases hc : (tt1.mask == to.mask && to.dummies.isEmpty) with
      | true =>
        rw [if_pos rfl]
        exact fin eo _ (List.Perm.refl _) hfo rfl rfl
      | false =>
        rw [if_neg (by decide)]
        dsimp only
        obtain ⟨t2, order, hld, hp, hft, l1, l2, l3, l4⟩ := laid_ok (mask := tt1.mask) (finger := tt1.finger) (moves := tt1.moves) (led := tt1.led && to.led) (plain := tt1.plain && to.plain) (hs := eo.map (·.1)) pw (by rw [Array.size_map]; omega)
        rw [Array.size_map] at hp hft
        have hpe := order_perm hp
        have hsz : (order.filterMap (eo[·]?)).size = eo.size := by rw [← Array.length_toList, hpe.length_eq, Array.length_toList]
        rw [hld]
        dsimp only
        rw [if_neg (by rw [hsz]; simp)]
        refine wpAny_bind (wpAny_pure ?_)
        dsimp only
        exact fin _ t2 hpe hft l1 l2
    · have hroad : tt1.road to = .oneByOne := by
        unfold SetTable.road
        rw [if_pos (by simpa using hfill)]
      rw [hroad]
      dsimp only
      have zo1 : h1.SetOf (PySem.strKind prog w) o (fun k => y.contains k) y.length := ⟨oo, eo, epo, to, hoo1, hexo, hdo, helo, hmemo, hbo, hfo, hno⟩
      refine wpAny_bind (unseen_ok (x := x) zo1 ⟨oo, hoo1, eo, epo, to, hdo, hledo, hplo⟩ hoo1 hdo (fun a ha => by rw [List.mem_singleton] at ha; subst ha; exact ⟨x, z1⟩) z1 t1 fun es' h2 hp sb2 z2 t2 => ?_)
      have sbt := sb.trans sb2
      refine wpAny_bind (wpAny_forIn_array' _ (fun rest _ s' => ∃ (p : List (Int × Value)) (h3 : Heap), s' = { s with heap := h3 } ∧ es'.toList = p ++ rest ∧ Heap.SameBut r s.heap h3 ∧ h3.SetOf (PySem.strKind prog w) r (fun k => (uniS x (p.map txtE)).contains k) (uniS x (p.map txtE)).length ∧ Txts w h3 r) _ (fun e rest b s' ⟨p, h3, e1, e2, sb3, z3, t3⟩ => ?_) (fun b s' ⟨p, h3, e1, e2, sb3, z3, t3⟩ => ?_) es' _ ⟨[], h2, rfl, rfl, sbt, z2, t2⟩)
      · subst e1
        have hem : e ∈ es'.toList := by rw [e2]; exact List.mem_append_right _ List.mem_cons_self
        obtain ⟨u, eu⟩ := txtE_of helo (hp.mem_iff.mp hem)
        generalize txtE e = k at eu
        subst eu
        have hlen : (p.map txtE).length < y.length := by
          have := congrArg List.length e2
          rw [List.length_append, List.length_cons, hp.length_eq, Array.length_toList] at this
          rw [List.length_map]
          omega
        have hle := uni_le x (p.map txtE)
        have hsb : scanBound = 4096 := rfl
        dsimp only
        refine wpAny_bind (wpAny_holding (add_txts z3 t3 (by omega) fun h4 sb4 z4 t4 => ?_))
        have sb5 := sb3.trans sb4
        refine wpAny_bind (hE _ _ (fun ob q => by rw [sb5.2 o (Ne.symm hne)]; exact q) ?_)
        refine wpAny_bind (wpAny_setState_of (show h4.get? o = some oo from by rw [sb5.2 o (Ne.symm hne)]; exact hoo) hdo hfo ?_)
        dsimp only
        rw [if_neg (by simp)]
        refine wpAny_pure ⟨p ++ [((PySem.strKind prog w).hash k, .str k u)], h4, rfl, by rw [e2, List.append_assoc]; rfl, sb5, ?_, t4⟩
        have ek : (p ++ [((PySem.strKind prog w).hash k, Value.str k u)]).map txtE = p.map txtE ++ [k] := by rw [List.map_append]; rfl
        have eu2 : uniS x (p.map txtE ++ [k]) = addS (uniS x (p.map txtE)) k := by unfold uniS; rw [List.foldl_append]; rfl
        rw [ek, eu2]
        exact setOf_same (σ := []) z4 (fun k' => by rw [addS_has]) (by rw [addS_len])
      · subst e1
        rw [List.append_nil] at e2
        have hk : ∀ k, k ∈ p.map txtE ↔ k ∈ y := fun k => by
          rw [← e2]
          rw [← txt_mem helo hmemo k]
          exact (hp.map txtE).mem_iff
        have ln := uni_perm hx hk
        refine wpAny_pure (h h3 sb3 (setOf_same (σ := []) z3 (fun k => ?_) ln) t3 ?_)
        · rw [uni_has, uni_has]
          congr 1
          rw [Bool.eq_iff_iff, List.contains_iff_mem, List.contains_iff_mem]
          exact hk k
        · intro ob es ep t f1 f2 f3
          obtain ⟨o5, es5, ep5, t5, ho5, _, hd5, _, _, _, hf5, hn5⟩ := z3
          rw [ho5] at f1
          cases f1
          rw [hd5] at f2
          cases f2
          have q1 : t.place.size = es.size ∧ t.fill ≤ t.mask := by simpa [SetTable.fits] using hf5
          have q2 : t.fill = t.place.size + t.dummies.size := rfl
          have hyp : 0 < y.length := by omega
          obtain ⟨v, hv⟩ : ∃ v, v ∈ y := List.exists_mem_of_length_pos hyp
          have : v ∈ uniS x (p.map txtE) := uni_mem.mpr (.inr ((hk v).mpr hv))
          have := List.length_pos_of_mem this
          omega
  obtain ⟨or_, es, ep, t, hor, hexr, hdr, helr, hmemr, hbr, hfr, hnr⟩ := id zx
  unfold setRoomFor
  have hps : t.place.size = es.size ∧ t.fill ≤ t.mask := by simpa [SetTable.fits] using hfr
  refine wpAny_bind (wpAny_bind (wpAny_setState_of hor hdr hfr ?_))
  dsimp only
  cases hr : t.roomFor eo.size with
  | none =>
    dsimp only
    refine wpAny_pure (go s.heap (Heap.SameBut.refl r s.heap) zx zt fun ob es2 ep2 t2 f1 f2 f3 => ?_)
    rw [hor] at f1
    cases f1
    rw [hdr] at f2
    cases f2
    refine ⟨rm _ _ _ _ hor hdr f3, ?_⟩
    unfold SetTable.roomFor at hr
    split at hr
    · cases hr
    · omega
  | some wanted =>
    dsimp only
    have hw : wanted = (t.place.size + eo.size) * 2 := by
      unfold SetTable.roomFor at hr
      split at hr
      · cases hr; rfl
      · cases hr
    refine relay_ok zx zt (by omega) (by omega) fun h1 sb z1 t1 hm => go h1 sb z1 t1 fun ob es2 ep2 t2 f1 f2 f3 => ?_
    obtain ⟨o5, es5, ep5, t5, g1, g2, g3⟩ := hm
    rw [g1] at f1
    cases f1
    rw [g2] at f2
    cases f2
    obtain ⟨pw, lt⟩ := above (n := wanted) (by omega)
    rw [g3]
    exact ⟨pw, by omega⟩
end
end L2.PU

namespace L2.PU
open PySem PySem.Spec PyProof.Rows
theorem entry_set_or : entryFor table "set.__or__" = some Builtin.«frozenset.__or__» :=
  entryFor_alias (id' := "frozenset.__or__") (by kernel_rfl) rfl (by decide +kernel) (by kernel_rfl)
theorem entry_set_and : entryFor table "set.__and__" = some Builtin.«frozenset.__and__» :=
  entryFor_alias (id' := "frozenset.__and__") (by kernel_rfl) rfl (by decide +kernel) (by kernel_rfl)
section
variable {prog : Program} {w : World} {A : Around} {E : Value → Shared → Prop} {s : Shared}
theorem is_set {a : Addr} {S : Str → Bool} {n : Nat} {Q : Bool → Shared → Prop} (z : s.heap.SetOf (PySem.strKind prog w) a S n) (q : Q true s) : wpAny (model prog w) A (isInstance (.ref a) (.type "set")) Q E s := by
  obtain ⟨⟨c1, d1, x1, l1⟩, es1, ep1, t1, o1, ⟨k1, _, _⟩, e1, _⟩ := z
  dsimp only at k1 e1
  subst k1 e1
  have hs := sub_set_self
  wp_walk using AutoSeq1.wpAny_loadPart' o1
  exact q
theorem new_set {Q : Value → Shared → Prop} (q : Q (.ref s.heap.objs.size) { s with heap := s.heap.push (setO (ledW w)) }) : wpAny (model prog w) A (newSet (.type "set")) Q E s := by
  unfold newSet
  refine wpAny_bind (show wpAny _ _ setsByText _ _ _ from wpAny_bind (wpAny_askSetting (wpAny_pure ?_)))
  dsimp only
  simp only [newObj]
  exact wpAny_bind (wpAny_alloc (wpAny_pure q))
theorem rm_new {h : Heap} {a : Addr} {led : Bool} (e : h.get? a = some (setO led)) : Rm h a := fun o es ep t e1 e2 e3 => by
  rw [e] at e1
  cases e1
  cases e2
  exact .inl rfl
theorem copy_ok {a : Addr} {x : List Str} {Q : Value → Shared → Prop} (zx : s.heap.SetOf (PySem.strKind prog w) a (fun k => x.contains k) x.length) (zt : Txts w s.heap a) (hx : x.Nodup) (hl : x.length ≤ 63)
    (h : ∀ h', (∀ b o, s.heap.get? b = some o → h'.get? b = some o) → h'.SetOf (PySem.strKind prog w) s.heap.objs.size (fun k => x.contains k) x.length → Txts w h' s.heap.objs.size → Rm h' s.heap.objs.size → Q (.ref s.heap.objs.size) { s with heap := h' }) :
    wpAny (model prog w) A (Builtin.Frozenset.copyOf a) Q E s := by
  have hlt : a < s.heap.objs.size := by obtain ⟨o, _, _, _, ho, _⟩ := zx; exact Heap.lt_size ho
  unfold Builtin.Frozenset.copyOf Builtin.Frozenset.baseOf
  refine wpAny_bind (wpAny_bind (is_set zx (wpAny_pure ?_)))
  rw [if_pos rfl]
  refine wpAny_bind (new_set ?_)
  have zS : (s.heap.push (setO (ledW w))).get? s.heap.objs.size = some (setO (ledW w)) := Heap.get?_push_size _ rfl
  refine wpAny_bind (show wpAny _ _ (pure s.heap.objs.size) _ _ _ from wpAny_pure ?_)
  have kp : ∀ b o, s.heap.get? b = some o → (s.heap.push (setO (ledW w))).get? b = some o := fun b o e => Heap.get?_push_of_some _ e
  have z0 : (s.heap.push (setO (ledW w))).SetOf (PySem.strKind prog w) s.heap.objs.size (fun k => ([] : List Str).contains k) ([] : List Str).length := setOf_same (σ := []) ((PyProof.Rows.setObjOf_fresh (knd := PySem.strKind prog w) (ledW w)).setOf zS (by decide)) (fun _ => rfl) rfl
  refine wpAny_bind (merge_ok (x := []) (y := x) (Nat.ne_of_gt hlt) List.nodup_nil hx (by simpa using hl) z0 (txts_new zS) (rm_new zS) (setOf_kept zx (fun o e => kp a o e)) (txts_kept zt fun o e => kp a o e) (fun s' Q' _ q => wpAny_pure q) fun h' sb z' t' rm => ?_)
  refine wpAny_pure (h h' (fun b o e => ?_) (setOf_same (σ := []) z' (fun k => by rw [uni_has]; simp) ?_) t' rm)
  · rw [sb.2 b (Nat.ne_of_lt (Heap.lt_size e))]
    exact kp b o e
  · exact ((List.perm_ext_iff_of_nodup (uni_nodup List.nodup_nil x) hx).mpr fun k => by rw [uni_mem]; simp).length_eq
theorem any_set {a : Addr} {S : Str → Bool} {n : Nat} {Q : Bool → Shared → Prop} (z : s.heap.SetOf (PySem.strKind prog w) a S n) (q : Q true s) : wpAny (model prog w) A (Builtin.Frozenset.isAnySet (.ref a)) Q E s := by
  unfold Builtin.Frozenset.isAnySet
  exact wpAny_bind (is_set z (wpAny_pure q))
theorem both_set {a b : Addr} {S S' : Str → Bool} {n n' : Nat} {Q : Bool → Shared → Prop} (z : s.heap.SetOf (PySem.strKind prog w) a S n) (z' : s.heap.SetOf (PySem.strKind prog w) b S' n') (q : Q true s) : wpAny (model prog w) A (Builtin.Frozenset.isAnySet (.ref a) <&&> Builtin.Frozenset.isAnySet (.ref b)) Q E s :=
  wpAny_bind (any_set z (show wpAny _ _ (Builtin.Frozenset.isAnySet (.ref b)) _ _ _ from any_set z' q))
/-- what is asked of the other one between the steps -/
theorem unchanged_ok {id : String} {o : Addr} {ob : Obj} {es : Array (Int × Value)} {ep : Nat} {t : SetTable} (ho : s.heap.get? o = some ob) (hd : ob.data = .set es ep t) (hf : t.fits es.size = true) :
    ∀ (s' : Shared) (Q' : Unit → Shared → Prop), (∀ ob, s.heap.get? o = some ob → s'.heap.get? o = some ob) → Q' () s' → wpAny (model prog w) A (Builtin.Frozenset.unchanged id o ep) Q' E s' := fun s' Q' k q => by
  unfold Builtin.Frozenset.unchanged
  refine wpAny_bind (wpAny_setEpoch_of (k _ ho) hd hf ?_)
  rw [if_neg (by simp)]
  exact wpAny_pure q
theorem set_or_body {a b : Addr} {x y : List Str} {Q : Value → Shared → Prop} (zx : s.heap.SetOf (PySem.strKind prog w) a (fun k => x.contains k) x.length) (zxt : Txts w s.heap a) (zy : s.heap.SetOf (PySem.strKind prog w) b (fun k => y.contains k) y.length) (zyt : Txts w s.heap b) (hx : x.Nodup) (hy : y.Nodup) (hl : x.length + y.length ≤ 63)
    (h : ∀ h', (∀ b o, s.heap.get? b = some o → h'.get? b = some o) → h'.SetOf (PySem.strKind prog w) s.heap.objs.size (fun k => (uniS x y).contains k) (uniS x y).length → Txts w h' s.heap.objs.size → Q (.ref s.heap.objs.size) { s with heap := h' }) :
    wpAny (model prog w) A (Builtin.«frozenset.__or__» ⟨[.ref a, .ref b], []⟩) (fun fin s' => ∃ r, fin = .done (.ret r) ∧ Q r s') E s := by
  have hlb : b < s.heap.objs.size := by obtain ⟨o, _, _, _, ho, _⟩ := zy; exact Heap.lt_size ho
  unfold Builtin.«frozenset.__or__»
  show wpAny _ _ (Builtin.Frozenset.slot1 "__or__" ⟨[.ref a, .ref b], []⟩ >>= _) _ _ _
  refine wpAny_bind (show wpAny _ _ (pure (Value.ref a, Value.ref b)) _ _ _ from wpAny_pure ?_)
  dsimp only
  refine wpAny_bind (both_set zx zy ?_)
  rw [if_neg (by decide)]
  refine wpAny_bind (show wpAny _ _ (pure a) _ _ _ from wpAny_pure ?_)
  refine wpAny_bind ?_
  show wpAny _ _ (Builtin.Frozenset.copyOf a >>= fun result => if (Value.ref b != Value.ref a) = true then (Builtin.Frozenset.addrOf result >>= fun r => holding [result] (Builtin.Frozenset.updateFrom (toString "frozenset." ++ toString "__or__") r (.ref b)) >>= fun _ => pure result) else pure result) _ _ _
  refine wpAny_bind (copy_ok zx zxt hx (by omega) fun h1 k1 z1 t1 rm1 => ?_)
  by_cases hab : b = a
  · subst hab
    rw [if_neg (by simp)]
    refine wpAny_pure (wpAny_pure ⟨_, rfl, h h1 k1 (setOf_same (σ := []) z1 (fun k => ?_) ?_) t1⟩)
    all_goals
      have hk : ∀ k, x.contains k = y.contains k := fun k => by
        obtain ⟨o1, es1, ep1, t1', ho1, _, hd1, _, hm1, _⟩ := zx
        obtain ⟨o2, es2, ep2, t2', ho2, _, hd2, _, hm2, _⟩ := zy
        rw [ho1] at ho2
        cases ho2
        rw [hd1] at hd2
        cases hd2
        rw [Bool.eq_iff_iff]
        exact (hm1 k).trans (hm2 k).symm
    · rw [uni_has, ← hk k, Bool.or_self]
    · refine (List.Perm.length_eq ((List.perm_ext_iff_of_nodup hx (uni_nodup hx y)).mpr fun k => ?_))
      rw [uni_mem, ← List.contains_iff_mem, ← List.contains_iff_mem (as := y), hk k, or_self]
  · rw [if_pos (by simpa using hab)]
    have zy1 := setOf_kept zy (fun o e => k1 b o e)
    obtain ⟨ob, es, ep, t, ho, hex, hd, hel, hm, hb, hf, hn⟩ := id zy1
    refine wpAny_bind (show wpAny _ _ (pure s.heap.objs.size) _ _ _ from wpAny_pure (wpAny_bind (wpAny_holding ?_)))
    unfold Builtin.Frozenset.updateFrom
    refine wpAny_bind (any_set zy1 ?_)
    rw [if_pos rfl]
    refine wpAny_bind (show wpAny _ _ (pure b) _ _ _ from wpAny_pure ?_)
    unfold Builtin.Frozenset.merge
    refine wpAny_bind (wpAny_setEpoch_of ho hd hf ?_)
    refine merge_ok (Nat.ne_of_gt hlb) hx hy hl z1 t1 rm1 zy1 (txts_kept zyt fun o e => k1 b o e) (unchanged_ok ho hd hf) fun h2 sb z2 t2 _ => ?_
    refine wpAny_pure (wpAny_pure ⟨_, rfl, h h2 (fun c o e => ?_) z2 t2⟩)
    rw [sb.2 c (Nat.ne_of_lt (Heap.lt_size e))]
    exact k1 c o e
end
end L2.PU

namespace L2.PU
open PySem PySem.Spec PyProof.Rows
noncomputable def capS (x y : List Str) : List Str := x.filter fun k => y.contains k
section
variable {prog : Program} {w : World} {A : Around} {E : Value → Shared → Prop} {s : Shared}
theorem filt_len {ks z x : List Str} {p : Str → Bool} (hz : z.Nodup) (hk : ∀ k, k ∈ ks ↔ k ∈ x) (hx : x.Nodup) (e : ∀ k, k ∈ z ↔ k ∈ x ∧ p k = true) : (∀ k, (uniS [] (ks.filter p)).contains k = z.contains k) ∧ (uniS [] (ks.filter p)).length = z.length := by
  have m : ∀ k, k ∈ uniS [] (ks.filter p) ↔ k ∈ z := fun k => by
    rw [uni_mem, List.mem_filter, hk k, e k]
    simp
  refine ⟨fun k => by rw [Bool.eq_iff_iff, List.contains_iff_mem, List.contains_iff_mem]; exact m k, ?_⟩
  exact ((List.perm_ext_iff_of_nodup (uni_nodup List.nodup_nil _) hz).mpr m).length_eq
/-- the texts of one set that pass are put into a new one -/
theorem filt_loop {r : Addr} {x z : List Str} {pr : Str → Bool} {es : Array (Int × Value)} {f : Int × Value → PUnit → Sem (ForInStep PUnit)} {Q : Unit → Shared → Prop} (hx : x.Nodup) (hxl : x.length ≤ 100) (hz : z.Nodup) (he : ∀ k, k ∈ z ↔ k ∈ x ∧ pr k = true)
    (hel : ElemsOf (PySem.strKind prog w) es.toList) (hm : ∀ k, x.contains k = true ↔ ∃ e ∈ es.toList, (PySem.strKind prog w).is k e.2 = true) (hn : es.size = x.length)
    (z0 : s.heap.SetOf (PySem.strKind prog w) r (fun k => ([] : List Str).contains k) 0) (t0 : Txts w s.heap r)
    (hf : ∀ (k : Str) (u : Tok) (s' : Shared) (R : ForInStep PUnit → Shared → Prop) (v : List Str), Heap.SameBut r s.heap s'.heap → s'.heap.SetOf (PySem.strKind prog w) r (fun k => v.contains k) v.length → Txts w s'.heap r → v.length ≤ 100 →
      (pr k = false → R (.yield ⟨⟩) s') → (pr k = true → ∀ h', Heap.SameBut r s'.heap h' → h'.SetOf (PySem.strKind prog w) r (fun k' => (addS v k).contains k') (addS v k).length → Txts w h' r → R (.yield ⟨⟩) { s' with heap := h' }) → wpAny (model prog w) A (f ((PySem.strKind prog w).hash k, .str k u) ⟨⟩) R E s')
    {es' : Array (Int × Value)} (hp : es'.toList.Perm es.toList)
    (h : ∀ h', Heap.SameBut r s.heap h' → h'.SetOf (PySem.strKind prog w) r (fun k => z.contains k) z.length → Txts w h' r → Q () { s with heap := h' }) :
    wpAny (model prog w) A (forIn es' PUnit.unit f) (fun _ s' => Q () s') E s := by
  refine wpAny_forIn_array' _ (fun rest _ s' => ∃ (p : List (Int × Value)) (h3 : Heap), s' = { s with heap := h3 } ∧ es'.toList = p ++ rest ∧ Heap.SameBut r s.heap h3 ∧ h3.SetOf (PySem.strKind prog w) r (fun k => (uniS [] ((p.map txtE).filter pr)).contains k) (uniS [] ((p.map txtE).filter pr)).length ∧ Txts w h3 r) _ (fun e rest b s' ⟨p, h3, e1, e2, sb3, z3, t3⟩ => ?_) (fun b s' ⟨p, h3, e1, e2, sb3, z3, t3⟩ => ?_) es' _ ⟨[], s.heap, rfl, rfl, Heap.SameBut.refl r s.heap, z0, t0⟩
  · subst e1
    have hem : e ∈ es'.toList := by rw [e2]; exact List.mem_append_right _ List.mem_cons_self
    obtain ⟨u, eu⟩ := txtE_of hel (hp.mem_iff.mp hem)
    generalize txtE e = k at eu
    subst eu
    have hlen : p.length < x.length := by
      have := congrArg List.length e2
      rw [List.length_append, List.length_cons, hp.length_eq, Array.length_toList] at this
      omega
    have hle := uni_le [] ((p.map txtE).filter pr)
    have hle2 := List.length_filter_le pr (p.map txtE)
    rw [List.length_map] at hle2
    rw [List.length_nil, Nat.zero_add] at hle
    have ek : (p ++ [((PySem.strKind prog w).hash k, Value.str k u)]).map txtE = p.map txtE ++ [k] := by rw [List.map_append]; rfl
    refine hf k u _ _ (uniS [] ((p.map txtE).filter pr)) sb3 z3 t3 (by omega) (fun q => ⟨p ++ [((PySem.strKind prog w).hash k, .str k u)], h3, rfl, by rw [e2, List.append_assoc]; rfl, sb3, ?_, t3⟩) (fun q h4 sb4 z4 t4 => ⟨p ++ [((PySem.strKind prog w).hash k, .str k u)], h4, rfl, by rw [e2, List.append_assoc]; rfl, sb3.trans sb4, ?_, t4⟩)
    · rw [ek, List.filter_append, List.filter_cons_of_neg (by rw [q]; decide), List.filter_nil, List.append_nil]
      exact z3
    · have e5 : uniS [] ((p.map txtE ++ [k]).filter pr) = addS (uniS [] ((p.map txtE).filter pr)) k := by
        rw [List.filter_append, List.filter_cons_of_pos q, List.filter_nil]
        unfold uniS
        rw [List.foldl_append]
        rfl
      rw [ek, e5]
      exact z4
  · subst e1
    rw [List.append_nil] at e2
    have hk : ∀ k, k ∈ p.map txtE ↔ k ∈ x := fun k => by
      rw [← e2, ← txt_mem hel hm k]
      exact (hp.map txtE).mem_iff
    obtain ⟨c1, c2⟩ := filt_len (p := pr) hz hk hx he
    exact h h3 sb3 (setOf_same (σ := []) z3 c1 c2) t3
/-- one that is asked for -/
theorem find_ok {q : Addr} {y : List Str} {k : Str} {u : Tok} {Q : Option Nat → Shared → Prop} (zy : s.heap.SetOf (PySem.strKind prog w) q (fun k => y.contains k) y.length) (h : ∀ r : Option Nat, r.isSome = y.contains k → Q r s) : wpAny (model prog w) A (setFind q (.str k u) ((PySem.strKind prog w).hash k)) Q E s :=
  wpAny_setFind_of (by simp [PySem.strKind, Value.isStrOf]) rfl zy h
theorem add_ok' {r : Addr} {v : List Str} {k : Str} {u : Tok} {Q : Bool → Shared → Prop} (z : s.heap.SetOf (PySem.strKind prog w) r (fun k => v.contains k) v.length) (t : Txts w s.heap r) (hl : v.length ≤ 100)
    (h : ∀ h', Heap.SameBut r s.heap h' → h'.SetOf (PySem.strKind prog w) r (fun k' => (addS v k).contains k') (addS v k).length → Txts w h' r → ∀ b, Q b { s with heap := h' }) : wpAny (model prog w) A (setAddHashed r (.str k u) ((PySem.strKind prog w).hash k)) Q E s := by
  have hsb : scanBound = 4096 := rfl
  exact add_txts z t (by omega) fun h' sb z' t' => h h' sb (setOf_same (σ := []) z' (fun k' => by rw [addS_has]) (by rw [addS_len])) t' _
theorem set_and_body {a b : Addr} {x y : List Str} {Q : Value → Shared → Prop} (zx : s.heap.SetOf (PySem.strKind prog w) a (fun k => x.contains k) x.length) (zxt : Txts w s.heap a) (zy : s.heap.SetOf (PySem.strKind prog w) b (fun k => y.contains k) y.length) (zyt : Txts w s.heap b) (hx : x.Nodup) (hy : y.Nodup) (hxl : x.length ≤ 63) (hyl : y.length ≤ 63)
    (h : ∀ h', (∀ b o, s.heap.get? b = some o → h'.get? b = some o) → h'.SetOf (PySem.strKind prog w) s.heap.objs.size (fun k => (capS x y).contains k) (capS x y).length → Txts w h' s.heap.objs.size → Q (.ref s.heap.objs.size) { s with heap := h' }) :
    wpAny (model prog w) A (Builtin.«frozenset.__and__» ⟨[.ref a, .ref b], []⟩) (fun fin s' => ∃ r, fin = .done (.ret r) ∧ Q r s') E s := by
  have hla : a < s.heap.objs.size := by obtain ⟨o, _, _, _, ho, _⟩ := zx; exact Heap.lt_size ho
  have hlb : b < s.heap.objs.size := by obtain ⟨o, _, _, _, ho, _⟩ := zy; exact Heap.lt_size ho
  unfold Builtin.«frozenset.__and__»
  show wpAny _ _ (Builtin.Frozenset.slot1 "__and__" ⟨[.ref a, .ref b], []⟩ >>= _) _ _ _
  refine wpAny_bind (show wpAny _ _ (pure (Value.ref a, Value.ref b)) _ _ _ from wpAny_pure ?_)
  dsimp only
  refine wpAny_bind (both_set zx zy ?_)
  rw [if_neg (by decide)]
  refine wpAny_bind (show wpAny _ _ (pure a) _ _ _ from wpAny_pure ?_)
  refine wpAny_bind ?_
  show wpAny _ _ (Builtin.Frozenset.intersection (toString "frozenset." ++ toString "__and__") a (.ref b)) _ _ _
  unfold Builtin.Frozenset.intersection
  by_cases hab : b = a
  · subst hab
    rw [if_pos (by simp)]
    refine copy_ok zx zxt hx hxl fun h1 k1 z1 t1 _ => wpAny_pure ⟨_, rfl, h h1 k1 (setOf_same (σ := []) z1 (fun k => ?_) ?_) t1⟩
    all_goals
      have hk : ∀ k, x.contains k = y.contains k := fun k => by
        obtain ⟨o1, es1, ep1, t1', ho1, _, hd1, _, hm1, _⟩ := zx
        obtain ⟨o2, es2, ep2, t2', ho2, _, hd2, _, hm2, _⟩ := zy
        rw [ho1] at ho2
        cases ho2
        rw [hd1] at hd2
        cases hd2
        rw [Bool.eq_iff_iff]
        exact (hm1 k).trans (hm2 k).symm
      have ec : capS x y = x := List.filter_eq_self.mpr fun k hk' => by rw [← hk k]; exact List.contains_iff_mem.mpr hk'
      rw [ec]
  · rw [if_neg (by simpa using hab)]
    unfold Builtin.Frozenset.baseOf
    refine wpAny_bind (wpAny_bind (is_set zx (wpAny_pure ?_)))
    rw [if_pos rfl]
    refine wpAny_bind (new_set ?_)
    have zS : (s.heap.push (setO (ledW w))).get? s.heap.objs.size = some (setO (ledW w)) := Heap.get?_push_size _ rfl
    refine wpAny_bind (show wpAny _ _ (pure s.heap.objs.size) _ _ _ from wpAny_pure ?_)
    have kp : ∀ c o, s.heap.get? c = some o → (s.heap.push (setO (ledW w))).get? c = some o := fun b o e => Heap.get?_push_of_some _ e
    have z0 : (s.heap.push (setO (ledW w))).SetOf (PySem.strKind prog w) s.heap.objs.size (fun k => ([] : List Str).contains k) ([] : List Str).length := setOf_same (σ := []) ((PyProof.Rows.setObjOf_fresh (knd := PySem.strKind prog w) (ledW w)).setOf zS (by decide)) (fun _ => rfl) rfl
    have zx1 := setOf_kept zx (fun o e => kp a o e)
    have zy1 := setOf_kept zy (fun o e => kp b o e)
    have tx1 := txts_kept zxt fun o e => kp a o e
    have ty1 := txts_kept zyt fun o e => kp b o e
    obtain ⟨oa, ea, epa, ta, hoa, hexa, hda, hela, hma, hba, hfa, hna⟩ := id zx1
    obtain ⟨ob, eb, epb, tb, hob, hexb, hdb, helb, hmb, hbb, hfb, hnb⟩ := id zy1
    refine wpAny_bind (wpAny_holding (wpAny_bind (any_set zy1 ?_)))
    rw [if_pos rfl]
    refine wpAny_bind (show wpAny _ _ (pure b) _ _ _ from wpAny_pure ?_)
    unfold Builtin.Frozenset.sizeOf
    refine wpAny_bind (wpAny_bind (wpAny_setEntries_of hob hdb hfb (wpAny_pure ?_)))
    refine wpAny_bind (wpAny_bind (wpAny_setEntries_of hoa hda hfa (wpAny_pure ?_)))
    have fin : ∀ (h' : Heap), Heap.SameBut s.heap.objs.size (s.heap.push (setO (ledW w))) h' → ∀ c o, s.heap.get? c = some o → h'.get? c = some o := fun h' sb c o e => by
      rw [sb.2 c (Nat.ne_of_lt (Heap.lt_size e))]
      exact kp c o e
    have go : ∀ (p q : Addr) (u v : List Str) (op : Obj) (ep : Array (Int × Value)) (epp : Nat) (tp : SetTable), p ≠ s.heap.objs.size → q ≠ s.heap.objs.size → u.Nodup → u.length ≤ 63 → (∀ k, k ∈ capS x y ↔ k ∈ u ∧ v.contains k = true) →
        (s.heap.push (setO (ledW w))).SetOf (PySem.strKind prog w) p (fun k => u.contains k) u.length → Txts w (s.heap.push (setO (ledW w))) p → (s.heap.push (setO (ledW w))).get? p = some op → op.data = .set ep epp tp → (s.heap.push (setO (ledW w))).SetOf (PySem.strKind prog w) q (fun k => v.contains k) v.length →
        wpAny (model prog w) A (do
          let was ← setEpoch p
          for (h, x) in ← setWalkUnseen p [q, s.heap.objs.size] (some s.heap.objs.size) do
            holding [x] do
              if (← setFind q x h).isSome then
                let _ ← setAddHashed s.heap.objs.size x h
            Builtin.Frozenset.unchanged (toString "frozenset." ++ toString "__and__") p was) (fun _ s' => Q (.ref s.heap.objs.size) s') E { s with heap := s.heap.push (setO (ledW w)) } := by
      intro p q u v op ep epp tp hp hq hu hul hc zu tu hop hdp zv
      obtain ⟨op', ep', epp', tp', hop', hexp, hdp', help, hmp, hbp, hfp, hnp⟩ := id zu
      rw [hop] at hop'
      cases hop'
      rw [hdp] at hdp'
      cases hdp'
      refine wpAny_bind (wpAny_setEpoch_of hop hdp hfp ?_)
      refine wpAny_bind (unseen_ok (x := []) zu tu hop hdp (fun c hc => ?_) z0 (txts_new zS) fun es' h2 hpm sb2 z2 t2 => ?_)
      · rcases List.mem_cons.mp hc with rfl | hc
        · exact ⟨v, zv⟩
        · rw [List.mem_singleton] at hc
          subst hc
          exact ⟨[], z0⟩
      have hcap : (capS x y).Nodup := List.Sublist.nodup List.filter_sublist hx
      refine wpAny_bind (wpAny_mono (filt_loop (s := { s with heap := h2 }) (x := u) (z := capS x y) (pr := fun k => v.contains k) (Q := fun _ s' => Q (.ref s.heap.objs.size) s') hu (by omega) hcap hc help hmp hnp z2 t2 (fun k tk s' R w' sbw zw tw hwl c1 c2 => ?_) hpm (fun h3 sb3 z3 t3 => h h3 (fun c o e => fin h3 (sb2.trans sb3) c o e) z3 t3)) (fun _ s' q => wpAny_pure q) (fun _ _ q => q))
      · have hk : ∀ c, c ≠ s.heap.objs.size → s'.heap.get? c = (s.heap.push (setO (ledW w))).get? c := fun c hc => (sbw.2 c hc).trans (sb2.2 c hc)
        have zv' : s'.heap.SetOf (PySem.strKind prog w) q (fun k => v.contains k) v.length := setOf_kept zv fun o e => by rw [hk q hq]; exact e
        have un : ∀ (s2 : Shared) (Q' : Unit → Shared → Prop), s2.heap.get? p = some op → Q' () s2 → wpAny (model prog w) A (Builtin.Frozenset.unchanged (toString "frozenset." ++ toString "__and__") p epp) Q' E s2 := fun s2 Q' e q => unchanged_ok (s := s2) e hdp hfp s2 Q' (fun _ e => e) q
        dsimp only
        refine wpAny_bind (wpAny_holding (wpAny_bind (find_ok zv' fun fr hfr => ?_)))
        cases hc : v.contains k with
        | false =>
          rw [hc] at hfr
          rw [hfr, if_neg (by decide)]
          refine wpAny_pure (wpAny_bind (un _ _ ((hk p hp).trans hop) (wpAny_pure (c1 hc))))
        | true =>
          rw [hc] at hfr
          rw [hfr, if_pos rfl]
          refine wpAny_bind (add_ok' zw tw hwl fun h4 sb4 z4 t4 bb => wpAny_pure (wpAny_bind (un _ _ ?_ (wpAny_pure (c2 hc h4 sb4 z4 t4)))))
          show h4.get? p = some op
          rw [sb4.2 p hp]
          exact (hk p hp).trans hop
    have c1 : ∀ k, k ∈ capS x y ↔ k ∈ x ∧ y.contains k = true := fun k => by unfold capS; rw [List.mem_filter]
    have c2 : ∀ k, k ∈ capS x y ↔ k ∈ y ∧ x.contains k = true := fun k => by rw [c1 k, List.contains_iff_mem, List.contains_iff_mem]; exact and_comm
    by_cases hsz : eb.size > ea.size
    · rw [if_pos hsz]
      exact wpAny_mono (go a b x y oa ea epa ta (Nat.ne_of_lt hla) (Nat.ne_of_lt hlb) hx hxl c1 zx1 tx1 hoa hda zy1) (fun _ s' q => wpAny_pure (wpAny_pure ⟨_, rfl, q⟩)) (fun _ _ q => q)
    · rw [if_neg hsz]
      exact wpAny_mono (go b a y x ob eb epb tb (Nat.ne_of_lt hlb) (Nat.ne_of_lt hla) hy hyl c2 zy1 ty1 hob hdb zx1) (fun _ s' q => wpAny_pure (wpAny_pure ⟨_, rfl, q⟩)) (fun _ _ q => q)
end
end L2.PU

namespace L2.PU
open PySem PySem.Spec PyProof.Rows
/-! ### a | b, a & b, a - b of sets of texts -/
section
variable {X : Cx} {B : Hp} {e a b : Expr} {fa fb : Rho → M D} {pos p p2 pos2 : Pos}
noncomputable def gSOr : D → D → M D
  | .set x, .set y => if x.Nodup ∧ y.Nodup ∧ x.length + y.length ≤ 63 then ok (.set (uniS x y)) else none
  | _, _ => none
noncomputable def gSAnd : D → D → M D
  | .set x, .set y => if x.Nodup ∧ y.Nodup ∧ x.length ≤ 63 ∧ y.length ≤ 63 then ok (.set (capS x y)) else none
  | _, _ => none
noncomputable def rS2 (ok : List Str → List Str → Prop) (f : List Str → List Str → List Str) : R2 := fun x y H Q => ∃ a b xs ys, x = .ref a ∧ y = .ref b ∧ H a = some (.set (fun k => (xs : List Str).contains k) xs.length) ∧ H b = some (.set (fun k => (ys : List Str).contains k) ys.length) ∧ ok xs ys ∧ ∀ l, H l = none → Q (.ref l) (upd H l (.set (fun k => (f xs ys).contains k) (f xs ys).length))
theorem op_s2 {op : Operator} {okp : List Str → List Str → Prop} {f : List Str → List Str → List Str} {id : String} {Bt : Builtin} (fills : fillsNumberSlot (.type "set") op.info.2 = pure true) (slot : PySem.Slot "set" (dunder op.info.2) id) (entry : entryFor table id = some Bt) (args : ∀ a b, argsOk id ⟨[a, b], []⟩)
    (body : ∀ {A : Around} {E : Value → Shared → Prop} {s : Shared} {a b : Addr} {x y : List Str} {Q : Value → Shared → Prop}, s.heap.SetOf (PySem.strKind X.prog X.w) a (fun k => x.contains k) x.length → Txts X.w s.heap a → s.heap.SetOf (PySem.strKind X.prog X.w) b (fun k => y.contains k) y.length → Txts X.w s.heap b → okp x y →
      (∀ h', (∀ b o, s.heap.get? b = some o → h'.get? b = some o) → h'.SetOf (PySem.strKind X.prog X.w) s.heap.objs.size (fun k => (f x y).contains k) (f x y).length → Txts X.w h' s.heap.objs.size → Q (.ref s.heap.objs.size) { s with heap := h' }) →
      wpAny (model X.prog X.w) A (Bt ⟨[.ref a, .ref b], []⟩) (fun fin s' => ∃ r, fin = .done (.ret r) ∧ Q r s') E s) : OpR X (binaryOp op) (rS2 okp f) := by
  intro pins s σ H x y v u Q I rx ry h
  obtain ⟨a, b, xs, ys, rfl, rfl, ha, hb, hok, q⟩ := h
  cases rx
  cases ry
  obtain ⟨za, ta⟩ := (show ObjOk X.prog X.w H s.heap a (.set _ _) from I.hok a _ ha)
  obtain ⟨zb, tb⟩ := (show ObjOk X.prog X.w H s.heap b (.set _ _) from I.hok b _ hb)
  have ya : s.TypeIs (.ref a) "set" := by obtain ⟨o, _, _, _, ho, hex, _⟩ := za; exact ⟨o, ho, hex.1⟩
  have yb : s.TypeIs (.ref b) "set" := by obtain ⟨o, _, _, _, ho, hex, _⟩ := zb; exact ⟨o, ho, hex.1⟩
  refine wpAny_binaryOp_same ya yb fills slot (wpAny_call_entry slot ya entry (body za ta zb tb hok fun h' kp z' t' => ?_) (args _ _))
  exact And.intro (fun z => nomatch z) ⟨.ref _, _, I.laid (t' := s.toks) kp (Nat.le_refl _) (show ObjOk X.prog X.w _ h' _ (.set _ _) from ⟨z', t'⟩), rfl, q _ (I.hok.fresh (Nat.le_refl _))⟩
theorem r_s2 {okp : List Str → List Str → Prop} {f : List Str → List Str → List Str} {g : D → D → M D} (hg : ∀ dx dy d, g dx dy = ok d → ∃ x y, dx = .set x ∧ dy = .set y ∧ okp x y ∧ d = .set (f x y)) : R2ok X (rS2 okp f) g := by
  intro H x y dx dy d Q ix iy e q
  obtain ⟨xs, ys, rfl, rfl, hok, rfl⟩ := hg _ _ _ e
  cases ix with
  | set h1 =>
    cases iy with
    | set h2 => exact ⟨_, _, _, _, rfl, rfl, h1, h2, hok, fun l hl => q _ _ (same_new hl _) (.set upd_same)⟩
theorem pd_sor (ha : PD X B a fa) (hb : PD X B b fb) : PD X B (.BinOp a .BitOr b pos) (b2 gSOr fa fb) :=
  pd_op (op_s2 (op := .BitOr) (okp := fun x y => x.Nodup ∧ y.Nodup ∧ x.length + y.length ≤ 63) F.fills_set_or F.slot_set_or entry_set_or F.args_set_or_2 (fun zx tx zy ty hok h => set_or_body zx tx zy ty hok.1 hok.2.1 hok.2.2 h))
    (r_s2 fun dx dy d e => by
      unfold gSOr at e
      split at e <;> first | (cases e; done) | skip
      split at e
      · rename_i hh; cases e; exact ⟨_, _, rfl, rfl, hh, rfl⟩
      · cases e)
    (by intro x y c h; unfold gSOr at h; (repeat' split at h) <;> cases h) ha hb
theorem pd_sand (ha : PD X B a fa) (hb : PD X B b fb) : PD X B (.BinOp a .BitAnd b pos) (b2 gSAnd fa fb) :=
  pd_op (op_s2 (op := .BitAnd) (okp := fun x y => x.Nodup ∧ y.Nodup ∧ x.length ≤ 63 ∧ y.length ≤ 63) F.fills_set_and F.slot_set_and entry_set_and F.args_set_and_2 (fun zx tx zy ty hok h => set_and_body zx tx zy ty hok.1 hok.2.1 hok.2.2.1 hok.2.2.2 h))
    (r_s2 fun dx dy d e => by
      unfold gSAnd at e
      split at e <;> first | (cases e; done) | skip
      split at e
      · rename_i hh; cases e; exact ⟨_, _, rfl, rfl, hh, rfl⟩
      · cases e)
    (by intro x y c h; unfold gSAnd at h; (repeat' split at h) <;> cases h) ha hb
end
end L2.PU

namespace L2.PU
open PySem PySem.Spec PyProof.Rows
/-! ### sorted(a list or a tuple of texts) -/
section
variable {prog : Program} {w : World} {A : Around} {E : Value → Shared → Prop} {s : Shared}
theorem collect_seq {l : Addr} {vs : List Value} {T : String} {o : Obj} {nn : Nat} {Q : List Value → Shared → Prop} (hT : T = "list" ∨ T = "tuple") (ho : s.heap.get? l = some o) (hc : o.cls = .type T) (hd : o.data = .seq vs.toArray nn) (hz : vs.length ≤ 100000)
    (h : Q vs { s with heap := (s.heap.push (seqObj "list" #[] 0)).update s.heap.objs.size (Obj.mapSeq (· ++ vs.toArray)) }) : wpAny (model prog w) A (collect (.ref l)) Q E s := by
  have hs : sizeLine = 16777216 := sizeLine_eq
  unfold collect
  refine wpAny_bind (wpAny_runValue (codeAny_builtin entry_proto_collect' ?_))
  refine wpAny_bind (wpAny_newList (wpAny_pure ⟨Code.quiet_builtin _ (by decide +kernel), codeAny_builtin entry_list_iadd' ?_⟩))
  have ho' : (s.heap.push (seqObj "list" #[] 0)).get? l = some o := Heap.get?_push_of_some _ ho
  show wpAny _ _ (Builtin.List.listExtendWith (.ref s.heap.objs.size) (.ref l) (.ref s.heap.objs.size)) _ _ _
  unfold Builtin.List.listExtendWith
  refine wpAny_bind (wpAny_typeOf (T := T) ⟨o, ho', hc⟩ ?_)
  have ht : (Value.type T == Value.type "list" || Value.type T == Value.type "tuple") = true := by rcases hT with rfl | rfl <;> rfl
  rw [if_pos (by rw [Bool.or_assoc, ht, Bool.or_true])]
  refine wpAny_bind (listItems_at ho' hd ?_)
  have hnew : (s.heap.push (seqObj "list" #[] 0)).get? s.heap.objs.size = some (seqObj "list" #[] 0) := Heap.get?_push_size _ rfl
  refine wpAny_bind (listItems_at (xs := #[]) (n := 0) hnew rfl ?_)
  rw [if_neg (by simp)]
  have hz2 : (#[] ++ vs.toArray : Array Value).size ≤ sizeLine + 1 := by rw [Array.size_append, List.size_toArray]; simp; omega
  refine wpAny_bind (listUpdate_at (xs := #[]) (n := 0) hnew rfl (wpAny_pure ?_) (Nat.zero_le _) hz2)
  refine wpAny_bind (wpAny_load (get?_update_seq hnew _) ?_)
  have e : ((#[] : Array Value) ++ vs.toArray).toList = vs := by simp
  show wpAny _ _ (pure ((#[] : Array Value) ++ vs.toArray).toList) Q E _
  rw [e]
  exact wpAny_pure h
end
section
variable {X : Cx} {B : Hp} {e a b : Expr} {fa fb : Rho → M D} {pos p p2 pos2 : Pos}
theorem strs_are {K : PySem.W.Frag} {H : Hp} : ∀ {xs : List Str} {vs : List V} {its : List Value}, IsL K H (xs.map D.str) vs → Vals vs its → StrsAre its xs
  | [], _, _, .nil, r => by cases r; exact .nil
  | x :: xs, _, _, .cons h q, r => by
    cases h
    cases r with
    | cons r1 r2 =>
      obtain ⟨t, rfl⟩ := r1
      exact .cons x t (strs_are q r2)
noncomputable def srtL : D → M D
  | .lst ds => match strL ds with | some xs => if xs.length < 64 then ok (.lst ((srtS xs).map .str)) else none | none => none
  | .tup ds => match strL ds with | some xs => if xs.length < 64 then ok (.lst ((srtS xs).map .str)) else none | none => none
  | _ => none
theorem call_sortedL (hc : X.calm = true) : CallR X (.builtin "sorted") (fun xs H Q => ∃ p ys ss, xs = [.ref p] ∧ (SqL X.K H p ys ∨ SqT X.K H p ys) ∧ IsL X.K H ((ss : List Str).map D.str) ys ∧ ss.length < 64 ∧ ∀ l, H l = none → Q (.ref l) (upd H l (.lst ((srtS ss).map V.str)))) := by
  intro pins s σ H xs us Q I r h
  obtain ⟨p, ys, ss, rfl, hp, hi, h64, q⟩ := h
  obtain ⟨u, rfl, rx⟩ := vals1 r
  cases rx
  have hs : sizeLine = 16777216 := sizeLine_eq
  have key : ∃ (its : List Value) (T : String) (o : Obj) (nn : Nat), Vals ys its ∧ (T = "list" ∨ T = "tuple") ∧ s.heap.get? p = some o ∧ o.cls = .type T ∧ o.data = .seq its.toArray nn := by
    rcases hp with hp | hp
    · obtain ⟨its, r1, ⟨o, nn, e1, e2, _, e3⟩, _⟩ := I.list hp
      exact ⟨its, "list", o, nn, r1, .inl rfl, e1, e2, e3⟩
    · obtain ⟨its, r1, ⟨o, e1, e2, nn, e3⟩, _⟩ := I.tuple hp
      exact ⟨its, "tuple", o, nn, r1, .inr rfl, e1, e2, e3⟩
  obtain ⟨its, T, o, nn, r1, hT, ho, hcl, hd⟩ := key
  have hS := strs_are hi r1
  have hlen : its.length = ss.length := hS.len_eq
  refine sorted_of (xs := ss) (I.ok.hd hc) h64 (fun B' Q' hB q' => collect_seq hT ho hcl hd (by omega) (q' its ss _ s.toks s.drawn hS (List.Perm.refl _) ?_ fun b ob eb => ?_)) fun out l h' tk d m hS' hl ho' kp => ?_
  · rw [Heap.size_update, Heap.size_push]
    exact Nat.le_succ _
  · rw [Heap.get?_update_other _ _ (Nat.ne_of_gt (Heap.lt_size eb))]
    exact Heap.get?_push_of_some _ eb
  · have hl2 : (srtS ss).length = ss.length := (srtS_perm ss).length_eq
    exact ⟨.ref l, _, (inv_drew I d).laid (t' := tk) kp hl (show ObjOk X.prog X.w _ h' _ (.lst _) from ⟨by rw [List.length_map]; omega, out, m, (strsD (K := X.K) (H := H) hS').1, ho'⟩), rfl, q _ (I.hok.fresh hl)⟩
theorem pd_sortedL (hc : X.calm = true) (hg : Gl X "sorted") (hm : X.mg "sorted" = none) (ha : PD X B e fa) (hs : nostar e = true := by rfl) : PD X B (.Call (.Name "sorted" p) [e] [] pos) (f1 srtL fa) := by
  refine PE.of (pe_callB (call_sortedL hc) hg hm boot_sorted (pa_cons ha pa_nil (star_ok hs)) (he := star_ok hs) (hpl := by rfl)) fun σ H Q h => ?_
  obtain ⟨ρ, r1, h⟩ := h
  refine ⟨ρ, r1, (Res.bind h).imp fun d q1 v H1 e1 i1 => ?_⟩
  cases i1 with
  | lst hh rr =>
    dsimp only [srtL] at q1
    split at q1
    · rename_i xs hx
      split at q1
      · rename_i hz
        have ex := strL_eq _ hx
        subst ex
        exact ⟨_, _, xs, rfl, .inl hh, rr, hz, fun l hl => q1 _ _ (e1.trans (same_new hl _)) (.lst (SqL.of upd_same) (isl_str _))⟩
      · exact False.elim q1
    · exact False.elim q1
  | tup hh rr =>
    dsimp only [srtL] at q1
    split at q1
    · rename_i xs hx
      split at q1
      · rename_i hz
        have ex := strL_eq _ hx
        subst ex
        exact ⟨_, _, xs, rfl, .inr hh, rr, hz, fun l hl => q1 _ _ (e1.trans (same_new hl _)) (.lst (SqL.of upd_same) (isl_str _))⟩
      · exact False.elim q1
    · exact False.elim q1
  | _ => exact False.elim q1
end
end L2.PU

namespace L2.PU
open PySem PySem.Spec PyProof.Rows
theorem andV_ok {f g : Rho → M D} {ρ : Rho} {a b : Bool} (h1 : f ρ = ok (.bl a)) (h2 : g ρ = ok (.bl b)) : andV f g ρ = ok (.bl (a && b)) := by
  unfold andV
  rw [h1]
  show (if a = true then g ρ else ok (.bl false)) = _
  cases a
  · rfl
  · rw [if_pos rfl, h2]; rfl
theorem orV_ok {f g : Rho → M D} {ρ : Rho} {a b : Bool} (h1 : f ρ = ok (.bl a)) (h2 : g ρ = ok (.bl b)) : orV f g ρ = ok (.bl (a || b)) := by
  unfold orV
  rw [h1]
  show (if a = true then ok (.bl true) else g ρ) = _
  cases a
  · rw [if_neg (by decide), h2]; rfl
  · rfl
theorem f1_ok {g : D → M D} {f : Rho → M D} {ρ : Rho} {d : D} {r : M D} (h : f ρ = ok d) (h2 : g d = r) : f1 g f ρ = r := by unfold f1; rw [h]; exact h2
theorem ix_tup {ds : List D} {j : Nat} {d : D} (h : ds[j]? = some d) : gIx (.tup ds) (.int (j : Int)) = ok d := by
  show (match atI ds (j : Int) with | some d => ok d | none => none) = _
  rw [atI_nat h]
theorem mul_ok {f g : Rho → M D} {ρ : Rho} {i j : Int} (h1 : f ρ = ok (.int i)) (h2 : g ρ = ok (.int j)) (hm : mulB i j = true) : b2 gTimes f g ρ = ok (.int (i * j)) := b2_ok h1 h2 (by simp [gTimes, gMul, hm])
theorem loop_cons {G : D → Rho → Option Rho} {F : Rho → Option Out} {d : D} {ds : List D} {ρ ρ1 ρ2 : Rho} (h1 : G d ρ = some ρ1) (h2 : F ρ1 = some (.nx ρ2)) : loop G F (d :: ds) ρ = loop G F ds ρ2 := by
  (conv => lhs; unfold loop)
  rw [h1]
  dsimp only
  rw [h2]
noncomputable def denNumber2 : Rho → Option Out :=
    (sSeq (sIf (testB (b2 gEq (b2 gMod (look 0) (con (.int 3))) (con (.int 0)))) (sSeq (sRet (b2 gMod (b2 gFdiv (look 0) (con (.int 3))) (con (.int 4))))
    sNil) sNil)
    (sSeq (sIf (testB (b2 gEq (b2 gMod (look 0) (con (.int 3))) (con (.int 1)))) (sSeq (sRet (b2 gPlus (b2 gTimes (b2 gMod (b2 gFdiv (look 0) (con (.int 3))) (b2 gPow (con (.int 10)) (con (.int 20)))) (b2 gPow (con (.int 10)) (con (.int 39)))) (b2 gMod (look 0) (con (.int 7)))))
    sNil) sNil)
    (sSeq (sRet (b2 gMod (b2 gFdiv (look 0) (con (.int 3))) (b2 gPow (con (.int 10)) (con (.int 60)))))
    sNil)))
theorem number_den2 (N : List Str) (hN : N.length = 1) : ∀ ds r, fNumber ds = some r → ∃ d, r = .ok d ∧ fnRes (denNumber2 (rho0 N ds)) = ok d := by
  intro ds r h
  unfold fNumber at h
  split at h
  · rename_i c
    cases h
    refine ⟨_, rfl, ?_⟩
    have e0 : rho0 N [.int c] = [some (.sh (.int c))] := by unfold rho0; rw [hN]; rfl
    rw [e0]
    have q := num_lo c
    unfold num at q ⊢
    by_cases h0 : c % 3 = 0
    · rw [if_pos h0]
      simp [denNumber2, sSeq, sIf, sRet, testB, b2, look, con, bnd, ok, lft, gMod, gFdiv, gEq, eqF, blOf, fnRes, SV.cur, h0]
    · rw [if_neg h0] at q ⊢
      by_cases h1 : c % 3 = 1
      · rw [if_pos h1] at q ⊢
        have hm : mulB (c / 3 % 100000000000000000000) 1000000000000000000000000000000000000000 = true := mul_small (by omega) (by omega) (by omega) (by omega)
        simp [denNumber2, sSeq, sIf, sRet, testB, b2, look, con, bnd, ok, lft, gMod, gFdiv, gEq, eqF, blOf, fnRes, SV.cur, h0, h1, sNil, gPow, gTimes, gMul, gPlus, hm]
      · rw [if_neg h1] at q ⊢
        simp [denNumber2, sSeq, sIf, sRet, testB, b2, look, con, bnd, ok, lft, gMod, gFdiv, gEq, eqF, blOf, fnRes, SV.cur, h0, h1, sNil, gPow, gTimes, gMul, gPlus]
  · cases h

/-! ### sets and sorted lists of texts -/
theorem srt_eq {z u : List Str} (hz : z.Pairwise (fun a b => leS a b = true)) (hp : z.Perm u) : srtS u = z :=
  (List.Perm.eq_of_pairwise (fun a b _ _ h1 h2 => leS_anti a b h1 h2) (srtS_pair u) hz ((srtS_perm u).trans hp.symm))
theorem toS_tS {xs : List Str} (hn : xs.Nodup) (hl : xs.length ≤ 2000) : toS (tS xs) = ok (.set xs) := by
  show (match strL (xs.map D.str) with | some xs => if xs.length ≤ 2000 then ok (D.set (metS xs)) else none | none => none) = _
  rw [strL_map]
  show (if xs.length ≤ 2000 then ok (D.set (metS xs)) else none) = _
  rw [if_pos hl, metS_self hn]
theorem toS_lS (xs : List Str) (hl : xs.length ≤ 2000) : toS (.lst (xs.map D.str)) = ok (.set (metS xs)) := by
  show (match strL (xs.map D.str) with | some xs => if xs.length ≤ 2000 then ok (D.set (metS xs)) else none | none => none) = _
  rw [strL_map]
  show (if xs.length ≤ 2000 then ok (D.set (metS xs)) else none) = _
  rw [if_pos hl]
theorem srtD_set {ss : List Str} (hn : ss.Nodup) (hl : ss.length < 64) : srtD (.set ss) = ok (.lst ((srtS ss).map D.str)) := by
  show (if ss.length < 64 ∧ ss.Nodup then _ else _) = _
  rw [if_pos ⟨hl, hn⟩]
theorem srtL_lS {xs : List Str} (hl : xs.length < 64) : srtL (.lst (xs.map D.str)) = ok (.lst ((srtS xs).map D.str)) := by
  show (match strL (xs.map D.str) with | some xs => if xs.length < 64 then ok (D.lst ((srtS xs).map .str)) else none | none => none) = _
  rw [strL_map]
  show (if xs.length < 64 then _ else _) = _
  rw [if_pos hl]
theorem ppl_nodup {P xs : List Str} (hn : P.Nodup) (h : xs.Sublist P) : xs.Nodup := List.Sublist.nodup h hn
theorem ppl_or {P xs ys : List Str} (hn : P.Nodup) (hs : P.Pairwise (fun a b => leS a b = true)) (hx : xs.Sublist P) (hy : ys.Sublist P) : srtS (uniS xs ys) = P.filter fun k => xs.contains k || ys.contains k := by
  refine srt_eq (hs.sublist List.filter_sublist) ((List.perm_ext_iff_of_nodup (List.Sublist.nodup List.filter_sublist hn) (uni_nodup (ppl_nodup hn hx) ys)).mpr fun k => ?_)
  rw [List.mem_filter, uni_mem, Bool.or_eq_true, List.contains_iff_mem, List.contains_iff_mem]
  exact ⟨fun h => h.2, fun h => ⟨h.elim (fun q => hx.mem q) (fun q => hy.mem q), h⟩⟩
theorem ppl_and {P xs ys : List Str} (hn : P.Nodup) (hs : P.Pairwise (fun a b => leS a b = true)) (hx : xs.Sublist P) (hy : ys.Sublist P) : srtS (capS xs ys) = P.filter fun k => xs.contains k && ys.contains k := by
  refine srt_eq (hs.sublist List.filter_sublist) ((List.perm_ext_iff_of_nodup (List.Sublist.nodup List.filter_sublist hn) (List.Sublist.nodup List.filter_sublist (ppl_nodup hn hx))).mpr fun k => ?_)
  rw [List.mem_filter, List.mem_filter, Bool.and_eq_true, List.contains_iff_mem, List.contains_iff_mem]
  exact ⟨fun h => h.2, fun h => ⟨hx.mem h.1, h⟩⟩
end L2.PU

namespace L2.PU
open PySem PySem.Spec PyProof.Rows
section
variable {prog : Program} {w : World} {A : Around} {E : Value → Shared → Prop} {s : Shared}
end
end L2.PU

namespace L2.PU
open PySem PySem.Spec PyProof.Rows
section
variable {prog : Program} {w : World} {A : Around} {E : Value → Shared → Prop} {s : Shared}
end
end L2.PU

namespace L2.PU
open PySem PySem.Spec PyProof.Rows
section
variable {prog : Program} {w : World} {A : Around} {E : Value → Shared → Prop} {s : Shared}
end
end L2.PU

namespace L2.PU
open PySem PySem.Spec PyProof.Rows
/-! ### zip in a comprehension -/
section
variable {X : Cx} {pins : List (Addr × Obj)} {σ : List (Option V)} {H : Hp} {s : Shared} {h' : Heap}
end
section
variable {X : Cx} {pins : List (Addr × Obj)} {σ : List (Option V)} {H : Hp} {s : Shared}
end
section
variable {prog : Program} {w : World} {A : Around} {E : Value → Shared → Prop} {s : Shared}
end
end L2.PU

namespace L2.PU
open PySem PySem.Spec PyProof.Rows
section
variable {prog : Program} {w : World} {A : Around} {E : Value → Shared → Prop} {s : Shared}
end
section
variable {X : Cx} {B : Hp} {a b : Expr} {fa fb : Rho → M D} {pos p : Pos} {elts : List Expr} {ct : Nat} {tp : Pos}
end
end L2.PU

namespace L2.PU
open PySem PySem.Spec PyProof.Rows
section
variable {X : Cx} {B : Hp} {e a b : Expr} {fa fb : Rho → M D} {pos p p2 pos2 pos' : Pos} {x : Str} {i : Nat}
end
end L2.PU

namespace L2.PU
open PySem PySem.Spec PyProof.Rows
end L2.PU

namespace L2.PU
open PySem PySem.Spec PyProof.Rows
/-! ### t.count(x): texts -/
section
variable {prog : Program} {w : World} {A : Around} {E : Value → Shared → Prop} {s : Shared}
end
end L2.PU

namespace L2.PU
open PySem PySem.Spec PyProof.Rows
section
variable {prog : Program} {w : World} {A : Around} {E : Value → Shared → Prop} {s : Shared}
end
end L2.PU

namespace L2.PU
open PySem PySem.Spec PyProof.Rows
/-- the values are those texts -/
noncomputable def TxA : List Value → List Str → Prop
  | [], [] => True
  | v :: vs, x :: xs => (∃ u, v = Value.str x u) ∧ TxA vs xs
  | _, _ => False
theorem TxA.length : ∀ {vs : List Value} {xs : List Str}, TxA vs xs → vs.length = xs.length
  | [], [], _ => rfl
  | _ :: _, _ :: _, h => by rw [List.length_cons, List.length_cons, TxA.length h.2]
  | [], _ :: _, h => h.elim
  | _ :: _, [], h => h.elim
section
variable {prog : Program} {w : World} {A : Around} {E : Value → Shared → Prop} {s : Shared}
end
end L2.PU

namespace L2.PU
open PySem PySem.Spec PyProof.Rows PySem.W
/-- the places from 0 on, in some order -/
noncomputable def Plc (n : Nat) (p : Array Nat) : Prop := p.toList.Perm (List.range n)
theorem Plc.of {n : Nat} {p p' : Array Nat} (h : Plc n p) (q : p'.Perm p) : Plc n p' := (Array.perm_iff_toList_perm.mp q).trans h
section
variable {prog : Program} {w : World} {A : Around} {E : Value → Shared → Prop} {s : Shared}
end
end L2.PU

namespace L2.PU
open PySem PySem.Spec PyProof.Rows PySem.W
section
variable {prog : Program} {w : World} {A : Around} {E : Value → Shared → Prop} {s : Shared}
end
end L2.PU

namespace L2.PU
open PySem PySem.Spec PyProof.Rows
/-! ### dicts of one's own -/
section
variable {K : PySem.W.Frag} {H₀ H : Hp} {ρ : Rho} {σ : St}
end
/-- the keys that data are -/
noncomputable def keyOf : D → Option Key
  | .int i => some (.inl i)
  | .str x => some (.inr x)
  | _ => none
noncomputable def keysOf : List D → Option (List Key)
  | [] => some []
  | d :: ds => match keyOf d, keysOf ds with | some k, some ks => some (k :: ks) | _, _ => none
section
variable {X : Cx} {B : Hp} {e : Expr} {fa : Rho → M D} {pos pos' p pos2 : Pos} {x : Str} {i j : Nat}
end
end L2.PU

namespace L2.PU
open PySem PySem.Spec PyProof.Rows
/-! ### a dict of one's own by tuples: get, store -/
section
variable {κ : Type} [DecidableEq κ]
end
section
variable {K : PySem.W.Frag} {H : Hp}
end
section
variable {X : Cx} {B : Hp} {e : Expr} {fa : Rho → M D} {pos pos' p p2 tpos cpos apos : Pos} {x y : Str} {i j : Nat}
end
end L2.PU

namespace L2.PU
open PySem PySem.Spec PyProof.Rows
/-! ### t.count(x): texts -/
section
variable {X : Cx} {B : Hp} {e a b : Expr} {fa fb : Rho → M D} {pos p apos cpos : Pos}
end
end L2.PU

namespace L2.PU
open PySem PySem.Spec PyProof.Rows
/-! ### many new objects at once -/
open Classical in
section
variable {X : Cx} {B : Hp} {pos p p2 apos cpos : Pos} {i : Nat} {x : Str}
end
end L2.PU

namespace L2.PU
open PySem PySem.Spec PyProof.Rows

section
variable {X : Cx} {B : Hp} {scope : Scope} {cl : List (Str × Addr)} {y : Str} {N' : List Str} {m : Nat}
variable {x : Str} {tg iter elt : Expr} {ifs : List Expr} {pos : Pos} {ks : List Nat} {G : D → Option (List D)} {ft : Rho → M Bool} {fe : Rho → M D} {it : Rho → M (List D)}
end
end L2.PU

namespace L2.PU
open PySem PySem.Spec PyProof.Rows
/-! ### x.extend(y), x a list of one's own, y a list or a tuple -/
section
variable {X : Cx} {B : Hp} {e : Expr} {fa : Rho → M D} {pos p apos cpos : Pos} {x : Str} {i : Nat}
end
/-- two defs at one address have one name -/
theorem fn_ne {K : PySem.W.Frag} {f : Addr} {oc oc' kV kV' dc dc' pm pm' cd cd' ct ct' dV dV' : Value} {od od' an an' : Option Addr} {sl sl' : Array (Option Value)} {n n' q q' : Str} {ps ps' : Arguments} {b b' : List Stmt} {sc sc' : Scope}
    (l : K.lookup f = some ⟨oc, od, .func (PySem.W.fnOf n q ps b sc dV kV dc pm an cd ct), sl⟩) (l' : K.lookup f = some ⟨oc', od', .func (PySem.W.fnOf n' q' ps' b' sc' dV' kV' dc' pm' an' cd' ct'), sl'⟩) (hq : q ≠ q') : False := by
  have z := l.symm.trans l'
  simp only [Option.some.injEq, Obj.mk.injEq, Data.func.injEq, PySem.W.fnOf, FuncData.mk.injEq] at z
  exact hq z.2.2.1.2.1
/-! ### lists of a told length -/
theorem ar1 (us : List Value) (hl : us.length = 1) : ∃ a, us = [a] := by
  cases us with
  | nil => exact absurd hl (by simp)
  | cons a us =>
    cases us with
    | nil => exact ⟨a, rfl⟩
    | cons z us => exact absurd hl (by simp)
theorem ar2 (us : List Value) (hl : us.length = 2) : ∃ a b, us = [a, b] := by
  cases us with
  | nil => exact absurd hl (by simp)
  | cons a us =>
    cases us with
    | nil => exact absurd hl (by simp)
    | cons b us =>
      cases us with
      | nil => exact ⟨a, b, rfl⟩
      | cons z us => exact absurd hl (by simp)
theorem ar3 (us : List Value) (hl : us.length = 3) : ∃ a b c, us = [a, b, c] := by
  cases us with
  | nil => exact absurd hl (by simp)
  | cons a us =>
    cases us with
    | nil => exact absurd hl (by simp)
    | cons b us =>
      cases us with
      | nil => exact absurd hl (by simp)
      | cons c us =>
        cases us with
        | nil => exact ⟨a, b, c, rfl⟩
        | cons z us => exact absurd hl (by simp)
theorem ar4 (us : List Value) (hl : us.length = 4) : ∃ a b c d, us = [a, b, c, d] := by
  cases us with
  | nil => exact absurd hl (by simp)
  | cons a us =>
    cases us with
    | nil => exact absurd hl (by simp)
    | cons b us =>
      cases us with
      | nil => exact absurd hl (by simp)
      | cons c us =>
        cases us with
        | nil => exact absurd hl (by simp)
        | cons d us =>
          cases us with
          | nil => exact ⟨a, b, c, d, rfl⟩
          | cons z us => exact absurd hl (by simp)
end L2.PU

set_option Elab.async false
set_option linter.all false
set_option maxRecDepth 100000
set_option maxHeartbeats 4000000
namespace K06
open PySem PySem.Spec PyProof.Rows L2 L2.PU
noncomputable abbrev St := L2.St
noncomputable def top (i : Nat) : Stmt := PySem.Challenge.pw_whence_k06_pairs.main.body.getD i (.Pass ⟨0, 0, 0, 0⟩)
noncomputable abbrev s_is_whole : Stmt := top 5
noncomputable abbrev s_Truths___init__ : Stmt := inClass (top 7) 0
noncomputable abbrev s_Truths_plus : Stmt := inClass (top 7) 1
noncomputable abbrev s_Truths_times : Stmt := inClass (top 7) 2
noncomputable abbrev s_Counts___init__ : Stmt := inClass (top 8) 0
noncomputable abbrev s_Counts_plus : Stmt := inClass (top 8) 1
noncomputable abbrev s_Counts_times : Stmt := inClass (top 8) 2
noncomputable abbrev s_Rounds___init__ : Stmt := inClass (top 9) 0
noncomputable abbrev s_Rounds_plus : Stmt := inClass (top 9) 1
noncomputable abbrev s_Rounds_times : Stmt := inClass (top 9) 2
noncomputable abbrev s_Costs___init__ : Stmt := inClass (top 10) 0
noncomputable abbrev s_Costs_plus : Stmt := inClass (top 10) 1
noncomputable abbrev s_Costs_times : Stmt := inClass (top 10) 2
noncomputable abbrev s_Seers___init__ : Stmt := inClass (top 11) 0
noncomputable abbrev s_Seers_plus : Stmt := inClass (top 11) 1
noncomputable abbrev s_Seers_times : Stmt := inClass (top 11) 2
noncomputable abbrev s_Pairs___init__ : Stmt := inClass (top 12) 0
noncomputable abbrev s_Pairs_plus : Stmt := inClass (top 12) 1
noncomputable abbrev s_Pairs_times : Stmt := inClass (top 12) 2
noncomputable abbrev s_law_at : Stmt := top 14
noncomputable abbrev s_law_same : Stmt := top 15
noncomputable abbrev s_law_number : Stmt := top 16
noncomputable abbrev s_law_name : Stmt := top 17
noncomputable abbrev s_law_some : Stmt := top 18
noncomputable abbrev s_law_cost : Stmt := top 19
noncomputable abbrev s_law_lesser : Stmt := top 20
noncomputable abbrev s_law_summed : Stmt := top 21
noncomputable abbrev s_law_two : Stmt := top 22
noncomputable abbrev s_law_seen : Stmt := top 23
noncomputable abbrev s_law : Stmt := top 24
set_option genInjectivity false in
structure Adr where
  C_Truths : Addr
  C_Counts : Addr
  C_Rounds : Addr
  C_Costs : Addr
  C_Seers : Addr
  C_Pairs : Addr
  X_NoWay : Addr
  f_is_whole : Addr
  f_Truths___init__ : Addr
  f_Truths_plus : Addr
  f_Truths_times : Addr
  f_Counts___init__ : Addr
  f_Counts_plus : Addr
  f_Counts_times : Addr
  f_Rounds___init__ : Addr
  f_Rounds_plus : Addr
  f_Rounds_times : Addr
  f_Costs___init__ : Addr
  f_Costs_plus : Addr
  f_Costs_times : Addr
  f_Seers___init__ : Addr
  f_Seers_plus : Addr
  f_Seers_times : Addr
  f_Pairs___init__ : Addr
  f_Pairs_plus : Addr
  f_Pairs_times : Addr
  f_law_at : Addr
  f_law_same : Addr
  f_law_number : Addr
  f_law_name : Addr
  f_law_some : Addr
  f_law_cost : Addr
  f_law_lesser : Addr
  f_law_summed : Addr
  f_law_two : Addr
  f_law_seen : Addr
  f_law : Addr
noncomputable def cs (t : Adr) (C : Addr) : Bool := decide (C = t.C_Truths) || decide (C = t.C_Counts) || decide (C = t.C_Rounds) || decide (C = t.C_Costs) || decide (C = t.C_Seers) || decide (C = t.C_Pairs)
structure Txt (K : PySem.W.Frag) (mg : Str → Option Value) (t : Adr) : Prop where
  g_Truths : mg "Truths" = some (.ref t.C_Truths)
  cl_Truths : Cls K t.C_Truths
  mk_Truths : Mk K t.C_Truths t.f_Truths___init__
  me_Truths_plus : Meth K t.C_Truths "plus" t.f_Truths_plus
  me_Truths_times : Meth K t.C_Truths "times" t.f_Truths_times
  g_Counts : mg "Counts" = some (.ref t.C_Counts)
  cl_Counts : Cls K t.C_Counts
  mk_Counts : Mk K t.C_Counts t.f_Counts___init__
  me_Counts_plus : Meth K t.C_Counts "plus" t.f_Counts_plus
  me_Counts_times : Meth K t.C_Counts "times" t.f_Counts_times
  g_Rounds : mg "Rounds" = some (.ref t.C_Rounds)
  cl_Rounds : Cls K t.C_Rounds
  mk_Rounds : Mk K t.C_Rounds t.f_Rounds___init__
  me_Rounds_plus : Meth K t.C_Rounds "plus" t.f_Rounds_plus
  me_Rounds_times : Meth K t.C_Rounds "times" t.f_Rounds_times
  g_Costs : mg "Costs" = some (.ref t.C_Costs)
  cl_Costs : Cls K t.C_Costs
  mk_Costs : Mk K t.C_Costs t.f_Costs___init__
  me_Costs_plus : Meth K t.C_Costs "plus" t.f_Costs_plus
  me_Costs_times : Meth K t.C_Costs "times" t.f_Costs_times
  g_Seers : mg "Seers" = some (.ref t.C_Seers)
  cl_Seers : Cls K t.C_Seers
  mk_Seers : Mk K t.C_Seers t.f_Seers___init__
  me_Seers_plus : Meth K t.C_Seers "plus" t.f_Seers_plus
  me_Seers_times : Meth K t.C_Seers "times" t.f_Seers_times
  g_Pairs : mg "Pairs" = some (.ref t.C_Pairs)
  cl_Pairs : Cls K t.C_Pairs
  mk_Pairs : Mk K t.C_Pairs t.f_Pairs___init__
  me_Pairs_plus : Meth K t.C_Pairs "plus" t.f_Pairs_plus
  me_Pairs_times : Meth K t.C_Pairs "times" t.f_Pairs_times
  g_NoWay : mg "NoWay" = some (.ref t.X_NoWay)
  xi_NoWay : PySem.W.excIn K t.X_NoWay [.type "ValueError", .type "Exception", .type "BaseException", .type "object"] "ValueError.__new__" = true
  nf_left : ∀ C, cs t C = true → Cls K C ∧ NoAttr K C "left"
  nf_many : ∀ C, cs t C = true → Cls K C ∧ NoAttr K C "many"
  nf_nought : ∀ C, cs t C = true → Cls K C ∧ NoAttr K C "nought"
  nf_one : ∀ C, cs t C = true → Cls K C ∧ NoAttr K C "one"
  nf_right : ∀ C, cs t C = true → Cls K C ∧ NoAttr K C "right"
  F_is_whole : ∃ fd, Fun K "is_whole" "is_whole" s_is_whole t.f_is_whole fd ∧ Binds K fd ["thing", "least"] []
  g_is_whole : mg "is_whole" = some (.ref t.f_is_whole)
  F_Truths___init__ : ∃ fd, Fun K "__init__" "Truths.__init__" s_Truths___init__ t.f_Truths___init__ fd ∧ Binds K fd ["self"] []
  F_Truths_plus : ∃ fd, Fun K "plus" "Truths.plus" s_Truths_plus t.f_Truths_plus fd ∧ Binds K fd ["self", "a", "b"] []
  F_Truths_times : ∃ fd, Fun K "times" "Truths.times" s_Truths_times t.f_Truths_times fd ∧ Binds K fd ["self", "a", "b"] []
  F_Counts___init__ : ∃ fd, Fun K "__init__" "Counts.__init__" s_Counts___init__ t.f_Counts___init__ fd ∧ Binds K fd ["self"] []
  F_Counts_plus : ∃ fd, Fun K "plus" "Counts.plus" s_Counts_plus t.f_Counts_plus fd ∧ Binds K fd ["self", "a", "b"] []
  F_Counts_times : ∃ fd, Fun K "times" "Counts.times" s_Counts_times t.f_Counts_times fd ∧ Binds K fd ["self", "a", "b"] []
  F_Rounds___init__ : ∃ fd, Fun K "__init__" "Rounds.__init__" s_Rounds___init__ t.f_Rounds___init__ fd ∧ Binds K fd ["self", "many"] []
  F_Rounds_plus : ∃ fd, Fun K "plus" "Rounds.plus" s_Rounds_plus t.f_Rounds_plus fd ∧ Binds K fd ["self", "a", "b"] []
  F_Rounds_times : ∃ fd, Fun K "times" "Rounds.times" s_Rounds_times t.f_Rounds_times fd ∧ Binds K fd ["self", "a", "b"] []
  F_Costs___init__ : ∃ fd, Fun K "__init__" "Costs.__init__" s_Costs___init__ t.f_Costs___init__ fd ∧ Binds K fd ["self"] []
  F_Costs_plus : ∃ fd, Fun K "plus" "Costs.plus" s_Costs_plus t.f_Costs_plus fd ∧ Binds K fd ["self", "a", "b"] []
  F_Costs_times : ∃ fd, Fun K "times" "Costs.times" s_Costs_times t.f_Costs_times fd ∧ Binds K fd ["self", "a", "b"] []
  F_Seers___init__ : ∃ fd, Fun K "__init__" "Seers.__init__" s_Seers___init__ t.f_Seers___init__ fd ∧ Binds K fd ["self", "people"] []
  F_Seers_plus : ∃ fd, Fun K "plus" "Seers.plus" s_Seers_plus t.f_Seers_plus fd ∧ Binds K fd ["self", "a", "b"] []
  F_Seers_times : ∃ fd, Fun K "times" "Seers.times" s_Seers_times t.f_Seers_times fd ∧ Binds K fd ["self", "a", "b"] []
  F_Pairs___init__ : ∃ fd, Fun K "__init__" "Pairs.__init__" s_Pairs___init__ t.f_Pairs___init__ fd ∧ Binds K fd ["self", "left", "right"] []
  F_Pairs_plus : ∃ fd, Fun K "plus" "Pairs.plus" s_Pairs_plus t.f_Pairs_plus fd ∧ Binds K fd ["self", "a", "b"] []
  F_Pairs_times : ∃ fd, Fun K "times" "Pairs.times" s_Pairs_times t.f_Pairs_times fd ∧ Binds K fd ["self", "a", "b"] []
  F_law_at : ∃ fd, Fun K "_law_at" "_law_at" s_law_at t.f_law_at fd ∧ Binds K fd ["_law_script", "_law_k"] []
  g_law_at : mg "_law_at" = some (.ref t.f_law_at)
  F_law_same : ∃ fd, Fun K "_law_same" "_law_same" s_law_same t.f_law_same fd ∧ Binds K fd ["_law_found", "_law_due"] []
  g_law_same : mg "_law_same" = some (.ref t.f_law_same)
  F_law_number : ∃ fd, Fun K "_law_number" "_law_number" s_law_number t.f_law_number fd ∧ Binds K fd ["_law_cell"] []
  g_law_number : mg "_law_number" = some (.ref t.f_law_number)
  F_law_name : ∃ fd, Fun K "_law_name" "_law_name" s_law_name t.f_law_name fd ∧ Binds K fd ["_law_style", "_law_k"] []
  g_law_name : mg "_law_name" = some (.ref t.f_law_name)
  F_law_some : ∃ fd, Fun K "_law_some" "_law_some" s_law_some t.f_law_some fd ∧ Binds K fd ["_law_row", "_law_by"] []
  g_law_some : mg "_law_some" = some (.ref t.f_law_some)
  F_law_cost : ∃ fd, Fun K "_law_cost" "_law_cost" s_law_cost t.f_law_cost fd ∧ Binds K fd ["_law_cell"] []
  g_law_cost : mg "_law_cost" = some (.ref t.f_law_cost)
  F_law_lesser : ∃ fd, Fun K "_law_lesser" "_law_lesser" s_law_lesser t.f_law_lesser fd ∧ Binds K fd ["_law_a", "_law_b"] []
  g_law_lesser : mg "_law_lesser" = some (.ref t.f_law_lesser)
  F_law_summed : ∃ fd, Fun K "_law_summed" "_law_summed" s_law_summed t.f_law_summed fd ∧ Binds K fd ["_law_a", "_law_b"] []
  g_law_summed : mg "_law_summed" = some (.ref t.f_law_summed)
  F_law_two : ∃ fd, Fun K "_law_two" "_law_two" s_law_two t.f_law_two fd ∧ Binds K fd ["_law_way", "_law_many", "_law_a", "_law_b"] []
  g_law_two : mg "_law_two" = some (.ref t.f_law_two)
  F_law_seen : ∃ fd, Fun K "_law_seen" "_law_seen" s_law_seen t.f_law_seen fd ∧ Binds K fd ["_law_way", "_law_people", "_law_a", "_law_b"] []
  g_law_seen : mg "_law_seen" = some (.ref t.f_law_seen)
  F_law : ∃ fd, Fun K "law" "law" s_law t.f_law fd ∧ Binds K fd ["_law_script"] []
  g_law : mg "law" = some (.ref t.f_law)
  b_bool : mg "bool" = none
  b_int : mg "int" = none
  b_isinstance : mg "isinstance" = none
  b_len : mg "len" = none
  b_list : mg "list" = none
  b_min : mg "min" = none
  b_range : mg "range" = none
  b_set : mg "set" = none
  b_sorted : mg "sorted" = none
  b_str : mg "str" = none
  b_tuple : mg "tuple" = none
  ne_Truths_Counts : t.C_Truths ≠ t.C_Counts
  ne_Truths_Rounds : t.C_Truths ≠ t.C_Rounds
  ne_Truths_Costs : t.C_Truths ≠ t.C_Costs
  ne_Truths_Seers : t.C_Truths ≠ t.C_Seers
  ne_Truths_Pairs : t.C_Truths ≠ t.C_Pairs
  ne_Counts_Truths : t.C_Counts ≠ t.C_Truths
  ne_Counts_Rounds : t.C_Counts ≠ t.C_Rounds
  ne_Counts_Costs : t.C_Counts ≠ t.C_Costs
  ne_Counts_Seers : t.C_Counts ≠ t.C_Seers
  ne_Counts_Pairs : t.C_Counts ≠ t.C_Pairs
  ne_Rounds_Truths : t.C_Rounds ≠ t.C_Truths
  ne_Rounds_Counts : t.C_Rounds ≠ t.C_Counts
  ne_Rounds_Costs : t.C_Rounds ≠ t.C_Costs
  ne_Rounds_Seers : t.C_Rounds ≠ t.C_Seers
  ne_Rounds_Pairs : t.C_Rounds ≠ t.C_Pairs
  ne_Costs_Truths : t.C_Costs ≠ t.C_Truths
  ne_Costs_Counts : t.C_Costs ≠ t.C_Counts
  ne_Costs_Rounds : t.C_Costs ≠ t.C_Rounds
  ne_Costs_Seers : t.C_Costs ≠ t.C_Seers
  ne_Costs_Pairs : t.C_Costs ≠ t.C_Pairs
  ne_Seers_Truths : t.C_Seers ≠ t.C_Truths
  ne_Seers_Counts : t.C_Seers ≠ t.C_Counts
  ne_Seers_Rounds : t.C_Seers ≠ t.C_Rounds
  ne_Seers_Costs : t.C_Seers ≠ t.C_Costs
  ne_Seers_Pairs : t.C_Seers ≠ t.C_Pairs
  ne_Pairs_Truths : t.C_Pairs ≠ t.C_Truths
  ne_Pairs_Counts : t.C_Pairs ≠ t.C_Counts
  ne_Pairs_Rounds : t.C_Pairs ≠ t.C_Rounds
  ne_Pairs_Costs : t.C_Pairs ≠ t.C_Costs
  ne_Pairs_Seers : t.C_Pairs ≠ t.C_Seers
section
variable {P : Program} {w : World} {K : PySem.W.Frag} {mg : Str → Option Value} {base : Heap} {t : Adr}
noncomputable def N_is_whole : List Str := ["thing", "least"]
theorem sc_is_whole : FnScope N_is_whole ["thing", "least"] (defScope s_is_whole) := ⟨rfl, rfl, rfl, by decide +kernel, rfl, by decide +kernel, by decide +kernel⟩
noncomputable def den_is_whole (t : Adr) : Rho → Option Out :=
    (sSeq (sRet (andV (isi "int" (look 0)) (andV (notV (isi "bool" (look 0))) (b2 gGe (look 0) (look 1)))))
    sNil)
theorem tm_is_whole (T : Txt K mg t) {k : Nat}  {cdv : Value} {A : Around} {outer : List Env} {s : Shared} {H : Hp} {E : XK} (hr : Room k (A.deeper (envOfC "is_whole" (defScope s_is_whole) s.heap.objs.size t.f_is_whole cdv))) (B : Hp) :
    PDB (cxN P w K mg base N_is_whole "is_whole" (defScope s_is_whole) t.f_is_whole cdv A outer s H E) B (defBody s_is_whole) (den_is_whole t) :=
  by
  refine pdb_cons ?_ ?_; (refine pds_ret ?_; (refine pd_and ?_ ?_; (refine pd_isi (T := "int") rfl T.b_isinstance rfl T.b_int (by decide +kernel) (by decide) ?_; (exact pd_var 0)); (refine pd_and ?_ ?_; (refine pd_not ?_; (refine pd_isi (T := "bool") rfl T.b_isinstance rfl T.b_bool (by decide +kernel) (by decide) ?_; (exact pd_var 0))); (refine pd_one ?_; (refine pd_ge ?_ ?_; (exact pd_var 0); (exact pd_var 1)))))); (exact pdb_nil)
theorem ok_is_whole (T : Txt K mg t) {k : Nat}  {F : List D → M D} (hL : ∀ ds r, F ds = some r → ds.length = 2) (hq : ∀ ds r, F ds = some r → ∃ d, r = .ok d ∧ fnRes (den_is_whole t (rho0 N_is_whole ds)) = ok d) : Def P w K mg base (k + 1) "is_whole" F := by
  obtain ⟨fd, Fu, bi⟩ := T.F_is_whole
  exact ⟨_, _, _, T.g_is_whole, Fu.kp, bi, hL, fn_D Fu sc_is_whole hL fun cdv A outer s H E hr => ⟨_, fun B => tm_is_whole T hr B, hq⟩⟩
noncomputable def N_Truths___init__ : List Str := ["self"]
theorem sc_Truths___init__ : FnScope N_Truths___init__ ["self"] (defScope s_Truths___init__) := ⟨rfl, rfl, rfl, by decide +kernel, rfl, by decide +kernel, by decide +kernel⟩
noncomputable def den_Truths___init__ (t : Adr) : Rho → Option Out :=
    (sSeq (sFldI (cs t) 0 "nought" (con (.bl false)))
    (sSeq (sFldI (cs t) 0 "one" (con (.bl true)))
    sNil))
theorem tm_Truths___init__ (T : Txt K mg t) {k : Nat}  {cdv : Value} {A : Around} {outer : List Env} {s : Shared} {H : Hp} {E : XK} (hr : Room k (A.deeper (envOfC "Truths.__init__" (defScope s_Truths___init__) s.heap.objs.size t.f_Truths___init__ cdv))) (B : Hp) :
    PDB (cxN P w K mg base N_Truths___init__ "Truths.__init__" (defScope s_Truths___init__) t.f_Truths___init__ cdv A outer s H E) B (defBody s_Truths___init__) (den_Truths___init__ t) :=
  by
  refine pdb_cons ?_ ?_; (refine pds_fldI (f := "nought") (i := 0) (T.nf_nought) rfl (Or.inl rfl) ?_; (exact pd_bl)); (refine pdb_cons ?_ ?_; (refine pds_fldI (f := "one") (i := 0) (T.nf_one) rfl (Or.inl rfl) ?_; (exact pd_bl)); (exact pdb_nil))
theorem ok_Truths___init__ (T : Txt K mg t) {k : Nat}  {F : List D → M (List (Str × D))} (hL : ∀ ds r, F ds = some r → ds.length + 1 = 1) (hq : ∀ ds r a dx, F ds = some r → ∃ fs, r = .ok fs ∧ iniRes a t.C_Truths dx (den_Truths___init__ t (rhoI N_Truths___init__ a t.C_Truths dx ds)) = ok fs) : Ctor P w K mg base (k + 1) "Truths" t.C_Truths F := by
  obtain ⟨fd, Fu, bi⟩ := T.F_Truths___init__
  exact ⟨_, _, _, T.g_Truths, T.mk_Truths, bi, hL, init_D Fu sc_Truths___init__ hL fun cdv A outer s H E hr => ⟨_, fun B => tm_Truths___init__ T hr B, hq⟩⟩
noncomputable def N_Truths_plus : List Str := ["self", "a", "b"]
theorem sc_Truths_plus : FnScope N_Truths_plus ["self", "a", "b"] (defScope s_Truths_plus) := ⟨rfl, rfl, rfl, by decide +kernel, rfl, by decide +kernel, by decide +kernel⟩
noncomputable def den_Truths_plus (t : Adr) : Rho → Option Out :=
    (sSeq (sRet (orV (look 1) (look 2)))
    sNil)
theorem tm_Truths_plus (T : Txt K mg t) {k : Nat}  {cdv : Value} {A : Around} {outer : List Env} {s : Shared} {H : Hp} {E : XK} (hr : Room k (A.deeper (envOfC "Truths.plus" (defScope s_Truths_plus) s.heap.objs.size t.f_Truths_plus cdv))) (B : Hp) :
    PDB (cxN P w K mg base N_Truths_plus "Truths.plus" (defScope s_Truths_plus) t.f_Truths_plus cdv A outer s H E) B (defBody s_Truths_plus) (den_Truths_plus t) :=
  by
  refine pdb_cons ?_ ?_; (refine pds_ret ?_; (refine pd_or ?_ ?_; (exact pd_var 1); (refine pd_one ?_; (exact pd_var 2)))); (exact pdb_nil)
theorem ok_Truths_plus (T : Txt K mg t) {k : Nat}  {F : List D → M D} (hL : ∀ ds r, F ds = some r → ds.length = 3) (hq : ∀ ds r, F ds = some r → ∃ d, r = .ok d ∧ fnRes (den_Truths_plus t (rho0 N_Truths_plus ds)) = ok d) : Mth P w K mg base (k + 1) t.C_Truths "plus" F := by
  obtain ⟨fd, Fu, bi⟩ := T.F_Truths_plus
  exact ⟨_, _, _, T.cl_Truths, T.me_Truths_plus, bi, hL, fn_D Fu sc_Truths_plus hL fun cdv A outer s H E hr => ⟨_, fun B => tm_Truths_plus T hr B, hq⟩⟩
noncomputable def N_Truths_times : List Str := ["self", "a", "b"]
theorem sc_Truths_times : FnScope N_Truths_times ["self", "a", "b"] (defScope s_Truths_times) := ⟨rfl, rfl, rfl, by decide +kernel, rfl, by decide +kernel, by decide +kernel⟩
noncomputable def den_Truths_times (t : Adr) : Rho → Option Out :=
    (sSeq (sRet (andV (look 1) (look 2)))
    sNil)
theorem tm_Truths_times (T : Txt K mg t) {k : Nat}  {cdv : Value} {A : Around} {outer : List Env} {s : Shared} {H : Hp} {E : XK} (hr : Room k (A.deeper (envOfC "Truths.times" (defScope s_Truths_times) s.heap.objs.size t.f_Truths_times cdv))) (B : Hp) :
    PDB (cxN P w K mg base N_Truths_times "Truths.times" (defScope s_Truths_times) t.f_Truths_times cdv A outer s H E) B (defBody s_Truths_times) (den_Truths_times t) :=
  by
  refine pdb_cons ?_ ?_; (refine pds_ret ?_; (refine pd_and ?_ ?_; (exact pd_var 1); (refine pd_one ?_; (exact pd_var 2)))); (exact pdb_nil)
theorem ok_Truths_times (T : Txt K mg t) {k : Nat}  {F : List D → M D} (hL : ∀ ds r, F ds = some r → ds.length = 3) (hq : ∀ ds r, F ds = some r → ∃ d, r = .ok d ∧ fnRes (den_Truths_times t (rho0 N_Truths_times ds)) = ok d) : Mth P w K mg base (k + 1) t.C_Truths "times" F := by
  obtain ⟨fd, Fu, bi⟩ := T.F_Truths_times
  exact ⟨_, _, _, T.cl_Truths, T.me_Truths_times, bi, hL, fn_D Fu sc_Truths_times hL fun cdv A outer s H E hr => ⟨_, fun B => tm_Truths_times T hr B, hq⟩⟩
noncomputable def N_Counts___init__ : List Str := ["self"]
theorem sc_Counts___init__ : FnScope N_Counts___init__ ["self"] (defScope s_Counts___init__) := ⟨rfl, rfl, rfl, by decide +kernel, rfl, by decide +kernel, by decide +kernel⟩
noncomputable def den_Counts___init__ (t : Adr) : Rho → Option Out :=
    (sSeq (sFldI (cs t) 0 "nought" (con (.int 0)))
    (sSeq (sFldI (cs t) 0 "one" (con (.int 1)))
    sNil))
theorem tm_Counts___init__ (T : Txt K mg t) {k : Nat}  {cdv : Value} {A : Around} {outer : List Env} {s : Shared} {H : Hp} {E : XK} (hr : Room k (A.deeper (envOfC "Counts.__init__" (defScope s_Counts___init__) s.heap.objs.size t.f_Counts___init__ cdv))) (B : Hp) :
    PDB (cxN P w K mg base N_Counts___init__ "Counts.__init__" (defScope s_Counts___init__) t.f_Counts___init__ cdv A outer s H E) B (defBody s_Counts___init__) (den_Counts___init__ t) :=
  by
  refine pdb_cons ?_ ?_; (refine pds_fldI (f := "nought") (i := 0) (T.nf_nought) rfl (Or.inl rfl) ?_; (exact pd_int)); (refine pdb_cons ?_ ?_; (refine pds_fldI (f := "one") (i := 0) (T.nf_one) rfl (Or.inl rfl) ?_; (exact pd_int)); (exact pdb_nil))
theorem ok_Counts___init__ (T : Txt K mg t) {k : Nat}  {F : List D → M (List (Str × D))} (hL : ∀ ds r, F ds = some r → ds.length + 1 = 1) (hq : ∀ ds r a dx, F ds = some r → ∃ fs, r = .ok fs ∧ iniRes a t.C_Counts dx (den_Counts___init__ t (rhoI N_Counts___init__ a t.C_Counts dx ds)) = ok fs) : Ctor P w K mg base (k + 1) "Counts" t.C_Counts F := by
  obtain ⟨fd, Fu, bi⟩ := T.F_Counts___init__
  exact ⟨_, _, _, T.g_Counts, T.mk_Counts, bi, hL, init_D Fu sc_Counts___init__ hL fun cdv A outer s H E hr => ⟨_, fun B => tm_Counts___init__ T hr B, hq⟩⟩
noncomputable def N_Counts_plus : List Str := ["self", "a", "b"]
theorem sc_Counts_plus : FnScope N_Counts_plus ["self", "a", "b"] (defScope s_Counts_plus) := ⟨rfl, rfl, rfl, by decide +kernel, rfl, by decide +kernel, by decide +kernel⟩
noncomputable def den_Counts_plus (t : Adr) : Rho → Option Out :=
    (sSeq (sRet (b2 gPlus (look 1) (look 2)))
    sNil)
theorem tm_Counts_plus (T : Txt K mg t) {k : Nat}  {cdv : Value} {A : Around} {outer : List Env} {s : Shared} {H : Hp} {E : XK} (hr : Room k (A.deeper (envOfC "Counts.plus" (defScope s_Counts_plus) s.heap.objs.size t.f_Counts_plus cdv))) (B : Hp) :
    PDB (cxN P w K mg base N_Counts_plus "Counts.plus" (defScope s_Counts_plus) t.f_Counts_plus cdv A outer s H E) B (defBody s_Counts_plus) (den_Counts_plus t) :=
  by
  refine pdb_cons ?_ ?_; (refine pds_ret ?_; (refine pd_plus ?_ ?_; (exact pd_var 1); (exact pd_var 2))); (exact pdb_nil)
theorem ok_Counts_plus (T : Txt K mg t) {k : Nat}  {F : List D → M D} (hL : ∀ ds r, F ds = some r → ds.length = 3) (hq : ∀ ds r, F ds = some r → ∃ d, r = .ok d ∧ fnRes (den_Counts_plus t (rho0 N_Counts_plus ds)) = ok d) : Mth P w K mg base (k + 1) t.C_Counts "plus" F := by
  obtain ⟨fd, Fu, bi⟩ := T.F_Counts_plus
  exact ⟨_, _, _, T.cl_Counts, T.me_Counts_plus, bi, hL, fn_D Fu sc_Counts_plus hL fun cdv A outer s H E hr => ⟨_, fun B => tm_Counts_plus T hr B, hq⟩⟩
noncomputable def N_Counts_times : List Str := ["self", "a", "b"]
theorem sc_Counts_times : FnScope N_Counts_times ["self", "a", "b"] (defScope s_Counts_times) := ⟨rfl, rfl, rfl, by decide +kernel, rfl, by decide +kernel, by decide +kernel⟩
noncomputable def den_Counts_times (t : Adr) : Rho → Option Out :=
    (sSeq (sRet (b2 gTimes (look 1) (look 2)))
    sNil)
theorem tm_Counts_times (T : Txt K mg t) {k : Nat}  {cdv : Value} {A : Around} {outer : List Env} {s : Shared} {H : Hp} {E : XK} (hr : Room k (A.deeper (envOfC "Counts.times" (defScope s_Counts_times) s.heap.objs.size t.f_Counts_times cdv))) (B : Hp) :
    PDB (cxN P w K mg base N_Counts_times "Counts.times" (defScope s_Counts_times) t.f_Counts_times cdv A outer s H E) B (defBody s_Counts_times) (den_Counts_times t) :=
  by
  refine pdb_cons ?_ ?_; (refine pds_ret ?_; (refine pd_times ?_ ?_; (exact pd_var 1); (exact pd_var 2))); (exact pdb_nil)
theorem ok_Counts_times (T : Txt K mg t) {k : Nat}  {F : List D → M D} (hL : ∀ ds r, F ds = some r → ds.length = 3) (hq : ∀ ds r, F ds = some r → ∃ d, r = .ok d ∧ fnRes (den_Counts_times t (rho0 N_Counts_times ds)) = ok d) : Mth P w K mg base (k + 1) t.C_Counts "times" F := by
  obtain ⟨fd, Fu, bi⟩ := T.F_Counts_times
  exact ⟨_, _, _, T.cl_Counts, T.me_Counts_times, bi, hL, fn_D Fu sc_Counts_times hL fun cdv A outer s H E hr => ⟨_, fun B => tm_Counts_times T hr B, hq⟩⟩
noncomputable def N_Rounds___init__ : List Str := ["self", "many"]
theorem sc_Rounds___init__ : FnScope N_Rounds___init__ ["self", "many"] (defScope s_Rounds___init__) := ⟨rfl, rfl, rfl, by decide +kernel, rfl, by decide +kernel, by decide +kernel⟩
noncomputable def den_Rounds___init__ (t : Adr) (F_is_whole : List D → M D) : Rho → Option Out :=
    (sSeq (sIf (notB (test (app F_is_whole (aCons (look 1) (aCons (con (.int 2)) aNil))))) (sSeq (sRaise t.X_NoWay (aCons (con (.str "rounds go by a whole number from 2 on")) aNil))
    sNil) sNil)
    (sSeq (sFldN (cs t) 0 "many" 1)
    (sSeq (sFldI (cs t) 0 "nought" (con (.int 0)))
    (sSeq (sFldI (cs t) 0 "one" (con (.int 1)))
    sNil))))
theorem tm_Rounds___init__ (T : Txt K mg t) {k : Nat} {F_is_whole : List D → M D} (G_is_whole : Def P w K mg base k "is_whole" F_is_whole) {cdv : Value} {A : Around} {outer : List Env} {s : Shared} {H : Hp} {E : XK} (hr : Room k (A.deeper (envOfC "Rounds.__init__" (defScope s_Rounds___init__) s.heap.objs.size t.f_Rounds___init__ cdv))) (B : Hp) :
    PDB (cxX P w K mg base N_Rounds___init__ "Rounds.__init__" (defScope s_Rounds___init__) t.f_Rounds___init__ cdv A outer s H E) B (defBody s_Rounds___init__) (den_Rounds___init__ t F_is_whole) :=
  by
  refine pdb_cons ?_ ?_; (refine pds_if ?_ ?_ ?_; (refine pdt_not ?_; (refine pdt_val ?_; (refine pd_call G_is_whole hr rfl ?_; (refine pda_cons ?_ ?_; (exact pd_var 1); (refine pda_cons ?_ ?_; (exact pd_int); (exact pda_nil)))))); (refine pdb_cons ?_ ?_; (refine pds_raise PySem.F.excBase_ValueError T.xi_NoWay T.g_NoWay rfl rfl ?_; (refine pda_cons ?_ ?_; (exact pd_str); (exact pda_nil))); (exact pdb_nil)); (exact pdb_nil)); (refine pdb_cons ?_ ?_; (exact pds_fldN (f := "many") (i := 0) (j := 1) (T.nf_many) rfl (Or.inl rfl) rfl (Or.inl rfl)); (refine pdb_cons ?_ ?_; (refine pds_fldI (f := "nought") (i := 0) (T.nf_nought) rfl (Or.inl rfl) ?_; (exact pd_int)); (refine pdb_cons ?_ ?_; (refine pds_fldI (f := "one") (i := 0) (T.nf_one) rfl (Or.inl rfl) ?_; (exact pd_int)); (exact pdb_nil))))
theorem ok_Rounds___init__ (T : Txt K mg t) {k : Nat} {F_is_whole : List D → M D} (G_is_whole : Def P w K mg base k "is_whole" F_is_whole) {F : List D → M (List (Str × D))} (hL : ∀ ds r, F ds = some r → ds.length + 1 = 2) (hq : ∀ ds r a dx, F ds = some r → iniResX a t.C_Rounds dx (den_Rounds___init__ t F_is_whole (rhoI N_Rounds___init__ a t.C_Rounds dx ds)) = some r) : Ctor P w K mg base (k + 1) "Rounds" t.C_Rounds F := by
  obtain ⟨fd, Fu, bi⟩ := T.F_Rounds___init__
  exact ⟨_, _, _, T.g_Rounds, T.mk_Rounds, bi, hL, init_X Fu sc_Rounds___init__ hL fun cdv A outer s H E hr => ⟨_, fun B => tm_Rounds___init__ T G_is_whole hr B, hq⟩⟩
noncomputable def N_Rounds_plus : List Str := ["self", "a", "b"]
theorem sc_Rounds_plus : FnScope N_Rounds_plus ["self", "a", "b"] (defScope s_Rounds_plus) := ⟨rfl, rfl, rfl, by decide +kernel, rfl, by decide +kernel, by decide +kernel⟩
noncomputable def den_Rounds_plus (t : Adr) : Rho → Option Out :=
    (sSeq (sRet (b2 gMod (b2 gPlus (look 1) (look 2)) (fld (cs t) "many" (look 0))))
    sNil)
theorem tm_Rounds_plus (T : Txt K mg t) {k : Nat}  {cdv : Value} {A : Around} {outer : List Env} {s : Shared} {H : Hp} {E : XK} (hr : Room k (A.deeper (envOfC "Rounds.plus" (defScope s_Rounds_plus) s.heap.objs.size t.f_Rounds_plus cdv))) (B : Hp) :
    PDB (cxN P w K mg base N_Rounds_plus "Rounds.plus" (defScope s_Rounds_plus) t.f_Rounds_plus cdv A outer s H E) B (defBody s_Rounds_plus) (den_Rounds_plus t) :=
  by
  refine pdb_cons ?_ ?_; (refine pds_ret ?_; (refine pd_mod ?_ ?_; (refine pd_plus ?_ ?_; (exact pd_var 1); (exact pd_var 2)); (refine pd_fld (f := "many") (T.nf_many) ?_; (exact pd_var 0)))); (exact pdb_nil)
theorem ok_Rounds_plus (T : Txt K mg t) {k : Nat}  {F : List D → M D} (hL : ∀ ds r, F ds = some r → ds.length = 3) (hq : ∀ ds r, F ds = some r → ∃ d, r = .ok d ∧ fnRes (den_Rounds_plus t (rho0 N_Rounds_plus ds)) = ok d) : Mth P w K mg base (k + 1) t.C_Rounds "plus" F := by
  obtain ⟨fd, Fu, bi⟩ := T.F_Rounds_plus
  exact ⟨_, _, _, T.cl_Rounds, T.me_Rounds_plus, bi, hL, fn_D Fu sc_Rounds_plus hL fun cdv A outer s H E hr => ⟨_, fun B => tm_Rounds_plus T hr B, hq⟩⟩
noncomputable def N_Rounds_times : List Str := ["self", "a", "b"]
theorem sc_Rounds_times : FnScope N_Rounds_times ["self", "a", "b"] (defScope s_Rounds_times) := ⟨rfl, rfl, rfl, by decide +kernel, rfl, by decide +kernel, by decide +kernel⟩
noncomputable def den_Rounds_times (t : Adr) : Rho → Option Out :=
    (sSeq (sRet (b2 gMod (b2 gTimes (look 1) (look 2)) (fld (cs t) "many" (look 0))))
    sNil)
theorem tm_Rounds_times (T : Txt K mg t) {k : Nat}  {cdv : Value} {A : Around} {outer : List Env} {s : Shared} {H : Hp} {E : XK} (hr : Room k (A.deeper (envOfC "Rounds.times" (defScope s_Rounds_times) s.heap.objs.size t.f_Rounds_times cdv))) (B : Hp) :
    PDB (cxN P w K mg base N_Rounds_times "Rounds.times" (defScope s_Rounds_times) t.f_Rounds_times cdv A outer s H E) B (defBody s_Rounds_times) (den_Rounds_times t) :=
  by
  refine pdb_cons ?_ ?_; (refine pds_ret ?_; (refine pd_mod ?_ ?_; (refine pd_times ?_ ?_; (exact pd_var 1); (exact pd_var 2)); (refine pd_fld (f := "many") (T.nf_many) ?_; (exact pd_var 0)))); (exact pdb_nil)
theorem ok_Rounds_times (T : Txt K mg t) {k : Nat}  {F : List D → M D} (hL : ∀ ds r, F ds = some r → ds.length = 3) (hq : ∀ ds r, F ds = some r → ∃ d, r = .ok d ∧ fnRes (den_Rounds_times t (rho0 N_Rounds_times ds)) = ok d) : Mth P w K mg base (k + 1) t.C_Rounds "times" F := by
  obtain ⟨fd, Fu, bi⟩ := T.F_Rounds_times
  exact ⟨_, _, _, T.cl_Rounds, T.me_Rounds_times, bi, hL, fn_D Fu sc_Rounds_times hL fun cdv A outer s H E hr => ⟨_, fun B => tm_Rounds_times T hr B, hq⟩⟩
noncomputable def N_Costs___init__ : List Str := ["self"]
theorem sc_Costs___init__ : FnScope N_Costs___init__ ["self"] (defScope s_Costs___init__) := ⟨rfl, rfl, rfl, by decide +kernel, rfl, by decide +kernel, by decide +kernel⟩
noncomputable def den_Costs___init__ (t : Adr) : Rho → Option Out :=
    (sSeq (sFldI (cs t) 0 "nought" (con .non))
    (sSeq (sFldI (cs t) 0 "one" (con (.int 0)))
    sNil))
theorem tm_Costs___init__ (T : Txt K mg t) {k : Nat}  {cdv : Value} {A : Around} {outer : List Env} {s : Shared} {H : Hp} {E : XK} (hr : Room k (A.deeper (envOfC "Costs.__init__" (defScope s_Costs___init__) s.heap.objs.size t.f_Costs___init__ cdv))) (B : Hp) :
    PDB (cxN P w K mg base N_Costs___init__ "Costs.__init__" (defScope s_Costs___init__) t.f_Costs___init__ cdv A outer s H E) B (defBody s_Costs___init__) (den_Costs___init__ t) :=
  by
  refine pdb_cons ?_ ?_; (refine pds_fldI (f := "nought") (i := 0) (T.nf_nought) rfl (Or.inl rfl) ?_; (exact pd_non)); (refine pdb_cons ?_ ?_; (refine pds_fldI (f := "one") (i := 0) (T.nf_one) rfl (Or.inl rfl) ?_; (exact pd_int)); (exact pdb_nil))
theorem ok_Costs___init__ (T : Txt K mg t) {k : Nat}  {F : List D → M (List (Str × D))} (hL : ∀ ds r, F ds = some r → ds.length + 1 = 1) (hq : ∀ ds r a dx, F ds = some r → ∃ fs, r = .ok fs ∧ iniRes a t.C_Costs dx (den_Costs___init__ t (rhoI N_Costs___init__ a t.C_Costs dx ds)) = ok fs) : Ctor P w K mg base (k + 1) "Costs" t.C_Costs F := by
  obtain ⟨fd, Fu, bi⟩ := T.F_Costs___init__
  exact ⟨_, _, _, T.g_Costs, T.mk_Costs, bi, hL, init_D Fu sc_Costs___init__ hL fun cdv A outer s H E hr => ⟨_, fun B => tm_Costs___init__ T hr B, hq⟩⟩
noncomputable def N_Costs_plus : List Str := ["self", "a", "b"]
theorem sc_Costs_plus : FnScope N_Costs_plus ["self", "a", "b"] (defScope s_Costs_plus) := ⟨rfl, rfl, rfl, by decide +kernel, rfl, by decide +kernel, by decide +kernel⟩
noncomputable def den_Costs_plus (t : Adr) : Rho → Option Out :=
    (sSeq (sIf (testB (b2 gIs (look 1) (con .non))) (sSeq (sRet (look 2))
    sNil) sNil)
    (sSeq (sIf (testB (b2 gIs (look 2) (con .non))) (sSeq (sRet (look 1))
    sNil) sNil)
    (sSeq (sRet (b2 gMin (look 1) (look 2)))
    sNil)))
theorem tm_Costs_plus (T : Txt K mg t) {k : Nat}  {cdv : Value} {A : Around} {outer : List Env} {s : Shared} {H : Hp} {E : XK} (hr : Room k (A.deeper (envOfC "Costs.plus" (defScope s_Costs_plus) s.heap.objs.size t.f_Costs_plus cdv))) (B : Hp) :
    PDB (cxN P w K mg base N_Costs_plus "Costs.plus" (defScope s_Costs_plus) t.f_Costs_plus cdv A outer s H E) B (defBody s_Costs_plus) (den_Costs_plus t) :=
  by
  refine pdb_cons ?_ ?_; (refine pds_if ?_ ?_ ?_; (refine pdt_is ?_ ?_; (exact pd_var 1); (exact pd_non)); (refine pdb_cons ?_ ?_; (refine pds_ret ?_; (exact pd_var 2)); (exact pdb_nil)); (exact pdb_nil)); (refine pdb_cons ?_ ?_; (refine pds_if ?_ ?_ ?_; (refine pdt_is ?_ ?_; (exact pd_var 2); (exact pd_non)); (refine pdb_cons ?_ ?_; (refine pds_ret ?_; (exact pd_var 1)); (exact pdb_nil)); (exact pdb_nil)); (refine pdb_cons ?_ ?_; (refine pds_ret ?_; (refine pd_min2 rfl rfl T.b_min ?_ ?_; (exact pd_var 1); (exact pd_var 2))); (exact pdb_nil)))
theorem ok_Costs_plus (T : Txt K mg t) {k : Nat}  {F : List D → M D} (hL : ∀ ds r, F ds = some r → ds.length = 3) (hq : ∀ ds r, F ds = some r → ∃ d, r = .ok d ∧ fnRes (den_Costs_plus t (rho0 N_Costs_plus ds)) = ok d) : Mth P w K mg base (k + 1) t.C_Costs "plus" F := by
  obtain ⟨fd, Fu, bi⟩ := T.F_Costs_plus
  exact ⟨_, _, _, T.cl_Costs, T.me_Costs_plus, bi, hL, fn_D Fu sc_Costs_plus hL fun cdv A outer s H E hr => ⟨_, fun B => tm_Costs_plus T hr B, hq⟩⟩
noncomputable def N_Costs_times : List Str := ["self", "a", "b"]
theorem sc_Costs_times : FnScope N_Costs_times ["self", "a", "b"] (defScope s_Costs_times) := ⟨rfl, rfl, rfl, by decide +kernel, rfl, by decide +kernel, by decide +kernel⟩
noncomputable def den_Costs_times (t : Adr) : Rho → Option Out :=
    (sSeq (sIf (orB (testB (b2 gIs (look 1) (con .non))) (testB (b2 gIs (look 2) (con .non)))) (sSeq (sRet (con .non))
    sNil) sNil)
    (sSeq (sRet (b2 gPlus (look 1) (look 2)))
    sNil))
theorem tm_Costs_times (T : Txt K mg t) {k : Nat}  {cdv : Value} {A : Around} {outer : List Env} {s : Shared} {H : Hp} {E : XK} (hr : Room k (A.deeper (envOfC "Costs.times" (defScope s_Costs_times) s.heap.objs.size t.f_Costs_times cdv))) (B : Hp) :
    PDB (cxN P w K mg base N_Costs_times "Costs.times" (defScope s_Costs_times) t.f_Costs_times cdv A outer s H E) B (defBody s_Costs_times) (den_Costs_times t) :=
  by
  refine pdb_cons ?_ ?_; (refine pds_if ?_ ?_ ?_; (refine PDW.pdt ?_; (refine pdw_or ?_ ?_; (refine pdt_is ?_ ?_; (exact pd_var 1); (exact pd_non)); (refine pdw_or1 ?_; (refine pdt_is ?_ ?_; (exact pd_var 2); (exact pd_non))))); (refine pdb_cons ?_ ?_; (refine pds_ret ?_; (exact pd_non)); (exact pdb_nil)); (exact pdb_nil)); (refine pdb_cons ?_ ?_; (refine pds_ret ?_; (refine pd_plus ?_ ?_; (exact pd_var 1); (exact pd_var 2))); (exact pdb_nil))
theorem ok_Costs_times (T : Txt K mg t) {k : Nat}  {F : List D → M D} (hL : ∀ ds r, F ds = some r → ds.length = 3) (hq : ∀ ds r, F ds = some r → ∃ d, r = .ok d ∧ fnRes (den_Costs_times t (rho0 N_Costs_times ds)) = ok d) : Mth P w K mg base (k + 1) t.C_Costs "times" F := by
  obtain ⟨fd, Fu, bi⟩ := T.F_Costs_times
  exact ⟨_, _, _, T.cl_Costs, T.me_Costs_times, bi, hL, fn_D Fu sc_Costs_times hL fun cdv A outer s H E hr => ⟨_, fun B => tm_Costs_times T hr B, hq⟩⟩
noncomputable def N_Seers___init__ : List Str := ["self", "people"]
theorem sc_Seers___init__ : FnScope N_Seers___init__ ["self", "people"] (defScope s_Seers___init__) := ⟨rfl, rfl, rfl, by decide +kernel, rfl, by decide +kernel, by decide +kernel⟩
noncomputable def den_Seers___init__ (t : Adr) : Rho → Option Out :=
    (sSeq (sFldI (cs t) 0 "nought" (mkT aNil))
    (sSeq (sFldI (cs t) 0 "one" (f1 toT (f1 srtD (f1 toS (look 1)))))
    sNil))
theorem tm_Seers___init__ (T : Txt K mg t) {k : Nat}  {cdv : Value} {A : Around} {outer : List Env} {s : Shared} {H : Hp} {E : XK} (hr : Room k (A.deeper (envOfC "Seers.__init__" (defScope s_Seers___init__) s.heap.objs.size t.f_Seers___init__ cdv))) (B : Hp) :
    PDB (cxN P w K mg base N_Seers___init__ "Seers.__init__" (defScope s_Seers___init__) t.f_Seers___init__ cdv A outer s H E) B (defBody s_Seers___init__) (den_Seers___init__ t) :=
  by
  refine pdb_cons ?_ ?_; (refine pds_fldI (f := "nought") (i := 0) (T.nf_nought) rfl (Or.inl rfl) ?_; (refine pd_tup ?_; (exact pda_nil))); (refine pdb_cons ?_ ?_; (refine pds_fldI (f := "one") (i := 0) (T.nf_one) rfl (Or.inl rfl) ?_; (refine pd_tuple rfl T.b_tuple ?_; (refine pd_sorted rfl rfl T.b_sorted ?_; (refine pd_set rfl rfl T.b_set ?_; (exact pd_var 1))))); (exact pdb_nil))
theorem ok_Seers___init__ (T : Txt K mg t) {k : Nat}  {F : List D → M (List (Str × D))} (hL : ∀ ds r, F ds = some r → ds.length + 1 = 2) (hq : ∀ ds r a dx, F ds = some r → ∃ fs, r = .ok fs ∧ iniRes a t.C_Seers dx (den_Seers___init__ t (rhoI N_Seers___init__ a t.C_Seers dx ds)) = ok fs) : Ctor P w K mg base (k + 1) "Seers" t.C_Seers F := by
  obtain ⟨fd, Fu, bi⟩ := T.F_Seers___init__
  exact ⟨_, _, _, T.g_Seers, T.mk_Seers, bi, hL, init_D Fu sc_Seers___init__ hL fun cdv A outer s H E hr => ⟨_, fun B => tm_Seers___init__ T hr B, hq⟩⟩
noncomputable def N_Seers_plus : List Str := ["self", "a", "b"]
theorem sc_Seers_plus : FnScope N_Seers_plus ["self", "a", "b"] (defScope s_Seers_plus) := ⟨rfl, rfl, rfl, by decide +kernel, rfl, by decide +kernel, by decide +kernel⟩
noncomputable def den_Seers_plus (t : Adr) : Rho → Option Out :=
    (sSeq (sRet (f1 toT (f1 srtD (b2 gSOr (f1 toS (look 1)) (f1 toS (look 2))))))
    sNil)
theorem tm_Seers_plus (T : Txt K mg t) {k : Nat}  {cdv : Value} {A : Around} {outer : List Env} {s : Shared} {H : Hp} {E : XK} (hr : Room k (A.deeper (envOfC "Seers.plus" (defScope s_Seers_plus) s.heap.objs.size t.f_Seers_plus cdv))) (B : Hp) :
    PDB (cxN P w K mg base N_Seers_plus "Seers.plus" (defScope s_Seers_plus) t.f_Seers_plus cdv A outer s H E) B (defBody s_Seers_plus) (den_Seers_plus t) :=
  by
  refine pdb_cons ?_ ?_; (refine pds_ret ?_; (refine pd_tuple rfl T.b_tuple ?_; (refine pd_sorted rfl rfl T.b_sorted ?_; (refine pd_sor ?_ ?_; (refine pd_set rfl rfl T.b_set ?_; (exact pd_var 1)); (refine pd_set rfl rfl T.b_set ?_; (exact pd_var 2)))))); (exact pdb_nil)
theorem ok_Seers_plus (T : Txt K mg t) {k : Nat}  {F : List D → M D} (hL : ∀ ds r, F ds = some r → ds.length = 3) (hq : ∀ ds r, F ds = some r → ∃ d, r = .ok d ∧ fnRes (den_Seers_plus t (rho0 N_Seers_plus ds)) = ok d) : Mth P w K mg base (k + 1) t.C_Seers "plus" F := by
  obtain ⟨fd, Fu, bi⟩ := T.F_Seers_plus
  exact ⟨_, _, _, T.cl_Seers, T.me_Seers_plus, bi, hL, fn_D Fu sc_Seers_plus hL fun cdv A outer s H E hr => ⟨_, fun B => tm_Seers_plus T hr B, hq⟩⟩
noncomputable def N_Seers_times : List Str := ["self", "a", "b"]
theorem sc_Seers_times : FnScope N_Seers_times ["self", "a", "b"] (defScope s_Seers_times) := ⟨rfl, rfl, rfl, by decide +kernel, rfl, by decide +kernel, by decide +kernel⟩
noncomputable def den_Seers_times (t : Adr) : Rho → Option Out :=
    (sSeq (sRet (f1 toT (f1 srtD (b2 gSAnd (f1 toS (look 1)) (f1 toS (look 2))))))
    sNil)
theorem tm_Seers_times (T : Txt K mg t) {k : Nat}  {cdv : Value} {A : Around} {outer : List Env} {s : Shared} {H : Hp} {E : XK} (hr : Room k (A.deeper (envOfC "Seers.times" (defScope s_Seers_times) s.heap.objs.size t.f_Seers_times cdv))) (B : Hp) :
    PDB (cxN P w K mg base N_Seers_times "Seers.times" (defScope s_Seers_times) t.f_Seers_times cdv A outer s H E) B (defBody s_Seers_times) (den_Seers_times t) :=
  by
  refine pdb_cons ?_ ?_; (refine pds_ret ?_; (refine pd_tuple rfl T.b_tuple ?_; (refine pd_sorted rfl rfl T.b_sorted ?_; (refine pd_sand ?_ ?_; (refine pd_set rfl rfl T.b_set ?_; (exact pd_var 1)); (refine pd_set rfl rfl T.b_set ?_; (exact pd_var 2)))))); (exact pdb_nil)
theorem ok_Seers_times (T : Txt K mg t) {k : Nat}  {F : List D → M D} (hL : ∀ ds r, F ds = some r → ds.length = 3) (hq : ∀ ds r, F ds = some r → ∃ d, r = .ok d ∧ fnRes (den_Seers_times t (rho0 N_Seers_times ds)) = ok d) : Mth P w K mg base (k + 1) t.C_Seers "times" F := by
  obtain ⟨fd, Fu, bi⟩ := T.F_Seers_times
  exact ⟨_, _, _, T.cl_Seers, T.me_Seers_times, bi, hL, fn_D Fu sc_Seers_times hL fun cdv A outer s H E hr => ⟨_, fun B => tm_Seers_times T hr B, hq⟩⟩
noncomputable def N_Pairs___init__ : List Str := ["self", "left", "right"]
theorem sc_Pairs___init__ : FnScope N_Pairs___init__ ["self", "left", "right"] (defScope s_Pairs___init__) := ⟨rfl, rfl, rfl, by decide +kernel, rfl, by decide +kernel, by decide +kernel⟩
noncomputable def den_Pairs___init__ (t : Adr) : Rho → Option Out :=
    (sSeq (sFldN (cs t) 0 "left" 1)
    (sSeq (sFldN (cs t) 0 "right" 2)
    (sSeq (sFldI (cs t) 0 "nought" (mkT (aCons (fld (cs t) "nought" (look 1)) (aCons (fld (cs t) "nought" (look 2)) aNil))))
    (sSeq (sFldI (cs t) 0 "one" (mkT (aCons (fld (cs t) "one" (look 1)) (aCons (fld (cs t) "one" (look 2)) aNil))))
    sNil))))
theorem tm_Pairs___init__ (T : Txt K mg t) {k : Nat}  {cdv : Value} {A : Around} {outer : List Env} {s : Shared} {H : Hp} {E : XK} (hr : Room k (A.deeper (envOfC "Pairs.__init__" (defScope s_Pairs___init__) s.heap.objs.size t.f_Pairs___init__ cdv))) (B : Hp) :
    PDB (cxN P w K mg base N_Pairs___init__ "Pairs.__init__" (defScope s_Pairs___init__) t.f_Pairs___init__ cdv A outer s H E) B (defBody s_Pairs___init__) (den_Pairs___init__ t) :=
  by
  refine pdb_cons ?_ ?_; (exact pds_fldN (f := "left") (i := 0) (j := 1) (T.nf_left) rfl (Or.inl rfl) rfl (Or.inl rfl)); (refine pdb_cons ?_ ?_; (exact pds_fldN (f := "right") (i := 0) (j := 2) (T.nf_right) rfl (Or.inl rfl) rfl (Or.inl rfl)); (refine pdb_cons ?_ ?_; (refine pds_fldI (f := "nought") (i := 0) (T.nf_nought) rfl (Or.inl rfl) ?_; (refine pd_tup ?_; (refine pda_cons ?_ ?_; (refine pd_fld (f := "nought") (T.nf_nought) ?_; (exact pd_var 1)); (refine pda_cons ?_ ?_; (refine pd_fld (f := "nought") (T.nf_nought) ?_; (exact pd_var 2)); (exact pda_nil))))); (refine pdb_cons ?_ ?_; (refine pds_fldI (f := "one") (i := 0) (T.nf_one) rfl (Or.inl rfl) ?_; (refine pd_tup ?_; (refine pda_cons ?_ ?_; (refine pd_fld (f := "one") (T.nf_one) ?_; (exact pd_var 1)); (refine pda_cons ?_ ?_; (refine pd_fld (f := "one") (T.nf_one) ?_; (exact pd_var 2)); (exact pda_nil))))); (exact pdb_nil))))
theorem ok_Pairs___init__ (T : Txt K mg t) {k : Nat}  {F : List D → M (List (Str × D))} (hL : ∀ ds r, F ds = some r → ds.length + 1 = 3) (hq : ∀ ds r a dx, F ds = some r → ∃ fs, r = .ok fs ∧ iniRes a t.C_Pairs dx (den_Pairs___init__ t (rhoI N_Pairs___init__ a t.C_Pairs dx ds)) = ok fs) : Ctor P w K mg base (k + 1) "Pairs" t.C_Pairs F := by
  obtain ⟨fd, Fu, bi⟩ := T.F_Pairs___init__
  exact ⟨_, _, _, T.g_Pairs, T.mk_Pairs, bi, hL, init_D Fu sc_Pairs___init__ hL fun cdv A outer s H E hr => ⟨_, fun B => tm_Pairs___init__ T hr B, hq⟩⟩
noncomputable def N_Pairs_plus : List Str := ["self", "a", "b"]
theorem sc_Pairs_plus : FnScope N_Pairs_plus ["self", "a", "b"] (defScope s_Pairs_plus) := ⟨rfl, rfl, rfl, by decide +kernel, rfl, by decide +kernel, by decide +kernel⟩
noncomputable def den_Pairs_plus (t : Adr) (M_plus : Addr → Option (List D → M D)) : Rho → Option Out :=
    (sSeq (sRet (mkT (aCons (appM "plus" M_plus (fld (cs t) "left" (look 0)) (aCons (b2 gIx (look 1) (con (.int 0))) (aCons (b2 gIx (look 2) (con (.int 0))) aNil))) (aCons (appM "plus" M_plus (fld (cs t) "right" (look 0)) (aCons (b2 gIx (look 1) (con (.int 1))) (aCons (b2 gIx (look 2) (con (.int 1))) aNil))) aNil))))
    sNil)
theorem tm_Pairs_plus (T : Txt K mg t) {k : Nat} {M_plus : Addr → Option (List D → M D)} (GM_plus : ∀ C F, M_plus C = some F → Mth P w K mg base k C "plus" F) {cdv : Value} {A : Around} {outer : List Env} {s : Shared} {H : Hp} {E : XK} (hr : Room k (A.deeper (envOfC "Pairs.plus" (defScope s_Pairs_plus) s.heap.objs.size t.f_Pairs_plus cdv))) (B : Hp) :
    PDB (cxN P w K mg base N_Pairs_plus "Pairs.plus" (defScope s_Pairs_plus) t.f_Pairs_plus cdv A outer s H E) B (defBody s_Pairs_plus) (den_Pairs_plus t M_plus) :=
  by
  refine pdb_cons ?_ ?_; (refine pds_ret ?_; (refine pd_tup ?_; (refine pda_cons ?_ ?_; (refine pd_meth GM_plus hr ?_ ?_; (refine pd_fld (f := "left") (T.nf_left) ?_; (exact pd_var 0)); (refine pda_cons ?_ ?_; (refine pd_ix ?_ ?_ (fun _ _ => rfl); (exact pd_var 1); (exact pd_int)); (refine pda_cons ?_ ?_; (refine pd_ix ?_ ?_ (fun _ _ => rfl); (exact pd_var 2); (exact pd_int)); (exact pda_nil)))); (refine pda_cons ?_ ?_; (refine pd_meth GM_plus hr ?_ ?_; (refine pd_fld (f := "right") (T.nf_right) ?_; (exact pd_var 0)); (refine pda_cons ?_ ?_; (refine pd_ix ?_ ?_ (fun _ _ => rfl); (exact pd_var 1); (exact pd_int)); (refine pda_cons ?_ ?_; (refine pd_ix ?_ ?_ (fun _ _ => rfl); (exact pd_var 2); (exact pd_int)); (exact pda_nil)))); (exact pda_nil))))); (exact pdb_nil)
theorem ok_Pairs_plus (T : Txt K mg t) {k : Nat} {M_plus : Addr → Option (List D → M D)} (GM_plus : ∀ C F, M_plus C = some F → Mth P w K mg base k C "plus" F) {F : List D → M D} (hL : ∀ ds r, F ds = some r → ds.length = 3) (hq : ∀ ds r, F ds = some r → ∃ d, r = .ok d ∧ fnRes (den_Pairs_plus t M_plus (rho0 N_Pairs_plus ds)) = ok d) : Mth P w K mg base (k + 1) t.C_Pairs "plus" F := by
  obtain ⟨fd, Fu, bi⟩ := T.F_Pairs_plus
  exact ⟨_, _, _, T.cl_Pairs, T.me_Pairs_plus, bi, hL, fn_D Fu sc_Pairs_plus hL fun cdv A outer s H E hr => ⟨_, fun B => tm_Pairs_plus T GM_plus hr B, hq⟩⟩
noncomputable def N_Pairs_times : List Str := ["self", "a", "b"]
theorem sc_Pairs_times : FnScope N_Pairs_times ["self", "a", "b"] (defScope s_Pairs_times) := ⟨rfl, rfl, rfl, by decide +kernel, rfl, by decide +kernel, by decide +kernel⟩
noncomputable def den_Pairs_times (t : Adr) (M_times : Addr → Option (List D → M D)) : Rho → Option Out :=
    (sSeq (sRet (mkT (aCons (appM "times" M_times (fld (cs t) "left" (look 0)) (aCons (b2 gIx (look 1) (con (.int 0))) (aCons (b2 gIx (look 2) (con (.int 0))) aNil))) (aCons (appM "times" M_times (fld (cs t) "right" (look 0)) (aCons (b2 gIx (look 1) (con (.int 1))) (aCons (b2 gIx (look 2) (con (.int 1))) aNil))) aNil))))
    sNil)
theorem tm_Pairs_times (T : Txt K mg t) {k : Nat} {M_times : Addr → Option (List D → M D)} (GM_times : ∀ C F, M_times C = some F → Mth P w K mg base k C "times" F) {cdv : Value} {A : Around} {outer : List Env} {s : Shared} {H : Hp} {E : XK} (hr : Room k (A.deeper (envOfC "Pairs.times" (defScope s_Pairs_times) s.heap.objs.size t.f_Pairs_times cdv))) (B : Hp) :
    PDB (cxN P w K mg base N_Pairs_times "Pairs.times" (defScope s_Pairs_times) t.f_Pairs_times cdv A outer s H E) B (defBody s_Pairs_times) (den_Pairs_times t M_times) :=
  by
  refine pdb_cons ?_ ?_; (refine pds_ret ?_; (refine pd_tup ?_; (refine pda_cons ?_ ?_; (refine pd_meth GM_times hr ?_ ?_; (refine pd_fld (f := "left") (T.nf_left) ?_; (exact pd_var 0)); (refine pda_cons ?_ ?_; (refine pd_ix ?_ ?_ (fun _ _ => rfl); (exact pd_var 1); (exact pd_int)); (refine pda_cons ?_ ?_; (refine pd_ix ?_ ?_ (fun _ _ => rfl); (exact pd_var 2); (exact pd_int)); (exact pda_nil)))); (refine pda_cons ?_ ?_; (refine pd_meth GM_times hr ?_ ?_; (refine pd_fld (f := "right") (T.nf_right) ?_; (exact pd_var 0)); (refine pda_cons ?_ ?_; (refine pd_ix ?_ ?_ (fun _ _ => rfl); (exact pd_var 1); (exact pd_int)); (refine pda_cons ?_ ?_; (refine pd_ix ?_ ?_ (fun _ _ => rfl); (exact pd_var 2); (exact pd_int)); (exact pda_nil)))); (exact pda_nil))))); (exact pdb_nil)
theorem ok_Pairs_times (T : Txt K mg t) {k : Nat} {M_times : Addr → Option (List D → M D)} (GM_times : ∀ C F, M_times C = some F → Mth P w K mg base k C "times" F) {F : List D → M D} (hL : ∀ ds r, F ds = some r → ds.length = 3) (hq : ∀ ds r, F ds = some r → ∃ d, r = .ok d ∧ fnRes (den_Pairs_times t M_times (rho0 N_Pairs_times ds)) = ok d) : Mth P w K mg base (k + 1) t.C_Pairs "times" F := by
  obtain ⟨fd, Fu, bi⟩ := T.F_Pairs_times
  exact ⟨_, _, _, T.cl_Pairs, T.me_Pairs_times, bi, hL, fn_D Fu sc_Pairs_times hL fun cdv A outer s H E hr => ⟨_, fun B => tm_Pairs_times T GM_times hr B, hq⟩⟩
noncomputable def N_law_at : List Str := ["_law_script", "_law_k"]
theorem sc_law_at : FnScope N_law_at ["_law_script", "_law_k"] (defScope s_law_at) := ⟨rfl, rfl, rfl, by decide +kernel, rfl, by decide +kernel, by decide +kernel⟩
noncomputable def den_law_at (t : Adr) : Rho → Option Out :=
    (sSeq (sIf (testB (b2 gLt (look 1) (f1 lenD (look 0)))) (sSeq (sRet (b2 gIx (look 0) (look 1)))
    sNil) sNil)
    (sSeq (sRet (con (.int 0)))
    sNil))
theorem tm_law_at (T : Txt K mg t) {k : Nat}  {cdv : Value} {A : Around} {outer : List Env} {s : Shared} {H : Hp} {E : XK} (hr : Room k (A.deeper (envOfC "_law_at" (defScope s_law_at) s.heap.objs.size t.f_law_at cdv))) (B : Hp) :
    PDB (cxN P w K mg base N_law_at "_law_at" (defScope s_law_at) t.f_law_at cdv A outer s H E) B (defBody s_law_at) (den_law_at t) :=
  by
  refine pdb_cons ?_ ?_; (refine pds_if ?_ ?_ ?_; (refine pdt_lt ?_ ?_; (exact pd_var 1); (refine pd_len rfl T.b_len ?_; (exact pd_var 0))); (refine pdb_cons ?_ ?_; (refine pds_ret ?_; (refine pd_ix ?_ ?_ (fun _ _ => rfl); (exact pd_var 0); (exact pd_var 1))); (exact pdb_nil)); (exact pdb_nil)); (refine pdb_cons ?_ ?_; (refine pds_ret ?_; (exact pd_int)); (exact pdb_nil))
theorem ok_law_at (T : Txt K mg t) {k : Nat}  {F : List D → M D} (hL : ∀ ds r, F ds = some r → ds.length = 2) (hq : ∀ ds r, F ds = some r → ∃ d, r = .ok d ∧ fnRes (den_law_at t (rho0 N_law_at ds)) = ok d) : Def P w K mg base (k + 1) "_law_at" F := by
  obtain ⟨fd, Fu, bi⟩ := T.F_law_at
  exact ⟨_, _, _, T.g_law_at, Fu.kp, bi, hL, fn_D Fu sc_law_at hL fun cdv A outer s H E hr => ⟨_, fun B => tm_law_at T hr B, hq⟩⟩
noncomputable def N_law_same : List Str := ["_law_found", "_law_due", "_law_k"]
theorem sc_law_same : FnScope N_law_same ["_law_found", "_law_due"] (defScope s_law_same) := ⟨rfl, rfl, rfl, by decide +kernel, rfl, by decide +kernel, by decide +kernel⟩
noncomputable def den_law_same (t : Adr) (F_law_same : List D → M D) : Rho → Option Out :=
    (sSeq (sIf (orB (testB (b2 gNe (isi "tuple" (look 1)) (isi "tuple" (look 0)))) (testB (b2 gNe (isi "list" (look 1)) (isi "list" (look 0))))) (sSeq (sRet (con (.bl false)))
    sNil) sNil)
    (sSeq (sIf (test (isi2 ["tuple", "list"] (look 1))) (sSeq (sIf (testB (b2 gNe (f1 lenD (look 0)) (f1 lenD (look 1)))) (sSeq (sRet (con (.bl false)))
    sNil) sNil)
    (sSeq (sForR1 (f1 lenD (look 1)) (gN 2) (sSeq (sIf (notB (test (app F_law_same (aCons (b2 gIx (look 0) (look 2)) (aCons (b2 gIx (look 1) (look 2)) aNil))))) (sSeq (sRet (con (.bl false)))
    sNil) sNil)
    sNil))
    (sSeq (sRet (con (.bl true)))
    sNil))) sNil)
    (sSeq (sIf (testB (b2 gIs (look 1) (con .non))) (sSeq (sRet (b2 gIs (look 0) (con .non)))
    sNil) sNil)
    (sSeq (sIf (orB (testB (b2 gNe (isi "bool" (look 1)) (isi "bool" (look 0)))) (testB (b2 gNe (isi "str" (look 1)) (isi "str" (look 0))))) (sSeq (sRet (con (.bl false)))
    sNil) sNil)
    (sSeq (sRet (andV (b2 gEq (isi "int" (look 1)) (isi "int" (look 0))) (b2 gEq (look 0) (look 1))))
    sNil)))))
theorem tm_law_same (T : Txt K mg t) {k : Nat} {F_law_same : List D → M D} (G_law_same : Def P w K mg base k "_law_same" F_law_same) {cdv : Value} {A : Around} {outer : List Env} {s : Shared} {H : Hp} {E : XK} (hr : Room k (A.deeper (envOfC "_law_same" (defScope s_law_same) s.heap.objs.size t.f_law_same cdv))) (B : Hp) :
    PDB (cxN P w K mg base N_law_same "_law_same" (defScope s_law_same) t.f_law_same cdv A outer s H E) B (defBody s_law_same) (den_law_same t F_law_same) :=
  by
  refine pdb_cons ?_ ?_; (refine pds_if ?_ ?_ ?_; (refine PDW.pdt ?_; (refine pdw_or ?_ ?_; (refine pdt_ne ?_ ?_; (refine pd_isi (T := "tuple") rfl T.b_isinstance rfl T.b_tuple (by decide +kernel) (by decide) ?_; (exact pd_var 1)); (refine pd_isi (T := "tuple") rfl T.b_isinstance rfl T.b_tuple (by decide +kernel) (by decide) ?_; (exact pd_var 0))); (refine pdw_or1 ?_; (refine pdt_ne ?_ ?_; (refine pd_isi (T := "list") rfl T.b_isinstance rfl T.b_list (by decide +kernel) (by decide) ?_; (exact pd_var 1)); (refine pd_isi (T := "list") rfl T.b_isinstance rfl T.b_list (by decide +kernel) (by decide) ?_; (exact pd_var 0)))))); (refine pdb_cons ?_ ?_; (refine pds_ret ?_; (exact pd_bl)); (exact pdb_nil)); (exact pdb_nil)); (refine pdb_cons ?_ ?_; (refine pds_if ?_ ?_ ?_; (refine pdt_val ?_; (refine pd_isi2 (T := "tuple") (U := "list") rfl T.b_isinstance rfl T.b_tuple (by decide +kernel) (by decide) rfl T.b_list (by decide +kernel) (by decide) ?_; (exact pd_var 1))); (refine pdb_cons ?_ ?_; (refine pds_if ?_ ?_ ?_; (refine pdt_ne ?_ ?_; (refine pd_len rfl T.b_len ?_; (exact pd_var 0)); (refine pd_len rfl T.b_len ?_; (exact pd_var 1))); (refine pdb_cons ?_ ?_; (refine pds_ret ?_; (exact pd_bl)); (exact pdb_nil)); (exact pdb_nil)); (refine pdb_cons ?_ ?_; (refine pds_forR1 rfl T.b_range PassesOwn.never rfl ?_ (fun B => ?_) (fun B => ?_); (refine pd_len rfl T.b_len ?_; (exact pd_var 1)); (exact pdg_name (i := 2) (sc_law_same).nd rfl (Or.inl rfl)); (refine pdb_cons ?_ ?_; (refine pds_if ?_ ?_ ?_; (refine pdt_not ?_; (refine pdt_val ?_; (refine pd_call G_law_same hr rfl ?_; (refine pda_cons ?_ ?_; (refine pd_ix ?_ ?_ (fun _ _ => rfl); (exact pd_var 0); (exact pd_var 2)); (refine pda_cons ?_ ?_; (refine pd_ix ?_ ?_ (fun _ _ => rfl); (exact pd_var 1); (exact pd_var 2)); (exact pda_nil)))))); (refine pdb_cons ?_ ?_; (refine pds_ret ?_; (exact pd_bl)); (exact pdb_nil)); (exact pdb_nil)); (exact pdb_nil))); (refine pdb_cons ?_ ?_; (refine pds_ret ?_; (exact pd_bl)); (exact pdb_nil)))); (exact pdb_nil)); (refine pdb_cons ?_ ?_; (refine pds_if ?_ ?_ ?_; (refine pdt_is ?_ ?_; (exact pd_var 1); (exact pd_non)); (refine pdb_cons ?_ ?_; (refine pds_ret ?_; (refine pd_is ?_ ?_; (exact pd_var 0); (exact pd_non))); (exact pdb_nil)); (exact pdb_nil)); (refine pdb_cons ?_ ?_; (refine pds_if ?_ ?_ ?_; (refine PDW.pdt ?_; (refine pdw_or ?_ ?_; (refine pdt_ne ?_ ?_; (refine pd_isi (T := "bool") rfl T.b_isinstance rfl T.b_bool (by decide +kernel) (by decide) ?_; (exact pd_var 1)); (refine pd_isi (T := "bool") rfl T.b_isinstance rfl T.b_bool (by decide +kernel) (by decide) ?_; (exact pd_var 0))); (refine pdw_or1 ?_; (refine pdt_ne ?_ ?_; (refine pd_isi (T := "str") rfl T.b_isinstance rfl T.b_str (by decide +kernel) (by decide) ?_; (exact pd_var 1)); (refine pd_isi (T := "str") rfl T.b_isinstance rfl T.b_str (by decide +kernel) (by decide) ?_; (exact pd_var 0)))))); (refine pdb_cons ?_ ?_; (refine pds_ret ?_; (exact pd_bl)); (exact pdb_nil)); (exact pdb_nil)); (refine pdb_cons ?_ ?_; (refine pds_ret ?_; (refine pd_and ?_ ?_; (refine pd_eq ?_ ?_; (refine pd_isi (T := "int") rfl T.b_isinstance rfl T.b_int (by decide +kernel) (by decide) ?_; (exact pd_var 1)); (refine pd_isi (T := "int") rfl T.b_isinstance rfl T.b_int (by decide +kernel) (by decide) ?_; (exact pd_var 0))); (refine pd_one ?_; (refine pd_eq ?_ ?_; (exact pd_var 0); (exact pd_var 1))))); (exact pdb_nil)))))
theorem ok_law_same (T : Txt K mg t) {k : Nat} {F_law_same : List D → M D} (G_law_same : Def P w K mg base k "_law_same" F_law_same) {F : List D → M D} (hL : ∀ ds r, F ds = some r → ds.length = 2) (hq : ∀ ds r, F ds = some r → ∃ d, r = .ok d ∧ fnRes (den_law_same t F_law_same (rho0 N_law_same ds)) = ok d) : Def P w K mg base (k + 1) "_law_same" F := by
  obtain ⟨fd, Fu, bi⟩ := T.F_law_same
  exact ⟨_, _, _, T.g_law_same, Fu.kp, bi, hL, fn_D Fu sc_law_same hL fun cdv A outer s H E hr => ⟨_, fun B => tm_law_same T G_law_same hr B, hq⟩⟩
noncomputable def N_law_number : List Str := ["_law_cell"]
theorem sc_law_number : FnScope N_law_number ["_law_cell"] (defScope s_law_number) := ⟨rfl, rfl, rfl, by decide +kernel, rfl, by decide +kernel, by decide +kernel⟩
noncomputable def den_law_number (t : Adr) : Rho → Option Out :=
    (sSeq (sIf (testB (b2 gEq (b2 gMod (look 0) (con (.int 3))) (con (.int 0)))) (sSeq (sRet (b2 gMod (b2 gFdiv (look 0) (con (.int 3))) (con (.int 4))))
    sNil) sNil)
    (sSeq (sIf (testB (b2 gEq (b2 gMod (look 0) (con (.int 3))) (con (.int 1)))) (sSeq (sRet (b2 gPlus (b2 gTimes (b2 gMod (b2 gFdiv (look 0) (con (.int 3))) (b2 gPow (con (.int 10)) (con (.int 20)))) (b2 gPow (con (.int 10)) (con (.int 39)))) (b2 gMod (look 0) (con (.int 7)))))
    sNil) sNil)
    (sSeq (sRet (b2 gMod (b2 gFdiv (look 0) (con (.int 3))) (b2 gPow (con (.int 10)) (con (.int 60)))))
    sNil)))
theorem tm_law_number (T : Txt K mg t) {k : Nat}  {cdv : Value} {A : Around} {outer : List Env} {s : Shared} {H : Hp} {E : XK} (hr : Room k (A.deeper (envOfC "_law_number" (defScope s_law_number) s.heap.objs.size t.f_law_number cdv))) (B : Hp) :
    PDB (cxN P w K mg base N_law_number "_law_number" (defScope s_law_number) t.f_law_number cdv A outer s H E) B (defBody s_law_number) (den_law_number t) :=
  by
  refine pdb_cons ?_ ?_; (refine pds_if ?_ ?_ ?_; (refine pdt_eq ?_ ?_; (refine pd_mod ?_ ?_; (exact pd_var 0); (exact pd_int)); (exact pd_int)); (refine pdb_cons ?_ ?_; (refine pds_ret ?_; (refine pd_mod ?_ ?_; (refine pd_fdiv ?_ ?_; (exact pd_var 0); (exact pd_int)); (exact pd_int))); (exact pdb_nil)); (exact pdb_nil)); (refine pdb_cons ?_ ?_; (refine pds_if ?_ ?_ ?_; (refine pdt_eq ?_ ?_; (refine pd_mod ?_ ?_; (exact pd_var 0); (exact pd_int)); (exact pd_int)); (refine pdb_cons ?_ ?_; (refine pds_ret ?_; (refine pd_plus ?_ ?_; (refine pd_times ?_ ?_; (refine pd_mod ?_ ?_; (refine pd_fdiv ?_ ?_; (exact pd_var 0); (exact pd_int)); (refine pd_pow ?_ ?_; (exact pd_int); (exact pd_int))); (refine pd_pow ?_ ?_; (exact pd_int); (exact pd_int))); (refine pd_mod ?_ ?_; (exact pd_var 0); (exact pd_int)))); (exact pdb_nil)); (exact pdb_nil)); (refine pdb_cons ?_ ?_; (refine pds_ret ?_; (refine pd_mod ?_ ?_; (refine pd_fdiv ?_ ?_; (exact pd_var 0); (exact pd_int)); (refine pd_pow ?_ ?_; (exact pd_int); (exact pd_int)))); (exact pdb_nil)))
theorem ok_law_number (T : Txt K mg t) {k : Nat}  {F : List D → M D} (hL : ∀ ds r, F ds = some r → ds.length = 1) (hq : ∀ ds r, F ds = some r → ∃ d, r = .ok d ∧ fnRes (den_law_number t (rho0 N_law_number ds)) = ok d) : Def P w K mg base (k + 1) "_law_number" F := by
  obtain ⟨fd, Fu, bi⟩ := T.F_law_number
  exact ⟨_, _, _, T.g_law_number, Fu.kp, bi, hL, fn_D Fu sc_law_number hL fun cdv A outer s H E hr => ⟨_, fun B => tm_law_number T hr B, hq⟩⟩
noncomputable def N_law_name : List Str := ["_law_style", "_law_k", "_law_at_here"]
theorem sc_law_name : FnScope N_law_name ["_law_style", "_law_k"] (defScope s_law_name) := ⟨rfl, rfl, rfl, by decide +kernel, rfl, by decide +kernel, by decide +kernel⟩
noncomputable def den_law_name (t : Adr) : Rho → Option Out :=
    (sSeq (sSet 2 (b2 gMod (b2 gPlus (b2 gTimes (con (.int 5)) (look 1)) (look 0)) (con (.int 23))))
    (sSeq (sIf (testB (b2 gEq (b2 gMod (b2 gFdiv (look 0) (con (.int 23))) (con (.int 3))) (con (.int 1)))) (sSeq (sRet (b2 gPlus (cut3 (con (.str "zz")) oNone (oPart (b2 gMod (look 0) (con (.int 3))))) (b2 gTimes (con (.str "a")) (look 2))))
    sNil) sNil)
    (sSeq (sRet (b2 gPlus (b2 gPlus (cut3 (con (.str "zyzy")) oNone (oPart (b2 gMod (b2 gFdiv (look 0) (con (.int 69))) (con (.int 4))))) (b2 gIx (con (.str "aXq 0~zB-c!_dEf.gH1i(jK")) (look 2))) (cut3 (con (.str "yzzy")) oNone (oPart (b2 gMod (b2 gFdiv (look 0) (con (.int 276))) (con (.int 4)))))))
    sNil)))
theorem tm_law_name (T : Txt K mg t) {k : Nat}  {cdv : Value} {A : Around} {outer : List Env} {s : Shared} {H : Hp} {E : XK} (hr : Room k (A.deeper (envOfC "_law_name" (defScope s_law_name) s.heap.objs.size t.f_law_name cdv))) (B : Hp) :
    PDB (cxN P w K mg base N_law_name "_law_name" (defScope s_law_name) t.f_law_name cdv A outer s H E) B (defBody s_law_name) (den_law_name t) :=
  by
  refine pdb_cons ?_ ?_; (refine pds_set (i := 2) (sc_law_name).nd rfl (Or.inl rfl) ?_; (refine pd_mod ?_ ?_; (refine pd_plus ?_ ?_; (refine pd_times ?_ ?_; (exact pd_int); (exact pd_var 1)); (exact pd_var 0)); (exact pd_int))); (refine pdb_cons ?_ ?_; (refine pds_if ?_ ?_ ?_; (refine pdt_eq ?_ ?_; (refine pd_mod ?_ ?_; (refine pd_fdiv ?_ ?_; (exact pd_var 0); (exact pd_int)); (exact pd_int)); (exact pd_int)); (refine pdb_cons ?_ ?_; (refine pds_ret ?_; (refine pd_plus ?_ ?_; (refine pd_slice ?_ ?_ ?_; (exact pd_str); (exact pdo_none); (refine pdo_some ?_; (refine pd_mod ?_ ?_; (exact pd_var 0); (exact pd_int)))); (refine pd_times ?_ ?_; (exact pd_str); (exact pd_var 2)))); (exact pdb_nil)); (exact pdb_nil)); (refine pdb_cons ?_ ?_; (refine pds_ret ?_; (refine pd_plus ?_ ?_; (refine pd_plus ?_ ?_; (refine pd_slice ?_ ?_ ?_; (exact pd_str); (exact pdo_none); (refine pdo_some ?_; (refine pd_mod ?_ ?_; (refine pd_fdiv ?_ ?_; (exact pd_var 0); (exact pd_int)); (exact pd_int)))); (refine pd_ix ?_ ?_ (fun _ _ => rfl); (exact pd_str); (exact pd_var 2))); (refine pd_slice ?_ ?_ ?_; (exact pd_str); (exact pdo_none); (refine pdo_some ?_; (refine pd_mod ?_ ?_; (refine pd_fdiv ?_ ?_; (exact pd_var 0); (exact pd_int)); (exact pd_int)))))); (exact pdb_nil)))
theorem ok_law_name (T : Txt K mg t) {k : Nat}  {F : List D → M D} (hL : ∀ ds r, F ds = some r → ds.length = 2) (hq : ∀ ds r, F ds = some r → ∃ d, r = .ok d ∧ fnRes (den_law_name t (rho0 N_law_name ds)) = ok d) : Def P w K mg base (k + 1) "_law_name" F := by
  obtain ⟨fd, Fu, bi⟩ := T.F_law_name
  exact ⟨_, _, _, T.g_law_name, Fu.kp, bi, hL, fn_D Fu sc_law_name hL fun cdv A outer s H E hr => ⟨_, fun B => tm_law_name T hr B, hq⟩⟩
noncomputable def N_law_some : List Str := ["_law_row", "_law_by", "_law_left", "_law_name_here"]
theorem sc_law_some : FnScope N_law_some ["_law_row", "_law_by"] (defScope s_law_some) := ⟨rfl, rfl, rfl, by decide +kernel, rfl, by decide +kernel, by decide +kernel⟩
noncomputable def den_law_some (t : Adr) : Rho → Option Out :=
    (sSeq (sNew 2 aNil)
    (sSeq (sForN 0 (gN 3) (sSeq (sIf (testB (b2 gEq (b2 gMod (look 1) (con (.int 2))) (con (.int 1)))) (sSeq (sOwn lApp 2 (aCons (look 3) aNil))
    sNil) sNil)
    (sSeq (sSet 1 (b2 gFdiv (look 1) (con (.int 2))))
    sNil)))
    (sSeq (sRet (f1 toT (look 2)))
    sNil)))
theorem tm_law_some (T : Txt K mg t) {k : Nat}  {cdv : Value} {A : Around} {outer : List Env} {s : Shared} {H : Hp} {E : XK} (hr : Room k (A.deeper (envOfC "_law_some" (defScope s_law_some) s.heap.objs.size t.f_law_some cdv))) (B : Hp) :
    PDB (cxN P w K mg base N_law_some "_law_some" (defScope s_law_some) t.f_law_some cdv A outer s H E) B (defBody s_law_some) (den_law_some t) :=
  by
  refine pdb_cons ?_ ?_; (refine pds_new (i := 2) (sc_law_some).nd rfl (Or.inl rfl) ?_; (exact pda_nil)); (refine pdb_cons ?_ ?_; (refine pds_forN 0 rfl (Or.inl rfl) PassesOwn.never rfl (fun B => ?_) (fun B => ?_); (exact pdg_name (i := 3) (sc_law_some).nd rfl (Or.inl rfl)); (refine pdb_cons ?_ ?_; (refine pds_if ?_ ?_ ?_; (refine pdt_eq ?_ ?_; (refine pd_mod ?_ ?_; (exact pd_var 1); (exact pd_int)); (exact pd_int)); (refine pdb_cons ?_ ?_; (refine pds_append (i := 2) rfl (Or.inl rfl) ?_; (exact pd_var 3)); (exact pdb_nil)); (exact pdb_nil)); (refine pdb_cons ?_ ?_; (refine pds_set (i := 1) (sc_law_some).nd rfl (Or.inl rfl) ?_; (refine pd_fdiv ?_ ?_; (exact pd_var 1); (exact pd_int))); (exact pdb_nil)))); (refine pdb_cons ?_ ?_; (refine pds_ret ?_; (refine pd_tuple rfl T.b_tuple ?_; (exact pd_var 2))); (exact pdb_nil)))
theorem ok_law_some (T : Txt K mg t) {k : Nat}  {F : List D → M D} (hL : ∀ ds r, F ds = some r → ds.length = 2) (hq : ∀ ds r, F ds = some r → ∃ d, r = .ok d ∧ fnRes (den_law_some t (rho0 N_law_some ds)) = ok d) : Def P w K mg base (k + 1) "_law_some" F := by
  obtain ⟨fd, Fu, bi⟩ := T.F_law_some
  exact ⟨_, _, _, T.g_law_some, Fu.kp, bi, hL, fn_D Fu sc_law_some hL fun cdv A outer s H E hr => ⟨_, fun B => tm_law_some T hr B, hq⟩⟩
noncomputable def N_law_cost : List Str := ["_law_cell"]
theorem sc_law_cost : FnScope N_law_cost ["_law_cell"] (defScope s_law_cost) := ⟨rfl, rfl, rfl, by decide +kernel, rfl, by decide +kernel, by decide +kernel⟩
noncomputable def den_law_cost (t : Adr) (F_law_number : List D → M D) : Rho → Option Out :=
    (sSeq (sIf (testB (b2 gEq (b2 gMod (look 0) (con (.int 4))) (con (.int 0)))) (sSeq (sRet (con .non))
    sNil) sNil)
    (sSeq (sRet (app F_law_number (aCons (b2 gFdiv (look 0) (con (.int 4))) aNil)))
    sNil))
theorem tm_law_cost (T : Txt K mg t) {k : Nat} {F_law_number : List D → M D} (G_law_number : Def P w K mg base k "_law_number" F_law_number) {cdv : Value} {A : Around} {outer : List Env} {s : Shared} {H : Hp} {E : XK} (hr : Room k (A.deeper (envOfC "_law_cost" (defScope s_law_cost) s.heap.objs.size t.f_law_cost cdv))) (B : Hp) :
    PDB (cxN P w K mg base N_law_cost "_law_cost" (defScope s_law_cost) t.f_law_cost cdv A outer s H E) B (defBody s_law_cost) (den_law_cost t F_law_number) :=
  by
  refine pdb_cons ?_ ?_; (refine pds_if ?_ ?_ ?_; (refine pdt_eq ?_ ?_; (refine pd_mod ?_ ?_; (exact pd_var 0); (exact pd_int)); (exact pd_int)); (refine pdb_cons ?_ ?_; (refine pds_ret ?_; (exact pd_non)); (exact pdb_nil)); (exact pdb_nil)); (refine pdb_cons ?_ ?_; (refine pds_ret ?_; (refine pd_call G_law_number hr rfl ?_; (refine pda_cons ?_ ?_; (refine pd_fdiv ?_ ?_; (exact pd_var 0); (exact pd_int)); (exact pda_nil)))); (exact pdb_nil))
theorem ok_law_cost (T : Txt K mg t) {k : Nat} {F_law_number : List D → M D} (G_law_number : Def P w K mg base k "_law_number" F_law_number) {F : List D → M D} (hL : ∀ ds r, F ds = some r → ds.length = 1) (hq : ∀ ds r, F ds = some r → ∃ d, r = .ok d ∧ fnRes (den_law_cost t F_law_number (rho0 N_law_cost ds)) = ok d) : Def P w K mg base (k + 1) "_law_cost" F := by
  obtain ⟨fd, Fu, bi⟩ := T.F_law_cost
  exact ⟨_, _, _, T.g_law_cost, Fu.kp, bi, hL, fn_D Fu sc_law_cost hL fun cdv A outer s H E hr => ⟨_, fun B => tm_law_cost T G_law_number hr B, hq⟩⟩
noncomputable def N_law_lesser : List Str := ["_law_a", "_law_b"]
theorem sc_law_lesser : FnScope N_law_lesser ["_law_a", "_law_b"] (defScope s_law_lesser) := ⟨rfl, rfl, rfl, by decide +kernel, rfl, by decide +kernel, by decide +kernel⟩
noncomputable def den_law_lesser (t : Adr) : Rho → Option Out :=
    (sSeq (sIf (testB (b2 gIs (look 0) (con .non))) (sSeq (sRet (look 1))
    sNil) sNil)
    (sSeq (sIf (orB (testB (b2 gIs (look 1) (con .non))) (testB (b2 gLt (look 0) (look 1)))) (sSeq (sRet (look 0))
    sNil) sNil)
    (sSeq (sRet (look 1))
    sNil)))
theorem tm_law_lesser (T : Txt K mg t) {k : Nat}  {cdv : Value} {A : Around} {outer : List Env} {s : Shared} {H : Hp} {E : XK} (hr : Room k (A.deeper (envOfC "_law_lesser" (defScope s_law_lesser) s.heap.objs.size t.f_law_lesser cdv))) (B : Hp) :
    PDB (cxN P w K mg base N_law_lesser "_law_lesser" (defScope s_law_lesser) t.f_law_lesser cdv A outer s H E) B (defBody s_law_lesser) (den_law_lesser t) :=
  by
  refine pdb_cons ?_ ?_; (refine pds_if ?_ ?_ ?_; (refine pdt_is ?_ ?_; (exact pd_var 0); (exact pd_non)); (refine pdb_cons ?_ ?_; (refine pds_ret ?_; (exact pd_var 1)); (exact pdb_nil)); (exact pdb_nil)); (refine pdb_cons ?_ ?_; (refine pds_if ?_ ?_ ?_; (refine PDW.pdt ?_; (refine pdw_or ?_ ?_; (refine pdt_is ?_ ?_; (exact pd_var 1); (exact pd_non)); (refine pdw_or1 ?_; (refine pdt_lt ?_ ?_; (exact pd_var 0); (exact pd_var 1))))); (refine pdb_cons ?_ ?_; (refine pds_ret ?_; (exact pd_var 0)); (exact pdb_nil)); (exact pdb_nil)); (refine pdb_cons ?_ ?_; (refine pds_ret ?_; (exact pd_var 1)); (exact pdb_nil)))
theorem ok_law_lesser (T : Txt K mg t) {k : Nat}  {F : List D → M D} (hL : ∀ ds r, F ds = some r → ds.length = 2) (hq : ∀ ds r, F ds = some r → ∃ d, r = .ok d ∧ fnRes (den_law_lesser t (rho0 N_law_lesser ds)) = ok d) : Def P w K mg base (k + 1) "_law_lesser" F := by
  obtain ⟨fd, Fu, bi⟩ := T.F_law_lesser
  exact ⟨_, _, _, T.g_law_lesser, Fu.kp, bi, hL, fn_D Fu sc_law_lesser hL fun cdv A outer s H E hr => ⟨_, fun B => tm_law_lesser T hr B, hq⟩⟩
noncomputable def N_law_summed : List Str := ["_law_a", "_law_b"]
theorem sc_law_summed : FnScope N_law_summed ["_law_a", "_law_b"] (defScope s_law_summed) := ⟨rfl, rfl, rfl, by decide +kernel, rfl, by decide +kernel, by decide +kernel⟩
noncomputable def den_law_summed (t : Adr) : Rho → Option Out :=
    (sSeq (sIf (orB (testB (b2 gIs (look 0) (con .non))) (testB (b2 gIs (look 1) (con .non)))) (sSeq (sRet (con .non))
    sNil) sNil)
    (sSeq (sRet (b2 gPlus (look 0) (look 1)))
    sNil))
theorem tm_law_summed (T : Txt K mg t) {k : Nat}  {cdv : Value} {A : Around} {outer : List Env} {s : Shared} {H : Hp} {E : XK} (hr : Room k (A.deeper (envOfC "_law_summed" (defScope s_law_summed) s.heap.objs.size t.f_law_summed cdv))) (B : Hp) :
    PDB (cxN P w K mg base N_law_summed "_law_summed" (defScope s_law_summed) t.f_law_summed cdv A outer s H E) B (defBody s_law_summed) (den_law_summed t) :=
  by
  refine pdb_cons ?_ ?_; (refine pds_if ?_ ?_ ?_; (refine PDW.pdt ?_; (refine pdw_or ?_ ?_; (refine pdt_is ?_ ?_; (exact pd_var 0); (exact pd_non)); (refine pdw_or1 ?_; (refine pdt_is ?_ ?_; (exact pd_var 1); (exact pd_non))))); (refine pdb_cons ?_ ?_; (refine pds_ret ?_; (exact pd_non)); (exact pdb_nil)); (exact pdb_nil)); (refine pdb_cons ?_ ?_; (refine pds_ret ?_; (refine pd_plus ?_ ?_; (exact pd_var 0); (exact pd_var 1))); (exact pdb_nil))
theorem ok_law_summed (T : Txt K mg t) {k : Nat}  {F : List D → M D} (hL : ∀ ds r, F ds = some r → ds.length = 2) (hq : ∀ ds r, F ds = some r → ∃ d, r = .ok d ∧ fnRes (den_law_summed t (rho0 N_law_summed ds)) = ok d) : Def P w K mg base (k + 1) "_law_summed" F := by
  obtain ⟨fd, Fu, bi⟩ := T.F_law_summed
  exact ⟨_, _, _, T.g_law_summed, Fu.kp, bi, hL, fn_D Fu sc_law_summed hL fun cdv A outer s H E hr => ⟨_, fun B => tm_law_summed T hr B, hq⟩⟩
noncomputable def N_law_two : List Str := ["_law_way", "_law_many", "_law_a", "_law_b", "_law_plus", "_law_times"]
theorem sc_law_two : FnScope N_law_two ["_law_way", "_law_many", "_law_a", "_law_b"] (defScope s_law_two) := ⟨rfl, rfl, rfl, by decide +kernel, rfl, by decide +kernel, by decide +kernel⟩
noncomputable def den_law_two (t : Adr) (F_law_lesser : List D → M D) (F_law_same : List D → M D) (F_law_summed : List D → M D) (M_plus : Addr → Option (List D → M D)) (M_times : Addr → Option (List D → M D)) : Rho → Option Out :=
    (sSeq (sSet 4 (mkT (aCons (mkT (aCons (b2 gPlus (b2 gIx (b2 gIx (look 2) (con (.int 0))) (con (.int 0))) (b2 gIx (b2 gIx (look 3) (con (.int 0))) (con (.int 0)))) (aCons (app F_law_lesser (aCons (b2 gIx (b2 gIx (look 2) (con (.int 0))) (con (.int 1))) (aCons (b2 gIx (b2 gIx (look 3) (con (.int 0))) (con (.int 1))) aNil))) aNil))) (aCons (b2 gMod (b2 gPlus (b2 gIx (look 2) (con (.int 1))) (b2 gIx (look 3) (con (.int 1)))) (look 1)) aNil))))
    (sSeq (sSet 5 (mkT (aCons (mkT (aCons (b2 gTimes (b2 gIx (b2 gIx (look 2) (con (.int 0))) (con (.int 0))) (b2 gIx (b2 gIx (look 3) (con (.int 0))) (con (.int 0)))) (aCons (app F_law_summed (aCons (b2 gIx (b2 gIx (look 2) (con (.int 0))) (con (.int 1))) (aCons (b2 gIx (b2 gIx (look 3) (con (.int 0))) (con (.int 1))) aNil))) aNil))) (aCons (b2 gMod (b2 gTimes (b2 gIx (look 2) (con (.int 1))) (b2 gIx (look 3) (con (.int 1)))) (look 1)) aNil))))
    (sSeq (sIf (notB (test (app F_law_same (aCons (mkT (aCons (appM "plus" M_plus (look 0) (aCons (look 2) (aCons (look 3) aNil))) (aCons (appM "plus" M_plus (look 0) (aCons (look 3) (aCons (look 2) aNil))) aNil))) (aCons (mkT (aCons (look 4) (aCons (look 4) aNil))) aNil))))) (sSeq (sRet (con (.bl false)))
    sNil) sNil)
    (sSeq (sRet (app F_law_same (aCons (mkT (aCons (appM "times" M_times (look 0) (aCons (look 2) (aCons (look 3) aNil))) (aCons (appM "times" M_times (look 0) (aCons (look 3) (aCons (look 2) aNil))) aNil))) (aCons (mkT (aCons (look 5) (aCons (look 5) aNil))) aNil))))
    sNil))))
theorem tm_law_two (T : Txt K mg t) {k : Nat} {F_law_lesser : List D → M D} (G_law_lesser : Def P w K mg base k "_law_lesser" F_law_lesser) {F_law_same : List D → M D} (G_law_same : Def P w K mg base k "_law_same" F_law_same) {F_law_summed : List D → M D} (G_law_summed : Def P w K mg base k "_law_summed" F_law_summed) {M_plus : Addr → Option (List D → M D)} (GM_plus : ∀ C F, M_plus C = some F → Mth P w K mg base k C "plus" F) {M_times : Addr → Option (List D → M D)} (GM_times : ∀ C F, M_times C = some F → Mth P w K mg base k C "times" F) {cdv : Value} {A : Around} {outer : List Env} {s : Shared} {H : Hp} {E : XK} (hr : Room k (A.deeper (envOfC "_law_two" (defScope s_law_two) s.heap.objs.size t.f_law_two cdv))) (B : Hp) :
    PDB (cxN P w K mg base N_law_two "_law_two" (defScope s_law_two) t.f_law_two cdv A outer s H E) B (defBody s_law_two) (den_law_two t F_law_lesser F_law_same F_law_summed M_plus M_times) :=
  by
  refine pdb_cons ?_ ?_; (refine pds_set (i := 4) (sc_law_two).nd rfl (Or.inl rfl) ?_; (refine pd_tup ?_; (refine pda_cons ?_ ?_; (refine pd_tup ?_; (refine pda_cons ?_ ?_; (refine pd_plus ?_ ?_; (refine pd_ix ?_ ?_ (fun _ _ => rfl); (refine pd_ix ?_ ?_ (fun _ _ => rfl); (exact pd_var 2); (exact pd_int)); (exact pd_int)); (refine pd_ix ?_ ?_ (fun _ _ => rfl); (refine pd_ix ?_ ?_ (fun _ _ => rfl); (exact pd_var 3); (exact pd_int)); (exact pd_int))); (refine pda_cons ?_ ?_; (refine pd_call G_law_lesser hr rfl ?_; (refine pda_cons ?_ ?_; (refine pd_ix ?_ ?_ (fun _ _ => rfl); (refine pd_ix ?_ ?_ (fun _ _ => rfl); (exact pd_var 2); (exact pd_int)); (exact pd_int)); (refine pda_cons ?_ ?_; (refine pd_ix ?_ ?_ (fun _ _ => rfl); (refine pd_ix ?_ ?_ (fun _ _ => rfl); (exact pd_var 3); (exact pd_int)); (exact pd_int)); (exact pda_nil)))); (exact pda_nil)))); (refine pda_cons ?_ ?_; (refine pd_mod ?_ ?_; (refine pd_plus ?_ ?_; (refine pd_ix ?_ ?_ (fun _ _ => rfl); (exact pd_var 2); (exact pd_int)); (refine pd_ix ?_ ?_ (fun _ _ => rfl); (exact pd_var 3); (exact pd_int))); (exact pd_var 1)); (exact pda_nil))))); (refine pdb_cons ?_ ?_; (refine pds_set (i := 5) (sc_law_two).nd rfl (Or.inl rfl) ?_; (refine pd_tup ?_; (refine pda_cons ?_ ?_; (refine pd_tup ?_; (refine pda_cons ?_ ?_; (refine pd_times ?_ ?_; (refine pd_ix ?_ ?_ (fun _ _ => rfl); (refine pd_ix ?_ ?_ (fun _ _ => rfl); (exact pd_var 2); (exact pd_int)); (exact pd_int)); (refine pd_ix ?_ ?_ (fun _ _ => rfl); (refine pd_ix ?_ ?_ (fun _ _ => rfl); (exact pd_var 3); (exact pd_int)); (exact pd_int))); (refine pda_cons ?_ ?_; (refine pd_call G_law_summed hr rfl ?_; (refine pda_cons ?_ ?_; (refine pd_ix ?_ ?_ (fun _ _ => rfl); (refine pd_ix ?_ ?_ (fun _ _ => rfl); (exact pd_var 2); (exact pd_int)); (exact pd_int)); (refine pda_cons ?_ ?_; (refine pd_ix ?_ ?_ (fun _ _ => rfl); (refine pd_ix ?_ ?_ (fun _ _ => rfl); (exact pd_var 3); (exact pd_int)); (exact pd_int)); (exact pda_nil)))); (exact pda_nil)))); (refine pda_cons ?_ ?_; (refine pd_mod ?_ ?_; (refine pd_times ?_ ?_; (refine pd_ix ?_ ?_ (fun _ _ => rfl); (exact pd_var 2); (exact pd_int)); (refine pd_ix ?_ ?_ (fun _ _ => rfl); (exact pd_var 3); (exact pd_int))); (exact pd_var 1)); (exact pda_nil))))); (refine pdb_cons ?_ ?_; (refine pds_if ?_ ?_ ?_; (refine pdt_not ?_; (refine pdt_val ?_; (refine pd_call G_law_same hr rfl ?_; (refine pda_cons ?_ ?_; (refine pd_tup ?_; (refine pda_cons ?_ ?_; (refine pd_meth GM_plus hr ?_ ?_; (exact pd_var 0); (refine pda_cons ?_ ?_; (exact pd_var 2); (refine pda_cons ?_ ?_; (exact pd_var 3); (exact pda_nil)))); (refine pda_cons ?_ ?_; (refine pd_meth GM_plus hr ?_ ?_; (exact pd_var 0); (refine pda_cons ?_ ?_; (exact pd_var 3); (refine pda_cons ?_ ?_; (exact pd_var 2); (exact pda_nil)))); (exact pda_nil)))); (refine pda_cons ?_ ?_; (refine pd_tup ?_; (refine pda_cons ?_ ?_; (exact pd_var 4); (refine pda_cons ?_ ?_; (exact pd_var 4); (exact pda_nil)))); (exact pda_nil)))))); (refine pdb_cons ?_ ?_; (refine pds_ret ?_; (exact pd_bl)); (exact pdb_nil)); (exact pdb_nil)); (refine pdb_cons ?_ ?_; (refine pds_ret ?_; (refine pd_call G_law_same hr rfl ?_; (refine pda_cons ?_ ?_; (refine pd_tup ?_; (refine pda_cons ?_ ?_; (refine pd_meth GM_times hr ?_ ?_; (exact pd_var 0); (refine pda_cons ?_ ?_; (exact pd_var 2); (refine pda_cons ?_ ?_; (exact pd_var 3); (exact pda_nil)))); (refine pda_cons ?_ ?_; (refine pd_meth GM_times hr ?_ ?_; (exact pd_var 0); (refine pda_cons ?_ ?_; (exact pd_var 3); (refine pda_cons ?_ ?_; (exact pd_var 2); (exact pda_nil)))); (exact pda_nil)))); (refine pda_cons ?_ ?_; (refine pd_tup ?_; (refine pda_cons ?_ ?_; (exact pd_var 5); (refine pda_cons ?_ ?_; (exact pd_var 5); (exact pda_nil)))); (exact pda_nil))))); (exact pdb_nil))))
theorem ok_law_two (T : Txt K mg t) {k : Nat} {F_law_lesser : List D → M D} (G_law_lesser : Def P w K mg base k "_law_lesser" F_law_lesser) {F_law_same : List D → M D} (G_law_same : Def P w K mg base k "_law_same" F_law_same) {F_law_summed : List D → M D} (G_law_summed : Def P w K mg base k "_law_summed" F_law_summed) {M_plus : Addr → Option (List D → M D)} (GM_plus : ∀ C F, M_plus C = some F → Mth P w K mg base k C "plus" F) {M_times : Addr → Option (List D → M D)} (GM_times : ∀ C F, M_times C = some F → Mth P w K mg base k C "times" F) {F : List D → M D} (hL : ∀ ds r, F ds = some r → ds.length = 4) (hq : ∀ ds r, F ds = some r → ∃ d, r = .ok d ∧ fnRes (den_law_two t F_law_lesser F_law_same F_law_summed M_plus M_times (rho0 N_law_two ds)) = ok d) : Def P w K mg base (k + 1) "_law_two" F := by
  obtain ⟨fd, Fu, bi⟩ := T.F_law_two
  exact ⟨_, _, _, T.g_law_two, Fu.kp, bi, hL, fn_D Fu sc_law_two hL fun cdv A outer s H E hr => ⟨_, fun B => tm_law_two T G_law_lesser G_law_same G_law_summed GM_plus GM_times hr B, hq⟩⟩
noncomputable def N_law_seen : List Str := ["_law_way", "_law_people", "_law_a", "_law_b", "_law_plus", "_law_times"]
noncomputable def Nc_law_seen_0 : List Str := ["?0", "?1", "_law_a", "_law_b", "?4", "?5", "_law_name_here"]
theorem nd_law_seen_0 : Nc_law_seen_0.Nodup := by decide +kernel
noncomputable def Nc_law_seen_1 : List Str := ["?0", "?1", "_law_a", "_law_b", "?4", "?5", "_law_name_here"]
theorem nd_law_seen_1 : Nc_law_seen_1.Nodup := by decide +kernel
theorem sc_law_seen : FnScope N_law_seen ["_law_way", "_law_people", "_law_a", "_law_b"] (defScope s_law_seen) := ⟨rfl, rfl, rfl, by decide +kernel, rfl, by decide +kernel, by decide +kernel⟩
noncomputable def den_law_seen (t : Adr) (F_law_same : List D → M D) (M_plus : Addr → Option (List D → M D)) (M_times : Addr → Option (List D → M D)) : Rho → Option Out :=
    (sSeq (sSet 4 (mkT (aCons (orV (b2 gIx (look 2) (con (.int 0))) (b2 gIx (look 3) (con (.int 0)))) (aCons (f1 toT (cmp 1 (itE (look 1)) [6] h1 (orB (testB (b2 (gIn false) (look 6) (b2 gIx (look 2) (con (.int 1))))) (testB (b2 (gIn false) (look 6) (b2 gIx (look 3) (con (.int 1)))))) (look 6))) aNil))))
    (sSeq (sSet 5 (mkT (aCons (andV (b2 gIx (look 2) (con (.int 0))) (b2 gIx (look 3) (con (.int 0)))) (aCons (f1 toT (cmp 1 (itE (look 1)) [6] h1 (andB (testB (b2 (gIn false) (look 6) (b2 gIx (look 2) (con (.int 1))))) (testB (b2 (gIn false) (look 6) (b2 gIx (look 3) (con (.int 1)))))) (look 6))) aNil))))
    (sSeq (sIf (notB (test (app F_law_same (aCons (mkT (aCons (appM "plus" M_plus (look 0) (aCons (look 2) (aCons (look 3) aNil))) (aCons (appM "plus" M_plus (look 0) (aCons (look 3) (aCons (look 2) aNil))) aNil))) (aCons (mkT (aCons (look 4) (aCons (look 4) aNil))) aNil))))) (sSeq (sRet (con (.bl false)))
    sNil) sNil)
    (sSeq (sRet (app F_law_same (aCons (mkT (aCons (appM "times" M_times (look 0) (aCons (look 2) (aCons (look 3) aNil))) (aCons (appM "times" M_times (look 0) (aCons (look 3) (aCons (look 2) aNil))) aNil))) (aCons (mkT (aCons (look 5) (aCons (look 5) aNil))) aNil))))
    sNil))))
theorem tm_law_seen (T : Txt K mg t) {k : Nat} {F_law_same : List D → M D} (G_law_same : Def P w K mg base k "_law_same" F_law_same) {M_plus : Addr → Option (List D → M D)} (GM_plus : ∀ C F, M_plus C = some F → Mth P w K mg base k C "plus" F) {M_times : Addr → Option (List D → M D)} (GM_times : ∀ C F, M_times C = some F → Mth P w K mg base k C "times" F) {cdv : Value} {A : Around} {outer : List Env} {s : Shared} {H : Hp} {E : XK} (hr : Room k (A.deeper (envOfC "_law_seen" (defScope s_law_seen) s.heap.objs.size t.f_law_seen cdv))) (B : Hp) :
    PDB (cxN P w K mg base N_law_seen "_law_seen" (defScope s_law_seen) t.f_law_seen cdv A outer s H E) B (defBody s_law_seen) (den_law_seen t F_law_same M_plus M_times) :=
  by
  refine pdb_cons ?_ ?_; (refine pds_set (i := 4) (sc_law_seen).nd rfl (Or.inl rfl) ?_; (refine pd_tup ?_; (refine pda_cons ?_ ?_; (refine pd_or ?_ ?_; (refine pd_ix ?_ ?_ (fun _ _ => rfl); (exact pd_var 2); (exact pd_int)); (refine pd_one ?_; (refine pd_ix ?_ ?_ (fun _ _ => rfl); (exact pd_var 3); (exact pd_int)))); (refine pda_cons ?_ ?_; (refine pd_tuple rfl T.b_tuple ?_; (refine pd_comp1 (N' := Nc_law_seen_1) (m := 1) (ks := [6]) rfl rfl rfl rfl (by repeat (first | exact lk_nil | refine lk_cons rfl (by first | exact Or.inl rfl | exact Or.inr rfl) ?_)) rfl rfl rfl rfl rfl ?_ (fun C s₀ H₀ ex => ?_) (fun C s₀ H₀ ex B => ?_) (fun C s₀ H₀ ex B => ?_); (refine pit_D ?_; (exact pd_var 1)); (exact pdn_1 nd_law_seen_1 rfl (Or.inl rfl)); (refine pif_some ?_; (refine PDW.pdt ?_; (refine pdw_or ?_ ?_; (refine pdt_in ?_ ?_; (exact pd_var 6); (refine pd_ix ?_ ?_ (fun _ _ => rfl); (exact pd_var 2); (exact pd_int))); (refine pdw_or1 ?_; (refine pdt_in ?_ ?_; (exact pd_var 6); (refine pd_ix ?_ ?_ (fun _ _ => rfl); (exact pd_var 3); (exact pd_int))))))); (exact pd_var 6))); (exact pda_nil))))); (refine pdb_cons ?_ ?_; (refine pds_set (i := 5) (sc_law_seen).nd rfl (Or.inl rfl) ?_; (refine pd_tup ?_; (refine pda_cons ?_ ?_; (refine pd_and ?_ ?_; (refine pd_ix ?_ ?_ (fun _ _ => rfl); (exact pd_var 2); (exact pd_int)); (refine pd_one ?_; (refine pd_ix ?_ ?_ (fun _ _ => rfl); (exact pd_var 3); (exact pd_int)))); (refine pda_cons ?_ ?_; (refine pd_tuple rfl T.b_tuple ?_; (refine pd_comp1 (N' := Nc_law_seen_0) (m := 1) (ks := [6]) rfl rfl rfl rfl (by repeat (first | exact lk_nil | refine lk_cons rfl (by first | exact Or.inl rfl | exact Or.inr rfl) ?_)) rfl rfl rfl rfl rfl ?_ (fun C s₀ H₀ ex => ?_) (fun C s₀ H₀ ex B => ?_) (fun C s₀ H₀ ex B => ?_); (refine pit_D ?_; (exact pd_var 1)); (exact pdn_1 nd_law_seen_0 rfl (Or.inl rfl)); (refine pif_some ?_; (refine PDW.pdt ?_; (refine pdw_and ?_ ?_; (refine pdt_in ?_ ?_; (exact pd_var 6); (refine pd_ix ?_ ?_ (fun _ _ => rfl); (exact pd_var 2); (exact pd_int))); (refine pdw_and1 ?_; (refine pdt_in ?_ ?_; (exact pd_var 6); (refine pd_ix ?_ ?_ (fun _ _ => rfl); (exact pd_var 3); (exact pd_int))))))); (exact pd_var 6))); (exact pda_nil))))); (refine pdb_cons ?_ ?_; (refine pds_if ?_ ?_ ?_; (refine pdt_not ?_; (refine pdt_val ?_; (refine pd_call G_law_same hr rfl ?_; (refine pda_cons ?_ ?_; (refine pd_tup ?_; (refine pda_cons ?_ ?_; (refine pd_meth GM_plus hr ?_ ?_; (exact pd_var 0); (refine pda_cons ?_ ?_; (exact pd_var 2); (refine pda_cons ?_ ?_; (exact pd_var 3); (exact pda_nil)))); (refine pda_cons ?_ ?_; (refine pd_meth GM_plus hr ?_ ?_; (exact pd_var 0); (refine pda_cons ?_ ?_; (exact pd_var 3); (refine pda_cons ?_ ?_; (exact pd_var 2); (exact pda_nil)))); (exact pda_nil)))); (refine pda_cons ?_ ?_; (refine pd_tup ?_; (refine pda_cons ?_ ?_; (exact pd_var 4); (refine pda_cons ?_ ?_; (exact pd_var 4); (exact pda_nil)))); (exact pda_nil)))))); (refine pdb_cons ?_ ?_; (refine pds_ret ?_; (exact pd_bl)); (exact pdb_nil)); (exact pdb_nil)); (refine pdb_cons ?_ ?_; (refine pds_ret ?_; (refine pd_call G_law_same hr rfl ?_; (refine pda_cons ?_ ?_; (refine pd_tup ?_; (refine pda_cons ?_ ?_; (refine pd_meth GM_times hr ?_ ?_; (exact pd_var 0); (refine pda_cons ?_ ?_; (exact pd_var 2); (refine pda_cons ?_ ?_; (exact pd_var 3); (exact pda_nil)))); (refine pda_cons ?_ ?_; (refine pd_meth GM_times hr ?_ ?_; (exact pd_var 0); (refine pda_cons ?_ ?_; (exact pd_var 3); (refine pda_cons ?_ ?_; (exact pd_var 2); (exact pda_nil)))); (exact pda_nil)))); (refine pda_cons ?_ ?_; (refine pd_tup ?_; (refine pda_cons ?_ ?_; (exact pd_var 5); (refine pda_cons ?_ ?_; (exact pd_var 5); (exact pda_nil)))); (exact pda_nil))))); (exact pdb_nil))))
theorem ok_law_seen (T : Txt K mg t) {k : Nat} {F_law_same : List D → M D} (G_law_same : Def P w K mg base k "_law_same" F_law_same) {M_plus : Addr → Option (List D → M D)} (GM_plus : ∀ C F, M_plus C = some F → Mth P w K mg base k C "plus" F) {M_times : Addr → Option (List D → M D)} (GM_times : ∀ C F, M_times C = some F → Mth P w K mg base k C "times" F) {F : List D → M D} (hL : ∀ ds r, F ds = some r → ds.length = 4) (hq : ∀ ds r, F ds = some r → ∃ d, r = .ok d ∧ fnRes (den_law_seen t F_law_same M_plus M_times (rho0 N_law_seen ds)) = ok d) : Def P w K mg base (k + 1) "_law_seen" F := by
  obtain ⟨fd, Fu, bi⟩ := T.F_law_seen
  exact ⟨_, _, _, T.g_law_seen, Fu.kp, bi, hL, fn_D Fu sc_law_seen hL fun cdv A outer s H E hr => ⟨_, fun B => tm_law_seen T G_law_same GM_plus GM_times hr B, hq⟩⟩
noncomputable def N_law : List Str := ["_law_script", "_law_many", "_law_people", "_law_deep", "_law_seen_here", "_law_last", "_law_left", "_law_cell", "_law_new", "_law_right"]
noncomputable def Nc_law_0 : List Str := ["_law_script", "?1", "?2", "?3", "?4", "?5", "?6", "?7", "?8", "?9", "_law_k"]
theorem nd_law_0 : Nc_law_0.Nodup := by decide +kernel
theorem sc_law : FnScope N_law ["_law_script"] (defScope s_law) := ⟨rfl, rfl, rfl, by decide +kernel, rfl, by decide +kernel, by decide +kernel⟩
noncomputable def den_law (t : Adr) (F_law_at : List D → M D) (F_law_cost : List D → M D) (F_law_name : List D → M D) (F_law_number : List D → M D) (F_law_same : List D → M D) (F_law_seen : List D → M D) (F_law_some : List D → M D) (F_law_two : List D → M D) (F_Costs : List D → M (List (Str × D))) (F_Counts : List D → M (List (Str × D))) (F_Pairs : List D → M (List (Str × D))) (F_Rounds : List D → M (List (Str × D))) (F_Seers : List D → M (List (Str × D))) (F_Truths : List D → M (List (Str × D))) : Rho → Option Out :=
    (sSeq (sSet 1 (b2 gPlus (con (.int 2)) (b2 gMod (app F_law_at (aCons (look 0) (aCons (con (.int 0)) aNil))) (con (.int 60)))))
    (sSeq (sIf (testB (b2 gEq (b2 gMod (b2 gFdiv (app F_law_at (aCons (look 0) (aCons (con (.int 0)) aNil))) (con (.int 60))) (con (.int 3))) (con (.int 1)))) (sSeq (sSet 1 (b2 gPlus (b2 gPow (con (.int 10)) (con (.int 30))) (con (.int 57))))
    sNil) sNil)
    (sSeq (sSet 2 (f1 srtL (cmp 1 (itR (b2 gMod (app F_law_at (aCons (look 0) (aCons (con (.int 2)) aNil))) (con (.int 5)))) [10] h1 (fun _ => ok true) (app F_law_name (aCons (b2 gMod (app F_law_at (aCons (look 0) (aCons (con (.int 1)) aNil))) (con (.int 2000))) (aCons (look 10) aNil))))))
    (sSeq (sSet 3 (app (mkO t.C_Pairs F_Pairs) (aCons (app (mkO t.C_Pairs F_Pairs) (aCons (fun _ => mkO t.C_Counts F_Counts []) (aCons (fun _ => mkO t.C_Costs F_Costs []) aNil))) (aCons (app (mkO t.C_Rounds F_Rounds) (aCons (look 1) aNil)) aNil))))
    (sSeq (sSet 4 (app (mkO t.C_Pairs F_Pairs) (aCons (fun _ => mkO t.C_Truths F_Truths []) (aCons (app (mkO t.C_Seers F_Seers) (aCons (f1 toL (look 2)) aNil)) aNil))))
    (sSeq (sIf (notB (test (app F_law_same (aCons (mkT (aCons (fld (cs t) "nought" (look 3)) (aCons (fld (cs t) "one" (look 3)) aNil))) (aCons (mkT (aCons (mkT (aCons (mkT (aCons (con (.int 0)) (aCons (con .non) aNil))) (aCons (con (.int 0)) aNil))) (aCons (mkT (aCons (mkT (aCons (con (.int 1)) (aCons (con (.int 0)) aNil))) (aCons (con (.int 1)) aNil))) aNil))) aNil))))) (sSeq (sRet (con (.bl false)))
    sNil) sNil)
    (sSeq (sIf (notB (test (app F_law_same (aCons (mkT (aCons (fld (cs t) "nought" (look 4)) (aCons (fld (cs t) "one" (look 4)) aNil))) (aCons (mkT (aCons (mkT (aCons (con (.bl false)) (aCons (mkT aNil) aNil))) (aCons (mkT (aCons (con (.bl true)) (aCons (f1 toT (look 2)) aNil))) aNil))) aNil))))) (sSeq (sRet (con (.bl false)))
    sNil) sNil)
    (sSeq (sSet 5 (fld (cs t) "nought" (look 3)))
    (sSeq (sSet 6 (fld (cs t) "one" (look 4)))
    (sSeq (sForE (cut3 (look 0) oNone (oPart (con (.int 30)))) (gN 7) (sSeq (sSet 8 (mkT (aCons (mkT (aCons (app F_law_number (aCons (look 7) aNil)) (aCons (app F_law_cost (aCons (b2 gFdiv (look 7) (con (.int 7))) aNil)) aNil))) (aCons (b2 gMod (b2 gFdiv (look 7) (con (.int 2))) (look 1)) aNil))))
    (sSeq (sSet 9 (mkT (aCons (b2 gEq (b2 gMod (b2 gFdiv (look 7) (con (.int 5))) (con (.int 2))) (con (.int 1))) (aCons (app F_law_some (aCons (look 2) (aCons (b2 gFdiv (look 7) (con (.int 3))) aNil))) aNil))))
    (sSeq (sIf (orB (notB (test (app F_law_two (aCons (look 3) (aCons (look 1) (aCons (look 5) (aCons (look 8) aNil))))))) (notB (test (app F_law_seen (aCons (look 4) (aCons (look 2) (aCons (look 6) (aCons (look 9) aNil)))))))) (sSeq (sRet (con (.bl false)))
    sNil) sNil)
    (sSeq (sSet 5 (look 8))
    (sSeq (sSet 6 (look 9))
    sNil))))))
    (sSeq (sRet (con (.bl true)))
    sNil)))))))))))
theorem tm_law (T : Txt K mg t) {k k' : Nat} (hk : k' + 1 ≤ k) {F_law_at : List D → M D} (G_law_at : Def P w K mg base k "_law_at" F_law_at) {F_law_cost : List D → M D} (G_law_cost : Def P w K mg base k "_law_cost" F_law_cost) {F_law_name : List D → M D} (G_law_name : Def P w K mg base k "_law_name" F_law_name) {F_law_number : List D → M D} (G_law_number : Def P w K mg base k "_law_number" F_law_number) {F_law_same : List D → M D} (G_law_same : Def P w K mg base k "_law_same" F_law_same) {F_law_seen : List D → M D} (G_law_seen : Def P w K mg base k "_law_seen" F_law_seen) {F_law_some : List D → M D} (G_law_some : Def P w K mg base k "_law_some" F_law_some) {F_law_two : List D → M D} (G_law_two : Def P w K mg base k "_law_two" F_law_two) {F_Costs : List D → M (List (Str × D))} (G_Costs : Ctor P w K mg base k' "Costs" t.C_Costs F_Costs) {F_Counts : List D → M (List (Str × D))} (G_Counts : Ctor P w K mg base k' "Counts" t.C_Counts F_Counts) {F_Pairs : List D → M (List (Str × D))} (G_Pairs : Ctor P w K mg base k' "Pairs" t.C_Pairs F_Pairs) {F_Rounds : List D → M (List (Str × D))} (G_Rounds : Ctor P w K mg base k' "Rounds" t.C_Rounds F_Rounds) {F_Seers : List D → M (List (Str × D))} (G_Seers : Ctor P w K mg base k' "Seers" t.C_Seers F_Seers) {F_Truths : List D → M (List (Str × D))} (G_Truths : Ctor P w K mg base k' "Truths" t.C_Truths F_Truths) {cdv : Value} {A : Around} {outer : List Env} {s : Shared} {H : Hp} {E : XK} (hr : Room k (A.deeper (envOfC "law" (defScope s_law) s.heap.objs.size t.f_law cdv))) (B : Hp) :
    PDB (cxN P w K mg base N_law "law" (defScope s_law) t.f_law cdv A outer s H E) B (defBody s_law) (den_law t F_law_at F_law_cost F_law_name F_law_number F_law_same F_law_seen F_law_some F_law_two F_Costs F_Counts F_Pairs F_Rounds F_Seers F_Truths) :=
  by
  have hr' := hr.mono hk
  refine pdb_cons ?_ ?_; (refine pds_set (i := 1) (sc_law).nd rfl (Or.inl rfl) ?_; (refine pd_plus ?_ ?_; (exact pd_int); (refine pd_mod ?_ ?_; (refine pd_call G_law_at hr rfl ?_; (refine pda_cons ?_ ?_; (exact pd_var 0); (refine pda_cons ?_ ?_; (exact pd_int); (exact pda_nil)))); (exact pd_int)))); (refine pdb_cons ?_ ?_; (refine pds_if ?_ ?_ ?_; (refine pdt_eq ?_ ?_; (refine pd_mod ?_ ?_; (refine pd_fdiv ?_ ?_; (refine pd_call G_law_at hr rfl ?_; (refine pda_cons ?_ ?_; (exact pd_var 0); (refine pda_cons ?_ ?_; (exact pd_int); (exact pda_nil)))); (exact pd_int)); (exact pd_int)); (exact pd_int)); (refine pdb_cons ?_ ?_; (refine pds_set (i := 1) (sc_law).nd rfl (Or.inl rfl) ?_; (refine pd_plus ?_ ?_; (refine pd_pow ?_ ?_; (exact pd_int); (exact pd_int)); (exact pd_int))); (exact pdb_nil)); (exact pdb_nil)); (refine pdb_cons ?_ ?_; (refine pds_set (i := 2) (sc_law).nd rfl (Or.inl rfl) ?_; (refine pd_sortedL rfl rfl T.b_sorted ?_; (refine pd_comp1 (N' := Nc_law_0) (m := 1) (ks := [10]) rfl rfl rfl rfl (by repeat (first | exact lk_nil | refine lk_cons rfl (by first | exact Or.inl rfl | exact Or.inr rfl) ?_)) rfl rfl rfl rfl rfl ?_ (fun C s₀ H₀ ex => ?_) (fun C s₀ H₀ ex B => ?_) (fun C s₀ H₀ ex B => ?_); (refine pit_r1 rfl T.b_range ?_; (refine pd_mod ?_ ?_; (refine pd_call G_law_at hr rfl ?_; (refine pda_cons ?_ ?_; (exact pd_var 0); (refine pda_cons ?_ ?_; (exact pd_int); (exact pda_nil)))); (exact pd_int))); (exact pdn_1 nd_law_0 rfl (Or.inl rfl)); (exact pif_none); (refine pd_call G_law_name hr rfl ?_; (refine pda_cons ?_ ?_; (refine pd_mod ?_ ?_; (refine pd_call G_law_at hr rfl ?_; (refine pda_cons ?_ ?_; (exact pd_var 0); (refine pda_cons ?_ ?_; (exact pd_int); (exact pda_nil)))); (exact pd_int)); (refine pda_cons ?_ ?_; (exact pd_var 10); (exact pda_nil))))))); (refine pdb_cons ?_ ?_; (refine pds_set (i := 3) (sc_law).nd rfl (Or.inl rfl) ?_; (refine pd_make G_Pairs hr' rfl ?_; (refine pda_cons ?_ ?_; (refine pd_make G_Pairs hr' rfl ?_; (refine pda_cons ?_ ?_; (exact pd_make0 G_Counts hr' rfl); (refine pda_cons ?_ ?_; (exact pd_make0 G_Costs hr' rfl); (exact pda_nil)))); (refine pda_cons ?_ ?_; (refine pd_make G_Rounds hr' rfl ?_; (refine pda_cons ?_ ?_; (exact pd_var 1); (exact pda_nil))); (exact pda_nil))))); (refine pdb_cons ?_ ?_; (refine pds_set (i := 4) (sc_law).nd rfl (Or.inl rfl) ?_; (refine pd_make G_Pairs hr' rfl ?_; (refine pda_cons ?_ ?_; (exact pd_make0 G_Truths hr' rfl); (refine pda_cons ?_ ?_; (refine pd_make G_Seers hr' rfl ?_; (refine pda_cons ?_ ?_; (refine pd_list rfl T.b_list ?_; (exact pd_var 2)); (exact pda_nil))); (exact pda_nil))))); (refine pdb_cons ?_ ?_; (refine pds_if ?_ ?_ ?_; (refine pdt_not ?_; (refine pdt_val ?_; (refine pd_call G_law_same hr rfl ?_; (refine pda_cons ?_ ?_; (refine pd_tup ?_; (refine pda_cons ?_ ?_; (refine pd_fld (f := "nought") (T.nf_nought) ?_; (exact pd_var 3)); (refine pda_cons ?_ ?_; (refine pd_fld (f := "one") (T.nf_one) ?_; (exact pd_var 3)); (exact pda_nil)))); (refine pda_cons ?_ ?_; (refine pd_tup ?_; (refine pda_cons ?_ ?_; (refine pd_tup ?_; (refine pda_cons ?_ ?_; (refine pd_tup ?_; (refine pda_cons ?_ ?_; (exact pd_int); (refine pda_cons ?_ ?_; (exact pd_non); (exact pda_nil)))); (refine pda_cons ?_ ?_; (exact pd_int); (exact pda_nil)))); (refine pda_cons ?_ ?_; (refine pd_tup ?_; (refine pda_cons ?_ ?_; (refine pd_tup ?_; (refine pda_cons ?_ ?_; (exact pd_int); (refine pda_cons ?_ ?_; (exact pd_int); (exact pda_nil)))); (refine pda_cons ?_ ?_; (exact pd_int); (exact pda_nil)))); (exact pda_nil)))); (exact pda_nil)))))); (refine pdb_cons ?_ ?_; (refine pds_ret ?_; (exact pd_bl)); (exact pdb_nil)); (exact pdb_nil)); (refine pdb_cons ?_ ?_; (refine pds_if ?_ ?_ ?_; (refine pdt_not ?_; (refine pdt_val ?_; (refine pd_call G_law_same hr rfl ?_; (refine pda_cons ?_ ?_; (refine pd_tup ?_; (refine pda_cons ?_ ?_; (refine pd_fld (f := "nought") (T.nf_nought) ?_; (exact pd_var 4)); (refine pda_cons ?_ ?_; (refine pd_fld (f := "one") (T.nf_one) ?_; (exact pd_var 4)); (exact pda_nil)))); (refine pda_cons ?_ ?_; (refine pd_tup ?_; (refine pda_cons ?_ ?_; (refine pd_tup ?_; (refine pda_cons ?_ ?_; (exact pd_bl); (refine pda_cons ?_ ?_; (refine pd_tup ?_; (exact pda_nil)); (exact pda_nil)))); (refine pda_cons ?_ ?_; (refine pd_tup ?_; (refine pda_cons ?_ ?_; (exact pd_bl); (refine pda_cons ?_ ?_; (refine pd_tuple rfl T.b_tuple ?_; (exact pd_var 2)); (exact pda_nil)))); (exact pda_nil)))); (exact pda_nil)))))); (refine pdb_cons ?_ ?_; (refine pds_ret ?_; (exact pd_bl)); (exact pdb_nil)); (exact pdb_nil)); (refine pdb_cons ?_ ?_; (refine pds_set (i := 5) (sc_law).nd rfl (Or.inl rfl) ?_; (refine pd_fld (f := "nought") (T.nf_nought) ?_; (exact pd_var 3))); (refine pdb_cons ?_ ?_; (refine pds_set (i := 6) (sc_law).nd rfl (Or.inl rfl) ?_; (refine pd_fld (f := "one") (T.nf_one) ?_; (exact pd_var 4))); (refine pdb_cons ?_ ?_; (refine pds_forE PassesOwn.never rfl ?_ (fun B => ?_) (fun B => ?_); (refine pd_slice ?_ ?_ ?_; (exact pd_var 0); (exact pdo_none); (refine pdo_some ?_; (exact pd_int))); (exact pdg_name (i := 7) (sc_law).nd rfl (Or.inl rfl)); (refine pdb_cons ?_ ?_; (refine pds_set (i := 8) (sc_law).nd rfl (Or.inl rfl) ?_; (refine pd_tup ?_; (refine pda_cons ?_ ?_; (refine pd_tup ?_; (refine pda_cons ?_ ?_; (refine pd_call G_law_number hr rfl ?_; (refine pda_cons ?_ ?_; (exact pd_var 7); (exact pda_nil))); (refine pda_cons ?_ ?_; (refine pd_call G_law_cost hr rfl ?_; (refine pda_cons ?_ ?_; (refine pd_fdiv ?_ ?_; (exact pd_var 7); (exact pd_int)); (exact pda_nil))); (exact pda_nil)))); (refine pda_cons ?_ ?_; (refine pd_mod ?_ ?_; (refine pd_fdiv ?_ ?_; (exact pd_var 7); (exact pd_int)); (exact pd_var 1)); (exact pda_nil))))); (refine pdb_cons ?_ ?_; (refine pds_set (i := 9) (sc_law).nd rfl (Or.inl rfl) ?_; (refine pd_tup ?_; (refine pda_cons ?_ ?_; (refine pd_eq ?_ ?_; (refine pd_mod ?_ ?_; (refine pd_fdiv ?_ ?_; (exact pd_var 7); (exact pd_int)); (exact pd_int)); (exact pd_int)); (refine pda_cons ?_ ?_; (refine pd_call G_law_some hr rfl ?_; (refine pda_cons ?_ ?_; (exact pd_var 2); (refine pda_cons ?_ ?_; (refine pd_fdiv ?_ ?_; (exact pd_var 7); (exact pd_int)); (exact pda_nil)))); (exact pda_nil))))); (refine pdb_cons ?_ ?_; (refine pds_if ?_ ?_ ?_; (refine PDW.pdt ?_; (refine pdw_or ?_ ?_; (refine pdt_not ?_; (refine pdt_val ?_; (refine pd_call G_law_two hr rfl ?_; (refine pda_cons ?_ ?_; (exact pd_var 3); (refine pda_cons ?_ ?_; (exact pd_var 1); (refine pda_cons ?_ ?_; (exact pd_var 5); (refine pda_cons ?_ ?_; (exact pd_var 8); (exact pda_nil)))))))); (refine pdw_or1 ?_; (refine pdt_not ?_; (refine pdt_val ?_; (refine pd_call G_law_seen hr rfl ?_; (refine pda_cons ?_ ?_; (exact pd_var 4); (refine pda_cons ?_ ?_; (exact pd_var 2); (refine pda_cons ?_ ?_; (exact pd_var 6); (refine pda_cons ?_ ?_; (exact pd_var 9); (exact pda_nil))))))))))); (refine pdb_cons ?_ ?_; (refine pds_ret ?_; (exact pd_bl)); (exact pdb_nil)); (exact pdb_nil)); (refine pdb_cons ?_ ?_; (refine pds_set (i := 5) (sc_law).nd rfl (Or.inl rfl) ?_; (exact pd_var 8)); (refine pdb_cons ?_ ?_; (refine pds_set (i := 6) (sc_law).nd rfl (Or.inl rfl) ?_; (exact pd_var 9)); (exact pdb_nil))))))); (refine pdb_cons ?_ ?_; (refine pds_ret ?_; (exact pd_bl)); (exact pdb_nil)))))))))))
theorem fnd_law (T : Txt K mg t) {fd : FuncData} (Fu : Fun K "law" "law" s_law t.f_law fd) {k k' : Nat} (hk : k' + 1 ≤ k) {F_law_at : List D → M D} (G_law_at : Def P w K mg base k "_law_at" F_law_at) {F_law_cost : List D → M D} (G_law_cost : Def P w K mg base k "_law_cost" F_law_cost) {F_law_name : List D → M D} (G_law_name : Def P w K mg base k "_law_name" F_law_name) {F_law_number : List D → M D} (G_law_number : Def P w K mg base k "_law_number" F_law_number) {F_law_same : List D → M D} (G_law_same : Def P w K mg base k "_law_same" F_law_same) {F_law_seen : List D → M D} (G_law_seen : Def P w K mg base k "_law_seen" F_law_seen) {F_law_some : List D → M D} (G_law_some : Def P w K mg base k "_law_some" F_law_some) {F_law_two : List D → M D} (G_law_two : Def P w K mg base k "_law_two" F_law_two) {F_Costs : List D → M (List (Str × D))} (G_Costs : Ctor P w K mg base k' "Costs" t.C_Costs F_Costs) {F_Counts : List D → M (List (Str × D))} (G_Counts : Ctor P w K mg base k' "Counts" t.C_Counts F_Counts) {F_Pairs : List D → M (List (Str × D))} (G_Pairs : Ctor P w K mg base k' "Pairs" t.C_Pairs F_Pairs) {F_Rounds : List D → M (List (Str × D))} (G_Rounds : Ctor P w K mg base k' "Rounds" t.C_Rounds F_Rounds) {F_Seers : List D → M (List (Str × D))} (G_Seers : Ctor P w K mg base k' "Seers" t.C_Seers F_Seers) {F_Truths : List D → M (List (Str × D))} (G_Truths : Ctor P w K mg base k' "Truths" t.C_Truths F_Truths) {F : List D → M D} (hL : ∀ ds r, F ds = some r → ds.length = 1) (hq : ∀ ds r, F ds = some r → ∃ d, r = .ok d ∧ fnRes (den_law t F_law_at F_law_cost F_law_name F_law_number F_law_same F_law_seen F_law_some F_law_two F_Costs F_Counts F_Pairs F_Rounds F_Seers F_Truths (rho0 N_law ds)) = ok d) : FnD P w K mg base (k + 1) t.f_law fd ["_law_script"] F :=
  fn_D Fu sc_law hL fun cdv A outer s H E hr => ⟨_, fun B => tm_law T hk G_law_at G_law_cost G_law_name G_law_number G_law_same G_law_seen G_law_some G_law_two G_Costs G_Counts G_Pairs G_Rounds G_Seers G_Truths hr B, hq⟩
theorem ok_law (T : Txt K mg t) {k k' : Nat} (hk : k' + 1 ≤ k) {F_law_at : List D → M D} (G_law_at : Def P w K mg base k "_law_at" F_law_at) {F_law_cost : List D → M D} (G_law_cost : Def P w K mg base k "_law_cost" F_law_cost) {F_law_name : List D → M D} (G_law_name : Def P w K mg base k "_law_name" F_law_name) {F_law_number : List D → M D} (G_law_number : Def P w K mg base k "_law_number" F_law_number) {F_law_same : List D → M D} (G_law_same : Def P w K mg base k "_law_same" F_law_same) {F_law_seen : List D → M D} (G_law_seen : Def P w K mg base k "_law_seen" F_law_seen) {F_law_some : List D → M D} (G_law_some : Def P w K mg base k "_law_some" F_law_some) {F_law_two : List D → M D} (G_law_two : Def P w K mg base k "_law_two" F_law_two) {F_Costs : List D → M (List (Str × D))} (G_Costs : Ctor P w K mg base k' "Costs" t.C_Costs F_Costs) {F_Counts : List D → M (List (Str × D))} (G_Counts : Ctor P w K mg base k' "Counts" t.C_Counts F_Counts) {F_Pairs : List D → M (List (Str × D))} (G_Pairs : Ctor P w K mg base k' "Pairs" t.C_Pairs F_Pairs) {F_Rounds : List D → M (List (Str × D))} (G_Rounds : Ctor P w K mg base k' "Rounds" t.C_Rounds F_Rounds) {F_Seers : List D → M (List (Str × D))} (G_Seers : Ctor P w K mg base k' "Seers" t.C_Seers F_Seers) {F_Truths : List D → M (List (Str × D))} (G_Truths : Ctor P w K mg base k' "Truths" t.C_Truths F_Truths) {F : List D → M D} (hL : ∀ ds r, F ds = some r → ds.length = 1) (hq : ∀ ds r, F ds = some r → ∃ d, r = .ok d ∧ fnRes (den_law t F_law_at F_law_cost F_law_name F_law_number F_law_same F_law_seen F_law_some F_law_two F_Costs F_Counts F_Pairs F_Rounds F_Seers F_Truths (rho0 N_law ds)) = ok d) : Def P w K mg base (k + 1) "law" F := by
  obtain ⟨fd, Fu, bi⟩ := T.F_law
  exact ⟨_, _, _, T.g_law, Fu.kp, bi, hL, fn_D Fu sc_law hL fun cdv A outer s H E hr => ⟨_, fun B => tm_law T hk G_law_at G_law_cost G_law_name G_law_number G_law_same G_law_seen G_law_some G_law_two G_Costs G_Counts G_Pairs G_Rounds G_Seers G_Truths hr B, hq⟩⟩
end
theorem fm_is_whole {K : PySem.W.Frag} {f : Addr} {od an : Option Addr} {sl : Array (Option Value)} {oc kV dc pm cd ct : Value} (l : K.lookup f = some ⟨oc, od, .func (PySem.W.fnOf "is_whole" "is_whole" (defArgs s_is_whole) (defBody s_is_whole) (defScope s_is_whole) .none kV dc pm an cd ct), sl⟩) (c : PySem.W.codeIn K cd "is_whole" = true) (k : PySem.W.keepIn K (.ref f) = true) : ∃ fd, Fun K "is_whole" "is_whole" s_is_whole f fd ∧ Binds K fd ["thing", "least"] [] :=
  ⟨_, fun_mk (st := s_is_whole) l c k, (fun_mk (st := s_is_whole) l c k).binds (ps := ["thing", "least"]) fun _ _ _ _ _ _ us hl => by obtain ⟨_, _, rfl⟩ := ar2 us hl; rfl⟩
theorem fm_Truths___init__ {K : PySem.W.Frag} {f : Addr} {od an : Option Addr} {sl : Array (Option Value)} {oc kV dc pm cd ct : Value} (l : K.lookup f = some ⟨oc, od, .func (PySem.W.fnOf "__init__" "Truths.__init__" (defArgs s_Truths___init__) (defBody s_Truths___init__) (defScope s_Truths___init__) .none kV dc pm an cd ct), sl⟩) (c : PySem.W.codeIn K cd "Truths.__init__" = true) (k : PySem.W.keepIn K (.ref f) = true) : ∃ fd, Fun K "__init__" "Truths.__init__" s_Truths___init__ f fd ∧ Binds K fd ["self"] [] :=
  ⟨_, fun_mk (st := s_Truths___init__) l c k, (fun_mk (st := s_Truths___init__) l c k).binds (ps := ["self"]) fun _ _ _ _ _ _ us hl => by obtain ⟨_, rfl⟩ := ar1 us hl; rfl⟩
theorem fm_Truths_plus {K : PySem.W.Frag} {f : Addr} {od an : Option Addr} {sl : Array (Option Value)} {oc kV dc pm cd ct : Value} (l : K.lookup f = some ⟨oc, od, .func (PySem.W.fnOf "plus" "Truths.plus" (defArgs s_Truths_plus) (defBody s_Truths_plus) (defScope s_Truths_plus) .none kV dc pm an cd ct), sl⟩) (c : PySem.W.codeIn K cd "Truths.plus" = true) (k : PySem.W.keepIn K (.ref f) = true) : ∃ fd, Fun K "plus" "Truths.plus" s_Truths_plus f fd ∧ Binds K fd ["self", "a", "b"] [] :=
  ⟨_, fun_mk (st := s_Truths_plus) l c k, (fun_mk (st := s_Truths_plus) l c k).binds (ps := ["self", "a", "b"]) fun _ _ _ _ _ _ us hl => by obtain ⟨_, _, _, rfl⟩ := ar3 us hl; rfl⟩
theorem fm_Truths_times {K : PySem.W.Frag} {f : Addr} {od an : Option Addr} {sl : Array (Option Value)} {oc kV dc pm cd ct : Value} (l : K.lookup f = some ⟨oc, od, .func (PySem.W.fnOf "times" "Truths.times" (defArgs s_Truths_times) (defBody s_Truths_times) (defScope s_Truths_times) .none kV dc pm an cd ct), sl⟩) (c : PySem.W.codeIn K cd "Truths.times" = true) (k : PySem.W.keepIn K (.ref f) = true) : ∃ fd, Fun K "times" "Truths.times" s_Truths_times f fd ∧ Binds K fd ["self", "a", "b"] [] :=
  ⟨_, fun_mk (st := s_Truths_times) l c k, (fun_mk (st := s_Truths_times) l c k).binds (ps := ["self", "a", "b"]) fun _ _ _ _ _ _ us hl => by obtain ⟨_, _, _, rfl⟩ := ar3 us hl; rfl⟩
theorem fm_Counts___init__ {K : PySem.W.Frag} {f : Addr} {od an : Option Addr} {sl : Array (Option Value)} {oc kV dc pm cd ct : Value} (l : K.lookup f = some ⟨oc, od, .func (PySem.W.fnOf "__init__" "Counts.__init__" (defArgs s_Counts___init__) (defBody s_Counts___init__) (defScope s_Counts___init__) .none kV dc pm an cd ct), sl⟩) (c : PySem.W.codeIn K cd "Counts.__init__" = true) (k : PySem.W.keepIn K (.ref f) = true) : ∃ fd, Fun K "__init__" "Counts.__init__" s_Counts___init__ f fd ∧ Binds K fd ["self"] [] :=
  ⟨_, fun_mk (st := s_Counts___init__) l c k, (fun_mk (st := s_Counts___init__) l c k).binds (ps := ["self"]) fun _ _ _ _ _ _ us hl => by obtain ⟨_, rfl⟩ := ar1 us hl; rfl⟩
theorem fm_Counts_plus {K : PySem.W.Frag} {f : Addr} {od an : Option Addr} {sl : Array (Option Value)} {oc kV dc pm cd ct : Value} (l : K.lookup f = some ⟨oc, od, .func (PySem.W.fnOf "plus" "Counts.plus" (defArgs s_Counts_plus) (defBody s_Counts_plus) (defScope s_Counts_plus) .none kV dc pm an cd ct), sl⟩) (c : PySem.W.codeIn K cd "Counts.plus" = true) (k : PySem.W.keepIn K (.ref f) = true) : ∃ fd, Fun K "plus" "Counts.plus" s_Counts_plus f fd ∧ Binds K fd ["self", "a", "b"] [] :=
  ⟨_, fun_mk (st := s_Counts_plus) l c k, (fun_mk (st := s_Counts_plus) l c k).binds (ps := ["self", "a", "b"]) fun _ _ _ _ _ _ us hl => by obtain ⟨_, _, _, rfl⟩ := ar3 us hl; rfl⟩
theorem fm_Counts_times {K : PySem.W.Frag} {f : Addr} {od an : Option Addr} {sl : Array (Option Value)} {oc kV dc pm cd ct : Value} (l : K.lookup f = some ⟨oc, od, .func (PySem.W.fnOf "times" "Counts.times" (defArgs s_Counts_times) (defBody s_Counts_times) (defScope s_Counts_times) .none kV dc pm an cd ct), sl⟩) (c : PySem.W.codeIn K cd "Counts.times" = true) (k : PySem.W.keepIn K (.ref f) = true) : ∃ fd, Fun K "times" "Counts.times" s_Counts_times f fd ∧ Binds K fd ["self", "a", "b"] [] :=
  ⟨_, fun_mk (st := s_Counts_times) l c k, (fun_mk (st := s_Counts_times) l c k).binds (ps := ["self", "a", "b"]) fun _ _ _ _ _ _ us hl => by obtain ⟨_, _, _, rfl⟩ := ar3 us hl; rfl⟩
theorem fm_Rounds___init__ {K : PySem.W.Frag} {f : Addr} {od an : Option Addr} {sl : Array (Option Value)} {oc kV dc pm cd ct : Value} (l : K.lookup f = some ⟨oc, od, .func (PySem.W.fnOf "__init__" "Rounds.__init__" (defArgs s_Rounds___init__) (defBody s_Rounds___init__) (defScope s_Rounds___init__) .none kV dc pm an cd ct), sl⟩) (c : PySem.W.codeIn K cd "Rounds.__init__" = true) (k : PySem.W.keepIn K (.ref f) = true) : ∃ fd, Fun K "__init__" "Rounds.__init__" s_Rounds___init__ f fd ∧ Binds K fd ["self", "many"] [] :=
  ⟨_, fun_mk (st := s_Rounds___init__) l c k, (fun_mk (st := s_Rounds___init__) l c k).binds (ps := ["self", "many"]) fun _ _ _ _ _ _ us hl => by obtain ⟨_, _, rfl⟩ := ar2 us hl; rfl⟩
theorem fm_Rounds_plus {K : PySem.W.Frag} {f : Addr} {od an : Option Addr} {sl : Array (Option Value)} {oc kV dc pm cd ct : Value} (l : K.lookup f = some ⟨oc, od, .func (PySem.W.fnOf "plus" "Rounds.plus" (defArgs s_Rounds_plus) (defBody s_Rounds_plus) (defScope s_Rounds_plus) .none kV dc pm an cd ct), sl⟩) (c : PySem.W.codeIn K cd "Rounds.plus" = true) (k : PySem.W.keepIn K (.ref f) = true) : ∃ fd, Fun K "plus" "Rounds.plus" s_Rounds_plus f fd ∧ Binds K fd ["self", "a", "b"] [] :=
  ⟨_, fun_mk (st := s_Rounds_plus) l c k, (fun_mk (st := s_Rounds_plus) l c k).binds (ps := ["self", "a", "b"]) fun _ _ _ _ _ _ us hl => by obtain ⟨_, _, _, rfl⟩ := ar3 us hl; rfl⟩
theorem fm_Rounds_times {K : PySem.W.Frag} {f : Addr} {od an : Option Addr} {sl : Array (Option Value)} {oc kV dc pm cd ct : Value} (l : K.lookup f = some ⟨oc, od, .func (PySem.W.fnOf "times" "Rounds.times" (defArgs s_Rounds_times) (defBody s_Rounds_times) (defScope s_Rounds_times) .none kV dc pm an cd ct), sl⟩) (c : PySem.W.codeIn K cd "Rounds.times" = true) (k : PySem.W.keepIn K (.ref f) = true) : ∃ fd, Fun K "times" "Rounds.times" s_Rounds_times f fd ∧ Binds K fd ["self", "a", "b"] [] :=
  ⟨_, fun_mk (st := s_Rounds_times) l c k, (fun_mk (st := s_Rounds_times) l c k).binds (ps := ["self", "a", "b"]) fun _ _ _ _ _ _ us hl => by obtain ⟨_, _, _, rfl⟩ := ar3 us hl; rfl⟩
theorem fm_Costs___init__ {K : PySem.W.Frag} {f : Addr} {od an : Option Addr} {sl : Array (Option Value)} {oc kV dc pm cd ct : Value} (l : K.lookup f = some ⟨oc, od, .func (PySem.W.fnOf "__init__" "Costs.__init__" (defArgs s_Costs___init__) (defBody s_Costs___init__) (defScope s_Costs___init__) .none kV dc pm an cd ct), sl⟩) (c : PySem.W.codeIn K cd "Costs.__init__" = true) (k : PySem.W.keepIn K (.ref f) = true) : ∃ fd, Fun K "__init__" "Costs.__init__" s_Costs___init__ f fd ∧ Binds K fd ["self"] [] :=
  ⟨_, fun_mk (st := s_Costs___init__) l c k, (fun_mk (st := s_Costs___init__) l c k).binds (ps := ["self"]) fun _ _ _ _ _ _ us hl => by obtain ⟨_, rfl⟩ := ar1 us hl; rfl⟩
theorem fm_Costs_plus {K : PySem.W.Frag} {f : Addr} {od an : Option Addr} {sl : Array (Option Value)} {oc kV dc pm cd ct : Value} (l : K.lookup f = some ⟨oc, od, .func (PySem.W.fnOf "plus" "Costs.plus" (defArgs s_Costs_plus) (defBody s_Costs_plus) (defScope s_Costs_plus) .none kV dc pm an cd ct), sl⟩) (c : PySem.W.codeIn K cd "Costs.plus" = true) (k : PySem.W.keepIn K (.ref f) = true) : ∃ fd, Fun K "plus" "Costs.plus" s_Costs_plus f fd ∧ Binds K fd ["self", "a", "b"] [] :=
  ⟨_, fun_mk (st := s_Costs_plus) l c k, (fun_mk (st := s_Costs_plus) l c k).binds (ps := ["self", "a", "b"]) fun _ _ _ _ _ _ us hl => by obtain ⟨_, _, _, rfl⟩ := ar3 us hl; rfl⟩
theorem fm_Costs_times {K : PySem.W.Frag} {f : Addr} {od an : Option Addr} {sl : Array (Option Value)} {oc kV dc pm cd ct : Value} (l : K.lookup f = some ⟨oc, od, .func (PySem.W.fnOf "times" "Costs.times" (defArgs s_Costs_times) (defBody s_Costs_times) (defScope s_Costs_times) .none kV dc pm an cd ct), sl⟩) (c : PySem.W.codeIn K cd "Costs.times" = true) (k : PySem.W.keepIn K (.ref f) = true) : ∃ fd, Fun K "times" "Costs.times" s_Costs_times f fd ∧ Binds K fd ["self", "a", "b"] [] :=
  ⟨_, fun_mk (st := s_Costs_times) l c k, (fun_mk (st := s_Costs_times) l c k).binds (ps := ["self", "a", "b"]) fun _ _ _ _ _ _ us hl => by obtain ⟨_, _, _, rfl⟩ := ar3 us hl; rfl⟩
theorem fm_Seers___init__ {K : PySem.W.Frag} {f : Addr} {od an : Option Addr} {sl : Array (Option Value)} {oc kV dc pm cd ct : Value} (l : K.lookup f = some ⟨oc, od, .func (PySem.W.fnOf "__init__" "Seers.__init__" (defArgs s_Seers___init__) (defBody s_Seers___init__) (defScope s_Seers___init__) .none kV dc pm an cd ct), sl⟩) (c : PySem.W.codeIn K cd "Seers.__init__" = true) (k : PySem.W.keepIn K (.ref f) = true) : ∃ fd, Fun K "__init__" "Seers.__init__" s_Seers___init__ f fd ∧ Binds K fd ["self", "people"] [] :=
  ⟨_, fun_mk (st := s_Seers___init__) l c k, (fun_mk (st := s_Seers___init__) l c k).binds (ps := ["self", "people"]) fun _ _ _ _ _ _ us hl => by obtain ⟨_, _, rfl⟩ := ar2 us hl; rfl⟩
theorem fm_Seers_plus {K : PySem.W.Frag} {f : Addr} {od an : Option Addr} {sl : Array (Option Value)} {oc kV dc pm cd ct : Value} (l : K.lookup f = some ⟨oc, od, .func (PySem.W.fnOf "plus" "Seers.plus" (defArgs s_Seers_plus) (defBody s_Seers_plus) (defScope s_Seers_plus) .none kV dc pm an cd ct), sl⟩) (c : PySem.W.codeIn K cd "Seers.plus" = true) (k : PySem.W.keepIn K (.ref f) = true) : ∃ fd, Fun K "plus" "Seers.plus" s_Seers_plus f fd ∧ Binds K fd ["self", "a", "b"] [] :=
  ⟨_, fun_mk (st := s_Seers_plus) l c k, (fun_mk (st := s_Seers_plus) l c k).binds (ps := ["self", "a", "b"]) fun _ _ _ _ _ _ us hl => by obtain ⟨_, _, _, rfl⟩ := ar3 us hl; rfl⟩
theorem fm_Seers_times {K : PySem.W.Frag} {f : Addr} {od an : Option Addr} {sl : Array (Option Value)} {oc kV dc pm cd ct : Value} (l : K.lookup f = some ⟨oc, od, .func (PySem.W.fnOf "times" "Seers.times" (defArgs s_Seers_times) (defBody s_Seers_times) (defScope s_Seers_times) .none kV dc pm an cd ct), sl⟩) (c : PySem.W.codeIn K cd "Seers.times" = true) (k : PySem.W.keepIn K (.ref f) = true) : ∃ fd, Fun K "times" "Seers.times" s_Seers_times f fd ∧ Binds K fd ["self", "a", "b"] [] :=
  ⟨_, fun_mk (st := s_Seers_times) l c k, (fun_mk (st := s_Seers_times) l c k).binds (ps := ["self", "a", "b"]) fun _ _ _ _ _ _ us hl => by obtain ⟨_, _, _, rfl⟩ := ar3 us hl; rfl⟩
theorem fm_Pairs___init__ {K : PySem.W.Frag} {f : Addr} {od an : Option Addr} {sl : Array (Option Value)} {oc kV dc pm cd ct : Value} (l : K.lookup f = some ⟨oc, od, .func (PySem.W.fnOf "__init__" "Pairs.__init__" (defArgs s_Pairs___init__) (defBody s_Pairs___init__) (defScope s_Pairs___init__) .none kV dc pm an cd ct), sl⟩) (c : PySem.W.codeIn K cd "Pairs.__init__" = true) (k : PySem.W.keepIn K (.ref f) = true) : ∃ fd, Fun K "__init__" "Pairs.__init__" s_Pairs___init__ f fd ∧ Binds K fd ["self", "left", "right"] [] :=
  ⟨_, fun_mk (st := s_Pairs___init__) l c k, (fun_mk (st := s_Pairs___init__) l c k).binds (ps := ["self", "left", "right"]) fun _ _ _ _ _ _ us hl => by obtain ⟨_, _, _, rfl⟩ := ar3 us hl; rfl⟩
theorem fm_Pairs_plus {K : PySem.W.Frag} {f : Addr} {od an : Option Addr} {sl : Array (Option Value)} {oc kV dc pm cd ct : Value} (l : K.lookup f = some ⟨oc, od, .func (PySem.W.fnOf "plus" "Pairs.plus" (defArgs s_Pairs_plus) (defBody s_Pairs_plus) (defScope s_Pairs_plus) .none kV dc pm an cd ct), sl⟩) (c : PySem.W.codeIn K cd "Pairs.plus" = true) (k : PySem.W.keepIn K (.ref f) = true) : ∃ fd, Fun K "plus" "Pairs.plus" s_Pairs_plus f fd ∧ Binds K fd ["self", "a", "b"] [] :=
  ⟨_, fun_mk (st := s_Pairs_plus) l c k, (fun_mk (st := s_Pairs_plus) l c k).binds (ps := ["self", "a", "b"]) fun _ _ _ _ _ _ us hl => by obtain ⟨_, _, _, rfl⟩ := ar3 us hl; rfl⟩
theorem fm_Pairs_times {K : PySem.W.Frag} {f : Addr} {od an : Option Addr} {sl : Array (Option Value)} {oc kV dc pm cd ct : Value} (l : K.lookup f = some ⟨oc, od, .func (PySem.W.fnOf "times" "Pairs.times" (defArgs s_Pairs_times) (defBody s_Pairs_times) (defScope s_Pairs_times) .none kV dc pm an cd ct), sl⟩) (c : PySem.W.codeIn K cd "Pairs.times" = true) (k : PySem.W.keepIn K (.ref f) = true) : ∃ fd, Fun K "times" "Pairs.times" s_Pairs_times f fd ∧ Binds K fd ["self", "a", "b"] [] :=
  ⟨_, fun_mk (st := s_Pairs_times) l c k, (fun_mk (st := s_Pairs_times) l c k).binds (ps := ["self", "a", "b"]) fun _ _ _ _ _ _ us hl => by obtain ⟨_, _, _, rfl⟩ := ar3 us hl; rfl⟩
theorem fm_law_at {K : PySem.W.Frag} {f : Addr} {od an : Option Addr} {sl : Array (Option Value)} {oc kV dc pm cd ct : Value} (l : K.lookup f = some ⟨oc, od, .func (PySem.W.fnOf "_law_at" "_law_at" (defArgs s_law_at) (defBody s_law_at) (defScope s_law_at) .none kV dc pm an cd ct), sl⟩) (c : PySem.W.codeIn K cd "_law_at" = true) (k : PySem.W.keepIn K (.ref f) = true) : ∃ fd, Fun K "_law_at" "_law_at" s_law_at f fd ∧ Binds K fd ["_law_script", "_law_k"] [] :=
  ⟨_, fun_mk (st := s_law_at) l c k, (fun_mk (st := s_law_at) l c k).binds (ps := ["_law_script", "_law_k"]) fun _ _ _ _ _ _ us hl => by obtain ⟨_, _, rfl⟩ := ar2 us hl; rfl⟩
theorem fm_law_same {K : PySem.W.Frag} {f : Addr} {od an : Option Addr} {sl : Array (Option Value)} {oc kV dc pm cd ct : Value} (l : K.lookup f = some ⟨oc, od, .func (PySem.W.fnOf "_law_same" "_law_same" (defArgs s_law_same) (defBody s_law_same) (defScope s_law_same) .none kV dc pm an cd ct), sl⟩) (c : PySem.W.codeIn K cd "_law_same" = true) (k : PySem.W.keepIn K (.ref f) = true) : ∃ fd, Fun K "_law_same" "_law_same" s_law_same f fd ∧ Binds K fd ["_law_found", "_law_due"] [] :=
  ⟨_, fun_mk (st := s_law_same) l c k, (fun_mk (st := s_law_same) l c k).binds (ps := ["_law_found", "_law_due"]) fun _ _ _ _ _ _ us hl => by obtain ⟨_, _, rfl⟩ := ar2 us hl; rfl⟩
theorem fm_law_number {K : PySem.W.Frag} {f : Addr} {od an : Option Addr} {sl : Array (Option Value)} {oc kV dc pm cd ct : Value} (l : K.lookup f = some ⟨oc, od, .func (PySem.W.fnOf "_law_number" "_law_number" (defArgs s_law_number) (defBody s_law_number) (defScope s_law_number) .none kV dc pm an cd ct), sl⟩) (c : PySem.W.codeIn K cd "_law_number" = true) (k : PySem.W.keepIn K (.ref f) = true) : ∃ fd, Fun K "_law_number" "_law_number" s_law_number f fd ∧ Binds K fd ["_law_cell"] [] :=
  ⟨_, fun_mk (st := s_law_number) l c k, (fun_mk (st := s_law_number) l c k).binds (ps := ["_law_cell"]) fun _ _ _ _ _ _ us hl => by obtain ⟨_, rfl⟩ := ar1 us hl; rfl⟩
theorem fm_law_name {K : PySem.W.Frag} {f : Addr} {od an : Option Addr} {sl : Array (Option Value)} {oc kV dc pm cd ct : Value} (l : K.lookup f = some ⟨oc, od, .func (PySem.W.fnOf "_law_name" "_law_name" (defArgs s_law_name) (defBody s_law_name) (defScope s_law_name) .none kV dc pm an cd ct), sl⟩) (c : PySem.W.codeIn K cd "_law_name" = true) (k : PySem.W.keepIn K (.ref f) = true) : ∃ fd, Fun K "_law_name" "_law_name" s_law_name f fd ∧ Binds K fd ["_law_style", "_law_k"] [] :=
  ⟨_, fun_mk (st := s_law_name) l c k, (fun_mk (st := s_law_name) l c k).binds (ps := ["_law_style", "_law_k"]) fun _ _ _ _ _ _ us hl => by obtain ⟨_, _, rfl⟩ := ar2 us hl; rfl⟩
theorem fm_law_some {K : PySem.W.Frag} {f : Addr} {od an : Option Addr} {sl : Array (Option Value)} {oc kV dc pm cd ct : Value} (l : K.lookup f = some ⟨oc, od, .func (PySem.W.fnOf "_law_some" "_law_some" (defArgs s_law_some) (defBody s_law_some) (defScope s_law_some) .none kV dc pm an cd ct), sl⟩) (c : PySem.W.codeIn K cd "_law_some" = true) (k : PySem.W.keepIn K (.ref f) = true) : ∃ fd, Fun K "_law_some" "_law_some" s_law_some f fd ∧ Binds K fd ["_law_row", "_law_by"] [] :=
  ⟨_, fun_mk (st := s_law_some) l c k, (fun_mk (st := s_law_some) l c k).binds (ps := ["_law_row", "_law_by"]) fun _ _ _ _ _ _ us hl => by obtain ⟨_, _, rfl⟩ := ar2 us hl; rfl⟩
theorem fm_law_cost {K : PySem.W.Frag} {f : Addr} {od an : Option Addr} {sl : Array (Option Value)} {oc kV dc pm cd ct : Value} (l : K.lookup f = some ⟨oc, od, .func (PySem.W.fnOf "_law_cost" "_law_cost" (defArgs s_law_cost) (defBody s_law_cost) (defScope s_law_cost) .none kV dc pm an cd ct), sl⟩) (c : PySem.W.codeIn K cd "_law_cost" = true) (k : PySem.W.keepIn K (.ref f) = true) : ∃ fd, Fun K "_law_cost" "_law_cost" s_law_cost f fd ∧ Binds K fd ["_law_cell"] [] :=
  ⟨_, fun_mk (st := s_law_cost) l c k, (fun_mk (st := s_law_cost) l c k).binds (ps := ["_law_cell"]) fun _ _ _ _ _ _ us hl => by obtain ⟨_, rfl⟩ := ar1 us hl; rfl⟩
theorem fm_law_lesser {K : PySem.W.Frag} {f : Addr} {od an : Option Addr} {sl : Array (Option Value)} {oc kV dc pm cd ct : Value} (l : K.lookup f = some ⟨oc, od, .func (PySem.W.fnOf "_law_lesser" "_law_lesser" (defArgs s_law_lesser) (defBody s_law_lesser) (defScope s_law_lesser) .none kV dc pm an cd ct), sl⟩) (c : PySem.W.codeIn K cd "_law_lesser" = true) (k : PySem.W.keepIn K (.ref f) = true) : ∃ fd, Fun K "_law_lesser" "_law_lesser" s_law_lesser f fd ∧ Binds K fd ["_law_a", "_law_b"] [] :=
  ⟨_, fun_mk (st := s_law_lesser) l c k, (fun_mk (st := s_law_lesser) l c k).binds (ps := ["_law_a", "_law_b"]) fun _ _ _ _ _ _ us hl => by obtain ⟨_, _, rfl⟩ := ar2 us hl; rfl⟩
theorem fm_law_summed {K : PySem.W.Frag} {f : Addr} {od an : Option Addr} {sl : Array (Option Value)} {oc kV dc pm cd ct : Value} (l : K.lookup f = some ⟨oc, od, .func (PySem.W.fnOf "_law_summed" "_law_summed" (defArgs s_law_summed) (defBody s_law_summed) (defScope s_law_summed) .none kV dc pm an cd ct), sl⟩) (c : PySem.W.codeIn K cd "_law_summed" = true) (k : PySem.W.keepIn K (.ref f) = true) : ∃ fd, Fun K "_law_summed" "_law_summed" s_law_summed f fd ∧ Binds K fd ["_law_a", "_law_b"] [] :=
  ⟨_, fun_mk (st := s_law_summed) l c k, (fun_mk (st := s_law_summed) l c k).binds (ps := ["_law_a", "_law_b"]) fun _ _ _ _ _ _ us hl => by obtain ⟨_, _, rfl⟩ := ar2 us hl; rfl⟩
theorem fm_law_two {K : PySem.W.Frag} {f : Addr} {od an : Option Addr} {sl : Array (Option Value)} {oc kV dc pm cd ct : Value} (l : K.lookup f = some ⟨oc, od, .func (PySem.W.fnOf "_law_two" "_law_two" (defArgs s_law_two) (defBody s_law_two) (defScope s_law_two) .none kV dc pm an cd ct), sl⟩) (c : PySem.W.codeIn K cd "_law_two" = true) (k : PySem.W.keepIn K (.ref f) = true) : ∃ fd, Fun K "_law_two" "_law_two" s_law_two f fd ∧ Binds K fd ["_law_way", "_law_many", "_law_a", "_law_b"] [] :=
  ⟨_, fun_mk (st := s_law_two) l c k, (fun_mk (st := s_law_two) l c k).binds (ps := ["_law_way", "_law_many", "_law_a", "_law_b"]) fun _ _ _ _ _ _ us hl => by obtain ⟨_, _, _, _, rfl⟩ := ar4 us hl; rfl⟩
theorem fm_law_seen {K : PySem.W.Frag} {f : Addr} {od an : Option Addr} {sl : Array (Option Value)} {oc kV dc pm cd ct : Value} (l : K.lookup f = some ⟨oc, od, .func (PySem.W.fnOf "_law_seen" "_law_seen" (defArgs s_law_seen) (defBody s_law_seen) (defScope s_law_seen) .none kV dc pm an cd ct), sl⟩) (c : PySem.W.codeIn K cd "_law_seen" = true) (k : PySem.W.keepIn K (.ref f) = true) : ∃ fd, Fun K "_law_seen" "_law_seen" s_law_seen f fd ∧ Binds K fd ["_law_way", "_law_people", "_law_a", "_law_b"] [] :=
  ⟨_, fun_mk (st := s_law_seen) l c k, (fun_mk (st := s_law_seen) l c k).binds (ps := ["_law_way", "_law_people", "_law_a", "_law_b"]) fun _ _ _ _ _ _ us hl => by obtain ⟨_, _, _, _, rfl⟩ := ar4 us hl; rfl⟩
theorem fm_law {K : PySem.W.Frag} {f : Addr} {od an : Option Addr} {sl : Array (Option Value)} {oc kV dc pm cd ct : Value} (l : K.lookup f = some ⟨oc, od, .func (PySem.W.fnOf "law" "law" (defArgs s_law) (defBody s_law) (defScope s_law) .none kV dc pm an cd ct), sl⟩) (c : PySem.W.codeIn K cd "law" = true) (k : PySem.W.keepIn K (.ref f) = true) : ∃ fd, Fun K "law" "law" s_law f fd ∧ Binds K fd ["_law_script"] [] :=
  ⟨_, fun_mk (st := s_law) l c k, (fun_mk (st := s_law) l c k).binds (ps := ["_law_script"]) fun _ _ _ _ _ _ us hl => by obtain ⟨_, rfl⟩ := ar1 us hl; rfl⟩
theorem txt_mk {K : PySem.W.Frag} {h : Heap} {mg : Str → Option Value} (X : K.In h) (G : h.Ns mainGlobals mg)
    {C_Truths : Addr}
    {C_Counts : Addr}
    {C_Rounds : Addr}
    {C_Costs : Addr}
    {C_Seers : Addr}
    {C_Pairs : Addr}
    {X_NoWay : Addr}
    {f_is_whole : Addr}
    {odis_whole anis_whole : Option Addr} {slis_whole : Array (Option Value)} {ocis_whole kVis_whole dcis_whole pmis_whole cdis_whole ctis_whole : Value}
    {f_Truths___init__ : Addr}
    {odTruths___init__ anTruths___init__ : Option Addr} {slTruths___init__ : Array (Option Value)} {ocTruths___init__ kVTruths___init__ dcTruths___init__ pmTruths___init__ cdTruths___init__ ctTruths___init__ : Value}
    {f_Truths_plus : Addr}
    {odTruths_plus anTruths_plus : Option Addr} {slTruths_plus : Array (Option Value)} {ocTruths_plus kVTruths_plus dcTruths_plus pmTruths_plus cdTruths_plus ctTruths_plus : Value}
    {f_Truths_times : Addr}
    {odTruths_times anTruths_times : Option Addr} {slTruths_times : Array (Option Value)} {ocTruths_times kVTruths_times dcTruths_times pmTruths_times cdTruths_times ctTruths_times : Value}
    {f_Counts___init__ : Addr}
    {odCounts___init__ anCounts___init__ : Option Addr} {slCounts___init__ : Array (Option Value)} {ocCounts___init__ kVCounts___init__ dcCounts___init__ pmCounts___init__ cdCounts___init__ ctCounts___init__ : Value}
    {f_Counts_plus : Addr}
    {odCounts_plus anCounts_plus : Option Addr} {slCounts_plus : Array (Option Value)} {ocCounts_plus kVCounts_plus dcCounts_plus pmCounts_plus cdCounts_plus ctCounts_plus : Value}
    {f_Counts_times : Addr}
    {odCounts_times anCounts_times : Option Addr} {slCounts_times : Array (Option Value)} {ocCounts_times kVCounts_times dcCounts_times pmCounts_times cdCounts_times ctCounts_times : Value}
    {f_Rounds___init__ : Addr}
    {odRounds___init__ anRounds___init__ : Option Addr} {slRounds___init__ : Array (Option Value)} {ocRounds___init__ kVRounds___init__ dcRounds___init__ pmRounds___init__ cdRounds___init__ ctRounds___init__ : Value}
    {f_Rounds_plus : Addr}
    {odRounds_plus anRounds_plus : Option Addr} {slRounds_plus : Array (Option Value)} {ocRounds_plus kVRounds_plus dcRounds_plus pmRounds_plus cdRounds_plus ctRounds_plus : Value}
    {f_Rounds_times : Addr}
    {odRounds_times anRounds_times : Option Addr} {slRounds_times : Array (Option Value)} {ocRounds_times kVRounds_times dcRounds_times pmRounds_times cdRounds_times ctRounds_times : Value}
    {f_Costs___init__ : Addr}
    {odCosts___init__ anCosts___init__ : Option Addr} {slCosts___init__ : Array (Option Value)} {ocCosts___init__ kVCosts___init__ dcCosts___init__ pmCosts___init__ cdCosts___init__ ctCosts___init__ : Value}
    {f_Costs_plus : Addr}
    {odCosts_plus anCosts_plus : Option Addr} {slCosts_plus : Array (Option Value)} {ocCosts_plus kVCosts_plus dcCosts_plus pmCosts_plus cdCosts_plus ctCosts_plus : Value}
    {f_Costs_times : Addr}
    {odCosts_times anCosts_times : Option Addr} {slCosts_times : Array (Option Value)} {ocCosts_times kVCosts_times dcCosts_times pmCosts_times cdCosts_times ctCosts_times : Value}
    {f_Seers___init__ : Addr}
    {odSeers___init__ anSeers___init__ : Option Addr} {slSeers___init__ : Array (Option Value)} {ocSeers___init__ kVSeers___init__ dcSeers___init__ pmSeers___init__ cdSeers___init__ ctSeers___init__ : Value}
    {f_Seers_plus : Addr}
    {odSeers_plus anSeers_plus : Option Addr} {slSeers_plus : Array (Option Value)} {ocSeers_plus kVSeers_plus dcSeers_plus pmSeers_plus cdSeers_plus ctSeers_plus : Value}
    {f_Seers_times : Addr}
    {odSeers_times anSeers_times : Option Addr} {slSeers_times : Array (Option Value)} {ocSeers_times kVSeers_times dcSeers_times pmSeers_times cdSeers_times ctSeers_times : Value}
    {f_Pairs___init__ : Addr}
    {odPairs___init__ anPairs___init__ : Option Addr} {slPairs___init__ : Array (Option Value)} {ocPairs___init__ kVPairs___init__ dcPairs___init__ pmPairs___init__ cdPairs___init__ ctPairs___init__ : Value}
    {f_Pairs_plus : Addr}
    {odPairs_plus anPairs_plus : Option Addr} {slPairs_plus : Array (Option Value)} {ocPairs_plus kVPairs_plus dcPairs_plus pmPairs_plus cdPairs_plus ctPairs_plus : Value}
    {f_Pairs_times : Addr}
    {odPairs_times anPairs_times : Option Addr} {slPairs_times : Array (Option Value)} {ocPairs_times kVPairs_times dcPairs_times pmPairs_times cdPairs_times ctPairs_times : Value}
    {f_law_at : Addr}
    {odlaw_at anlaw_at : Option Addr} {sllaw_at : Array (Option Value)} {oclaw_at kVlaw_at dclaw_at pmlaw_at cdlaw_at ctlaw_at : Value}
    {f_law_same : Addr}
    {odlaw_same anlaw_same : Option Addr} {sllaw_same : Array (Option Value)} {oclaw_same kVlaw_same dclaw_same pmlaw_same cdlaw_same ctlaw_same : Value}
    {f_law_number : Addr}
    {odlaw_number anlaw_number : Option Addr} {sllaw_number : Array (Option Value)} {oclaw_number kVlaw_number dclaw_number pmlaw_number cdlaw_number ctlaw_number : Value}
    {f_law_name : Addr}
    {odlaw_name anlaw_name : Option Addr} {sllaw_name : Array (Option Value)} {oclaw_name kVlaw_name dclaw_name pmlaw_name cdlaw_name ctlaw_name : Value}
    {f_law_some : Addr}
    {odlaw_some anlaw_some : Option Addr} {sllaw_some : Array (Option Value)} {oclaw_some kVlaw_some dclaw_some pmlaw_some cdlaw_some ctlaw_some : Value}
    {f_law_cost : Addr}
    {odlaw_cost anlaw_cost : Option Addr} {sllaw_cost : Array (Option Value)} {oclaw_cost kVlaw_cost dclaw_cost pmlaw_cost cdlaw_cost ctlaw_cost : Value}
    {f_law_lesser : Addr}
    {odlaw_lesser anlaw_lesser : Option Addr} {sllaw_lesser : Array (Option Value)} {oclaw_lesser kVlaw_lesser dclaw_lesser pmlaw_lesser cdlaw_lesser ctlaw_lesser : Value}
    {f_law_summed : Addr}
    {odlaw_summed anlaw_summed : Option Addr} {sllaw_summed : Array (Option Value)} {oclaw_summed kVlaw_summed dclaw_summed pmlaw_summed cdlaw_summed ctlaw_summed : Value}
    {f_law_two : Addr}
    {odlaw_two anlaw_two : Option Addr} {sllaw_two : Array (Option Value)} {oclaw_two kVlaw_two dclaw_two pmlaw_two cdlaw_two ctlaw_two : Value}
    {f_law_seen : Addr}
    {odlaw_seen anlaw_seen : Option Addr} {sllaw_seen : Array (Option Value)} {oclaw_seen kVlaw_seen dclaw_seen pmlaw_seen cdlaw_seen ctlaw_seen : Value}
    {f_law : Addr}
    {odlaw anlaw : Option Addr} {sllaw : Array (Option Value)} {oclaw kVlaw dclaw pmlaw cdlaw ctlaw : Value}
    (aC_Truths : PySem.W.nsIn K mainGlobals "Truths" = some (some (.ref C_Truths)))
    (pgC_Truths : PySem.W.plainGet K C_Truths Str.empty = true)
    (hdC_Truths : PySem.W.hasDictIn K C_Truths = true)
    (poC_Truths : PySem.W.plainOver K C_Truths = true)
    (saC_Truths : PySem.W.findIn K (.ref C_Truths) "__setattr__" = some (some (.builtin "object.__setattr__")))
    (mkC_Truths : PySem.W.makesIn K C_Truths = true)
    (kcC_Truths : PySem.W.keepIn K (.ref C_Truths) = true)
    (nC_Truthsleft : PySem.W.findIn K (.ref C_Truths) "left" = some none)
    (nC_Truthsmany : PySem.W.findIn K (.ref C_Truths) "many" = some none)
    (nC_Truthsnought : PySem.W.findIn K (.ref C_Truths) "nought" = some none)
    (nC_Truthsone : PySem.W.findIn K (.ref C_Truths) "one" = some none)
    (nC_Truthsright : PySem.W.findIn K (.ref C_Truths) "right" = some none)
    (aC_Counts : PySem.W.nsIn K mainGlobals "Counts" = some (some (.ref C_Counts)))
    (pgC_Counts : PySem.W.plainGet K C_Counts Str.empty = true)
    (hdC_Counts : PySem.W.hasDictIn K C_Counts = true)
    (poC_Counts : PySem.W.plainOver K C_Counts = true)
    (saC_Counts : PySem.W.findIn K (.ref C_Counts) "__setattr__" = some (some (.builtin "object.__setattr__")))
    (mkC_Counts : PySem.W.makesIn K C_Counts = true)
    (kcC_Counts : PySem.W.keepIn K (.ref C_Counts) = true)
    (nC_Countsleft : PySem.W.findIn K (.ref C_Counts) "left" = some none)
    (nC_Countsmany : PySem.W.findIn K (.ref C_Counts) "many" = some none)
    (nC_Countsnought : PySem.W.findIn K (.ref C_Counts) "nought" = some none)
    (nC_Countsone : PySem.W.findIn K (.ref C_Counts) "one" = some none)
    (nC_Countsright : PySem.W.findIn K (.ref C_Counts) "right" = some none)
    (aC_Rounds : PySem.W.nsIn K mainGlobals "Rounds" = some (some (.ref C_Rounds)))
    (pgC_Rounds : PySem.W.plainGet K C_Rounds Str.empty = true)
    (hdC_Rounds : PySem.W.hasDictIn K C_Rounds = true)
    (poC_Rounds : PySem.W.plainOver K C_Rounds = true)
    (saC_Rounds : PySem.W.findIn K (.ref C_Rounds) "__setattr__" = some (some (.builtin "object.__setattr__")))
    (mkC_Rounds : PySem.W.makesIn K C_Rounds = true)
    (kcC_Rounds : PySem.W.keepIn K (.ref C_Rounds) = true)
    (nC_Roundsleft : PySem.W.findIn K (.ref C_Rounds) "left" = some none)
    (nC_Roundsmany : PySem.W.findIn K (.ref C_Rounds) "many" = some none)
    (nC_Roundsnought : PySem.W.findIn K (.ref C_Rounds) "nought" = some none)
    (nC_Roundsone : PySem.W.findIn K (.ref C_Rounds) "one" = some none)
    (nC_Roundsright : PySem.W.findIn K (.ref C_Rounds) "right" = some none)
    (aC_Costs : PySem.W.nsIn K mainGlobals "Costs" = some (some (.ref C_Costs)))
    (pgC_Costs : PySem.W.plainGet K C_Costs Str.empty = true)
    (hdC_Costs : PySem.W.hasDictIn K C_Costs = true)
    (poC_Costs : PySem.W.plainOver K C_Costs = true)
    (saC_Costs : PySem.W.findIn K (.ref C_Costs) "__setattr__" = some (some (.builtin "object.__setattr__")))
    (mkC_Costs : PySem.W.makesIn K C_Costs = true)
    (kcC_Costs : PySem.W.keepIn K (.ref C_Costs) = true)
    (nC_Costsleft : PySem.W.findIn K (.ref C_Costs) "left" = some none)
    (nC_Costsmany : PySem.W.findIn K (.ref C_Costs) "many" = some none)
    (nC_Costsnought : PySem.W.findIn K (.ref C_Costs) "nought" = some none)
    (nC_Costsone : PySem.W.findIn K (.ref C_Costs) "one" = some none)
    (nC_Costsright : PySem.W.findIn K (.ref C_Costs) "right" = some none)
    (aC_Seers : PySem.W.nsIn K mainGlobals "Seers" = some (some (.ref C_Seers)))
    (pgC_Seers : PySem.W.plainGet K C_Seers Str.empty = true)
    (hdC_Seers : PySem.W.hasDictIn K C_Seers = true)
    (poC_Seers : PySem.W.plainOver K C_Seers = true)
    (saC_Seers : PySem.W.findIn K (.ref C_Seers) "__setattr__" = some (some (.builtin "object.__setattr__")))
    (mkC_Seers : PySem.W.makesIn K C_Seers = true)
    (kcC_Seers : PySem.W.keepIn K (.ref C_Seers) = true)
    (nC_Seersleft : PySem.W.findIn K (.ref C_Seers) "left" = some none)
    (nC_Seersmany : PySem.W.findIn K (.ref C_Seers) "many" = some none)
    (nC_Seersnought : PySem.W.findIn K (.ref C_Seers) "nought" = some none)
    (nC_Seersone : PySem.W.findIn K (.ref C_Seers) "one" = some none)
    (nC_Seersright : PySem.W.findIn K (.ref C_Seers) "right" = some none)
    (aC_Pairs : PySem.W.nsIn K mainGlobals "Pairs" = some (some (.ref C_Pairs)))
    (pgC_Pairs : PySem.W.plainGet K C_Pairs Str.empty = true)
    (hdC_Pairs : PySem.W.hasDictIn K C_Pairs = true)
    (poC_Pairs : PySem.W.plainOver K C_Pairs = true)
    (saC_Pairs : PySem.W.findIn K (.ref C_Pairs) "__setattr__" = some (some (.builtin "object.__setattr__")))
    (mkC_Pairs : PySem.W.makesIn K C_Pairs = true)
    (kcC_Pairs : PySem.W.keepIn K (.ref C_Pairs) = true)
    (nC_Pairsleft : PySem.W.findIn K (.ref C_Pairs) "left" = some none)
    (nC_Pairsmany : PySem.W.findIn K (.ref C_Pairs) "many" = some none)
    (nC_Pairsnought : PySem.W.findIn K (.ref C_Pairs) "nought" = some none)
    (nC_Pairsone : PySem.W.findIn K (.ref C_Pairs) "one" = some none)
    (nC_Pairsright : PySem.W.findIn K (.ref C_Pairs) "right" = some none)
    (aX_NoWay : PySem.W.nsIn K mainGlobals "NoWay" = some (some (.ref X_NoWay)))
    (xiX_NoWay : PySem.W.excIn K X_NoWay [.type "ValueError", .type "Exception", .type "BaseException", .type "object"] "ValueError.__new__" = true)
    (af_is_whole : PySem.W.nsIn K mainGlobals "is_whole" = some (some (.ref f_is_whole)))
    (lf_is_whole : K.lookup f_is_whole = some ⟨ocis_whole, odis_whole, .func (PySem.W.fnOf "is_whole" "is_whole" (defArgs s_is_whole) (defBody s_is_whole) (defScope s_is_whole) .none kVis_whole dcis_whole pmis_whole anis_whole cdis_whole ctis_whole), slis_whole⟩)
    (cf_is_whole : PySem.W.codeIn K cdis_whole "is_whole" = true)
    (kf_is_whole : PySem.W.keepIn K (.ref f_is_whole) = true)
    (af_Truths___init__ : PySem.W.findIn K (.ref C_Truths) "__init__" = some (some (.ref f_Truths___init__)))
    (if_Truths___init__ : PySem.W.isFn K (.ref f_Truths___init__) = true)
    (lf_Truths___init__ : K.lookup f_Truths___init__ = some ⟨ocTruths___init__, odTruths___init__, .func (PySem.W.fnOf "__init__" "Truths.__init__" (defArgs s_Truths___init__) (defBody s_Truths___init__) (defScope s_Truths___init__) .none kVTruths___init__ dcTruths___init__ pmTruths___init__ anTruths___init__ cdTruths___init__ ctTruths___init__), slTruths___init__⟩)
    (cf_Truths___init__ : PySem.W.codeIn K cdTruths___init__ "Truths.__init__" = true)
    (kf_Truths___init__ : PySem.W.keepIn K (.ref f_Truths___init__) = true)
    (af_Truths_plus : PySem.W.findIn K (.ref C_Truths) "plus" = some (some (.ref f_Truths_plus)))
    (if_Truths_plus : PySem.W.isFn K (.ref f_Truths_plus) = true)
    (lf_Truths_plus : K.lookup f_Truths_plus = some ⟨ocTruths_plus, odTruths_plus, .func (PySem.W.fnOf "plus" "Truths.plus" (defArgs s_Truths_plus) (defBody s_Truths_plus) (defScope s_Truths_plus) .none kVTruths_plus dcTruths_plus pmTruths_plus anTruths_plus cdTruths_plus ctTruths_plus), slTruths_plus⟩)
    (cf_Truths_plus : PySem.W.codeIn K cdTruths_plus "Truths.plus" = true)
    (kf_Truths_plus : PySem.W.keepIn K (.ref f_Truths_plus) = true)
    (af_Truths_times : PySem.W.findIn K (.ref C_Truths) "times" = some (some (.ref f_Truths_times)))
    (if_Truths_times : PySem.W.isFn K (.ref f_Truths_times) = true)
    (lf_Truths_times : K.lookup f_Truths_times = some ⟨ocTruths_times, odTruths_times, .func (PySem.W.fnOf "times" "Truths.times" (defArgs s_Truths_times) (defBody s_Truths_times) (defScope s_Truths_times) .none kVTruths_times dcTruths_times pmTruths_times anTruths_times cdTruths_times ctTruths_times), slTruths_times⟩)
    (cf_Truths_times : PySem.W.codeIn K cdTruths_times "Truths.times" = true)
    (kf_Truths_times : PySem.W.keepIn K (.ref f_Truths_times) = true)
    (af_Counts___init__ : PySem.W.findIn K (.ref C_Counts) "__init__" = some (some (.ref f_Counts___init__)))
    (if_Counts___init__ : PySem.W.isFn K (.ref f_Counts___init__) = true)
    (lf_Counts___init__ : K.lookup f_Counts___init__ = some ⟨ocCounts___init__, odCounts___init__, .func (PySem.W.fnOf "__init__" "Counts.__init__" (defArgs s_Counts___init__) (defBody s_Counts___init__) (defScope s_Counts___init__) .none kVCounts___init__ dcCounts___init__ pmCounts___init__ anCounts___init__ cdCounts___init__ ctCounts___init__), slCounts___init__⟩)
    (cf_Counts___init__ : PySem.W.codeIn K cdCounts___init__ "Counts.__init__" = true)
    (kf_Counts___init__ : PySem.W.keepIn K (.ref f_Counts___init__) = true)
    (af_Counts_plus : PySem.W.findIn K (.ref C_Counts) "plus" = some (some (.ref f_Counts_plus)))
    (if_Counts_plus : PySem.W.isFn K (.ref f_Counts_plus) = true)
    (lf_Counts_plus : K.lookup f_Counts_plus = some ⟨ocCounts_plus, odCounts_plus, .func (PySem.W.fnOf "plus" "Counts.plus" (defArgs s_Counts_plus) (defBody s_Counts_plus) (defScope s_Counts_plus) .none kVCounts_plus dcCounts_plus pmCounts_plus anCounts_plus cdCounts_plus ctCounts_plus), slCounts_plus⟩)
    (cf_Counts_plus : PySem.W.codeIn K cdCounts_plus "Counts.plus" = true)
    (kf_Counts_plus : PySem.W.keepIn K (.ref f_Counts_plus) = true)
    (af_Counts_times : PySem.W.findIn K (.ref C_Counts) "times" = some (some (.ref f_Counts_times)))
    (if_Counts_times : PySem.W.isFn K (.ref f_Counts_times) = true)
    (lf_Counts_times : K.lookup f_Counts_times = some ⟨ocCounts_times, odCounts_times, .func (PySem.W.fnOf "times" "Counts.times" (defArgs s_Counts_times) (defBody s_Counts_times) (defScope s_Counts_times) .none kVCounts_times dcCounts_times pmCounts_times anCounts_times cdCounts_times ctCounts_times), slCounts_times⟩)
    (cf_Counts_times : PySem.W.codeIn K cdCounts_times "Counts.times" = true)
    (kf_Counts_times : PySem.W.keepIn K (.ref f_Counts_times) = true)
    (af_Rounds___init__ : PySem.W.findIn K (.ref C_Rounds) "__init__" = some (some (.ref f_Rounds___init__)))
    (if_Rounds___init__ : PySem.W.isFn K (.ref f_Rounds___init__) = true)
    (lf_Rounds___init__ : K.lookup f_Rounds___init__ = some ⟨ocRounds___init__, odRounds___init__, .func (PySem.W.fnOf "__init__" "Rounds.__init__" (defArgs s_Rounds___init__) (defBody s_Rounds___init__) (defScope s_Rounds___init__) .none kVRounds___init__ dcRounds___init__ pmRounds___init__ anRounds___init__ cdRounds___init__ ctRounds___init__), slRounds___init__⟩)
    (cf_Rounds___init__ : PySem.W.codeIn K cdRounds___init__ "Rounds.__init__" = true)
    (kf_Rounds___init__ : PySem.W.keepIn K (.ref f_Rounds___init__) = true)
    (af_Rounds_plus : PySem.W.findIn K (.ref C_Rounds) "plus" = some (some (.ref f_Rounds_plus)))
    (if_Rounds_plus : PySem.W.isFn K (.ref f_Rounds_plus) = true)
    (lf_Rounds_plus : K.lookup f_Rounds_plus = some ⟨ocRounds_plus, odRounds_plus, .func (PySem.W.fnOf "plus" "Rounds.plus" (defArgs s_Rounds_plus) (defBody s_Rounds_plus) (defScope s_Rounds_plus) .none kVRounds_plus dcRounds_plus pmRounds_plus anRounds_plus cdRounds_plus ctRounds_plus), slRounds_plus⟩)
    (cf_Rounds_plus : PySem.W.codeIn K cdRounds_plus "Rounds.plus" = true)
    (kf_Rounds_plus : PySem.W.keepIn K (.ref f_Rounds_plus) = true)
    (af_Rounds_times : PySem.W.findIn K (.ref C_Rounds) "times" = some (some (.ref f_Rounds_times)))
    (if_Rounds_times : PySem.W.isFn K (.ref f_Rounds_times) = true)
    (lf_Rounds_times : K.lookup f_Rounds_times = some ⟨ocRounds_times, odRounds_times, .func (PySem.W.fnOf "times" "Rounds.times" (defArgs s_Rounds_times) (defBody s_Rounds_times) (defScope s_Rounds_times) .none kVRounds_times dcRounds_times pmRounds_times anRounds_times cdRounds_times ctRounds_times), slRounds_times⟩)
    (cf_Rounds_times : PySem.W.codeIn K cdRounds_times "Rounds.times" = true)
    (kf_Rounds_times : PySem.W.keepIn K (.ref f_Rounds_times) = true)
    (af_Costs___init__ : PySem.W.findIn K (.ref C_Costs) "__init__" = some (some (.ref f_Costs___init__)))
    (if_Costs___init__ : PySem.W.isFn K (.ref f_Costs___init__) = true)
    (lf_Costs___init__ : K.lookup f_Costs___init__ = some ⟨ocCosts___init__, odCosts___init__, .func (PySem.W.fnOf "__init__" "Costs.__init__" (defArgs s_Costs___init__) (defBody s_Costs___init__) (defScope s_Costs___init__) .none kVCosts___init__ dcCosts___init__ pmCosts___init__ anCosts___init__ cdCosts___init__ ctCosts___init__), slCosts___init__⟩)
    (cf_Costs___init__ : PySem.W.codeIn K cdCosts___init__ "Costs.__init__" = true)
    (kf_Costs___init__ : PySem.W.keepIn K (.ref f_Costs___init__) = true)
    (af_Costs_plus : PySem.W.findIn K (.ref C_Costs) "plus" = some (some (.ref f_Costs_plus)))
    (if_Costs_plus : PySem.W.isFn K (.ref f_Costs_plus) = true)
    (lf_Costs_plus : K.lookup f_Costs_plus = some ⟨ocCosts_plus, odCosts_plus, .func (PySem.W.fnOf "plus" "Costs.plus" (defArgs s_Costs_plus) (defBody s_Costs_plus) (defScope s_Costs_plus) .none kVCosts_plus dcCosts_plus pmCosts_plus anCosts_plus cdCosts_plus ctCosts_plus), slCosts_plus⟩)
    (cf_Costs_plus : PySem.W.codeIn K cdCosts_plus "Costs.plus" = true)
    (kf_Costs_plus : PySem.W.keepIn K (.ref f_Costs_plus) = true)
    (af_Costs_times : PySem.W.findIn K (.ref C_Costs) "times" = some (some (.ref f_Costs_times)))
    (if_Costs_times : PySem.W.isFn K (.ref f_Costs_times) = true)
    (lf_Costs_times : K.lookup f_Costs_times = some ⟨ocCosts_times, odCosts_times, .func (PySem.W.fnOf "times" "Costs.times" (defArgs s_Costs_times) (defBody s_Costs_times) (defScope s_Costs_times) .none kVCosts_times dcCosts_times pmCosts_times anCosts_times cdCosts_times ctCosts_times), slCosts_times⟩)
    (cf_Costs_times : PySem.W.codeIn K cdCosts_times "Costs.times" = true)
    (kf_Costs_times : PySem.W.keepIn K (.ref f_Costs_times) = true)
    (af_Seers___init__ : PySem.W.findIn K (.ref C_Seers) "__init__" = some (some (.ref f_Seers___init__)))
    (if_Seers___init__ : PySem.W.isFn K (.ref f_Seers___init__) = true)
    (lf_Seers___init__ : K.lookup f_Seers___init__ = some ⟨ocSeers___init__, odSeers___init__, .func (PySem.W.fnOf "__init__" "Seers.__init__" (defArgs s_Seers___init__) (defBody s_Seers___init__) (defScope s_Seers___init__) .none kVSeers___init__ dcSeers___init__ pmSeers___init__ anSeers___init__ cdSeers___init__ ctSeers___init__), slSeers___init__⟩)
    (cf_Seers___init__ : PySem.W.codeIn K cdSeers___init__ "Seers.__init__" = true)
    (kf_Seers___init__ : PySem.W.keepIn K (.ref f_Seers___init__) = true)
    (af_Seers_plus : PySem.W.findIn K (.ref C_Seers) "plus" = some (some (.ref f_Seers_plus)))
    (if_Seers_plus : PySem.W.isFn K (.ref f_Seers_plus) = true)
    (lf_Seers_plus : K.lookup f_Seers_plus = some ⟨ocSeers_plus, odSeers_plus, .func (PySem.W.fnOf "plus" "Seers.plus" (defArgs s_Seers_plus) (defBody s_Seers_plus) (defScope s_Seers_plus) .none kVSeers_plus dcSeers_plus pmSeers_plus anSeers_plus cdSeers_plus ctSeers_plus), slSeers_plus⟩)
    (cf_Seers_plus : PySem.W.codeIn K cdSeers_plus "Seers.plus" = true)
    (kf_Seers_plus : PySem.W.keepIn K (.ref f_Seers_plus) = true)
    (af_Seers_times : PySem.W.findIn K (.ref C_Seers) "times" = some (some (.ref f_Seers_times)))
    (if_Seers_times : PySem.W.isFn K (.ref f_Seers_times) = true)
    (lf_Seers_times : K.lookup f_Seers_times = some ⟨ocSeers_times, odSeers_times, .func (PySem.W.fnOf "times" "Seers.times" (defArgs s_Seers_times) (defBody s_Seers_times) (defScope s_Seers_times) .none kVSeers_times dcSeers_times pmSeers_times anSeers_times cdSeers_times ctSeers_times), slSeers_times⟩)
    (cf_Seers_times : PySem.W.codeIn K cdSeers_times "Seers.times" = true)
    (kf_Seers_times : PySem.W.keepIn K (.ref f_Seers_times) = true)
    (af_Pairs___init__ : PySem.W.findIn K (.ref C_Pairs) "__init__" = some (some (.ref f_Pairs___init__)))
    (if_Pairs___init__ : PySem.W.isFn K (.ref f_Pairs___init__) = true)
    (lf_Pairs___init__ : K.lookup f_Pairs___init__ = some ⟨ocPairs___init__, odPairs___init__, .func (PySem.W.fnOf "__init__" "Pairs.__init__" (defArgs s_Pairs___init__) (defBody s_Pairs___init__) (defScope s_Pairs___init__) .none kVPairs___init__ dcPairs___init__ pmPairs___init__ anPairs___init__ cdPairs___init__ ctPairs___init__), slPairs___init__⟩)
    (cf_Pairs___init__ : PySem.W.codeIn K cdPairs___init__ "Pairs.__init__" = true)
    (kf_Pairs___init__ : PySem.W.keepIn K (.ref f_Pairs___init__) = true)
    (af_Pairs_plus : PySem.W.findIn K (.ref C_Pairs) "plus" = some (some (.ref f_Pairs_plus)))
    (if_Pairs_plus : PySem.W.isFn K (.ref f_Pairs_plus) = true)
    (lf_Pairs_plus : K.lookup f_Pairs_plus = some ⟨ocPairs_plus, odPairs_plus, .func (PySem.W.fnOf "plus" "Pairs.plus" (defArgs s_Pairs_plus) (defBody s_Pairs_plus) (defScope s_Pairs_plus) .none kVPairs_plus dcPairs_plus pmPairs_plus anPairs_plus cdPairs_plus ctPairs_plus), slPairs_plus⟩)
    (cf_Pairs_plus : PySem.W.codeIn K cdPairs_plus "Pairs.plus" = true)
    (kf_Pairs_plus : PySem.W.keepIn K (.ref f_Pairs_plus) = true)
    (af_Pairs_times : PySem.W.findIn K (.ref C_Pairs) "times" = some (some (.ref f_Pairs_times)))
    (if_Pairs_times : PySem.W.isFn K (.ref f_Pairs_times) = true)
    (lf_Pairs_times : K.lookup f_Pairs_times = some ⟨ocPairs_times, odPairs_times, .func (PySem.W.fnOf "times" "Pairs.times" (defArgs s_Pairs_times) (defBody s_Pairs_times) (defScope s_Pairs_times) .none kVPairs_times dcPairs_times pmPairs_times anPairs_times cdPairs_times ctPairs_times), slPairs_times⟩)
    (cf_Pairs_times : PySem.W.codeIn K cdPairs_times "Pairs.times" = true)
    (kf_Pairs_times : PySem.W.keepIn K (.ref f_Pairs_times) = true)
    (af_law_at : PySem.W.nsIn K mainGlobals "_law_at" = some (some (.ref f_law_at)))
    (lf_law_at : K.lookup f_law_at = some ⟨oclaw_at, odlaw_at, .func (PySem.W.fnOf "_law_at" "_law_at" (defArgs s_law_at) (defBody s_law_at) (defScope s_law_at) .none kVlaw_at dclaw_at pmlaw_at anlaw_at cdlaw_at ctlaw_at), sllaw_at⟩)
    (cf_law_at : PySem.W.codeIn K cdlaw_at "_law_at" = true)
    (kf_law_at : PySem.W.keepIn K (.ref f_law_at) = true)
    (af_law_same : PySem.W.nsIn K mainGlobals "_law_same" = some (some (.ref f_law_same)))
    (lf_law_same : K.lookup f_law_same = some ⟨oclaw_same, odlaw_same, .func (PySem.W.fnOf "_law_same" "_law_same" (defArgs s_law_same) (defBody s_law_same) (defScope s_law_same) .none kVlaw_same dclaw_same pmlaw_same anlaw_same cdlaw_same ctlaw_same), sllaw_same⟩)
    (cf_law_same : PySem.W.codeIn K cdlaw_same "_law_same" = true)
    (kf_law_same : PySem.W.keepIn K (.ref f_law_same) = true)
    (af_law_number : PySem.W.nsIn K mainGlobals "_law_number" = some (some (.ref f_law_number)))
    (lf_law_number : K.lookup f_law_number = some ⟨oclaw_number, odlaw_number, .func (PySem.W.fnOf "_law_number" "_law_number" (defArgs s_law_number) (defBody s_law_number) (defScope s_law_number) .none kVlaw_number dclaw_number pmlaw_number anlaw_number cdlaw_number ctlaw_number), sllaw_number⟩)
    (cf_law_number : PySem.W.codeIn K cdlaw_number "_law_number" = true)
    (kf_law_number : PySem.W.keepIn K (.ref f_law_number) = true)
    (af_law_name : PySem.W.nsIn K mainGlobals "_law_name" = some (some (.ref f_law_name)))
    (lf_law_name : K.lookup f_law_name = some ⟨oclaw_name, odlaw_name, .func (PySem.W.fnOf "_law_name" "_law_name" (defArgs s_law_name) (defBody s_law_name) (defScope s_law_name) .none kVlaw_name dclaw_name pmlaw_name anlaw_name cdlaw_name ctlaw_name), sllaw_name⟩)
    (cf_law_name : PySem.W.codeIn K cdlaw_name "_law_name" = true)
    (kf_law_name : PySem.W.keepIn K (.ref f_law_name) = true)
    (af_law_some : PySem.W.nsIn K mainGlobals "_law_some" = some (some (.ref f_law_some)))
    (lf_law_some : K.lookup f_law_some = some ⟨oclaw_some, odlaw_some, .func (PySem.W.fnOf "_law_some" "_law_some" (defArgs s_law_some) (defBody s_law_some) (defScope s_law_some) .none kVlaw_some dclaw_some pmlaw_some anlaw_some cdlaw_some ctlaw_some), sllaw_some⟩)
    (cf_law_some : PySem.W.codeIn K cdlaw_some "_law_some" = true)
    (kf_law_some : PySem.W.keepIn K (.ref f_law_some) = true)
    (af_law_cost : PySem.W.nsIn K mainGlobals "_law_cost" = some (some (.ref f_law_cost)))
    (lf_law_cost : K.lookup f_law_cost = some ⟨oclaw_cost, odlaw_cost, .func (PySem.W.fnOf "_law_cost" "_law_cost" (defArgs s_law_cost) (defBody s_law_cost) (defScope s_law_cost) .none kVlaw_cost dclaw_cost pmlaw_cost anlaw_cost cdlaw_cost ctlaw_cost), sllaw_cost⟩)
    (cf_law_cost : PySem.W.codeIn K cdlaw_cost "_law_cost" = true)
    (kf_law_cost : PySem.W.keepIn K (.ref f_law_cost) = true)
    (af_law_lesser : PySem.W.nsIn K mainGlobals "_law_lesser" = some (some (.ref f_law_lesser)))
    (lf_law_lesser : K.lookup f_law_lesser = some ⟨oclaw_lesser, odlaw_lesser, .func (PySem.W.fnOf "_law_lesser" "_law_lesser" (defArgs s_law_lesser) (defBody s_law_lesser) (defScope s_law_lesser) .none kVlaw_lesser dclaw_lesser pmlaw_lesser anlaw_lesser cdlaw_lesser ctlaw_lesser), sllaw_lesser⟩)
    (cf_law_lesser : PySem.W.codeIn K cdlaw_lesser "_law_lesser" = true)
    (kf_law_lesser : PySem.W.keepIn K (.ref f_law_lesser) = true)
    (af_law_summed : PySem.W.nsIn K mainGlobals "_law_summed" = some (some (.ref f_law_summed)))
    (lf_law_summed : K.lookup f_law_summed = some ⟨oclaw_summed, odlaw_summed, .func (PySem.W.fnOf "_law_summed" "_law_summed" (defArgs s_law_summed) (defBody s_law_summed) (defScope s_law_summed) .none kVlaw_summed dclaw_summed pmlaw_summed anlaw_summed cdlaw_summed ctlaw_summed), sllaw_summed⟩)
    (cf_law_summed : PySem.W.codeIn K cdlaw_summed "_law_summed" = true)
    (kf_law_summed : PySem.W.keepIn K (.ref f_law_summed) = true)
    (af_law_two : PySem.W.nsIn K mainGlobals "_law_two" = some (some (.ref f_law_two)))
    (lf_law_two : K.lookup f_law_two = some ⟨oclaw_two, odlaw_two, .func (PySem.W.fnOf "_law_two" "_law_two" (defArgs s_law_two) (defBody s_law_two) (defScope s_law_two) .none kVlaw_two dclaw_two pmlaw_two anlaw_two cdlaw_two ctlaw_two), sllaw_two⟩)
    (cf_law_two : PySem.W.codeIn K cdlaw_two "_law_two" = true)
    (kf_law_two : PySem.W.keepIn K (.ref f_law_two) = true)
    (af_law_seen : PySem.W.nsIn K mainGlobals "_law_seen" = some (some (.ref f_law_seen)))
    (lf_law_seen : K.lookup f_law_seen = some ⟨oclaw_seen, odlaw_seen, .func (PySem.W.fnOf "_law_seen" "_law_seen" (defArgs s_law_seen) (defBody s_law_seen) (defScope s_law_seen) .none kVlaw_seen dclaw_seen pmlaw_seen anlaw_seen cdlaw_seen ctlaw_seen), sllaw_seen⟩)
    (cf_law_seen : PySem.W.codeIn K cdlaw_seen "_law_seen" = true)
    (kf_law_seen : PySem.W.keepIn K (.ref f_law_seen) = true)
    (af_law : PySem.W.nsIn K mainGlobals "law" = some (some (.ref f_law)))
    (lf_law : K.lookup f_law = some ⟨oclaw, odlaw, .func (PySem.W.fnOf "law" "law" (defArgs s_law) (defBody s_law) (defScope s_law) .none kVlaw dclaw pmlaw anlaw cdlaw ctlaw), sllaw⟩)
    (cf_law : PySem.W.codeIn K cdlaw "law" = true)
    (kf_law : PySem.W.keepIn K (.ref f_law) = true)
    (zbool : PySem.W.nsIn K mainGlobals "bool" = some none)
    (zint : PySem.W.nsIn K mainGlobals "int" = some none)
    (zisinstance : PySem.W.nsIn K mainGlobals "isinstance" = some none)
    (zlen : PySem.W.nsIn K mainGlobals "len" = some none)
    (zlist : PySem.W.nsIn K mainGlobals "list" = some none)
    (zmin : PySem.W.nsIn K mainGlobals "min" = some none)
    (zrange : PySem.W.nsIn K mainGlobals "range" = some none)
    (zset : PySem.W.nsIn K mainGlobals "set" = some none)
    (zsorted : PySem.W.nsIn K mainGlobals "sorted" = some none)
    (zstr : PySem.W.nsIn K mainGlobals "str" = some none)
    (ztuple : PySem.W.nsIn K mainGlobals "tuple" = some none) : ∃ t, Txt K mg t := by
  have ne_Counts_Truths : C_Counts ≠ C_Truths := fun z => by
    subst z
    have q := (Option.some.inj (Option.some.inj (af_Counts___init__.symm.trans af_Truths___init__)))
    cases q
    exact fn_ne lf_Counts___init__ lf_Truths___init__ (by decide +kernel)
  have ne_Counts_Rounds : C_Counts ≠ C_Rounds := fun z => by
    subst z
    have q := (Option.some.inj (Option.some.inj (af_Counts___init__.symm.trans af_Rounds___init__)))
    cases q
    exact fn_ne lf_Counts___init__ lf_Rounds___init__ (by decide +kernel)
  have ne_Counts_Seers : C_Counts ≠ C_Seers := fun z => by
    subst z
    have q := (Option.some.inj (Option.some.inj (af_Counts___init__.symm.trans af_Seers___init__)))
    cases q
    exact fn_ne lf_Counts___init__ lf_Seers___init__ (by decide +kernel)
  have ne_Counts_Pairs : C_Counts ≠ C_Pairs := fun z => by
    subst z
    have q := (Option.some.inj (Option.some.inj (af_Counts___init__.symm.trans af_Pairs___init__)))
    cases q
    exact fn_ne lf_Counts___init__ lf_Pairs___init__ (by decide +kernel)
  have ne_Rounds_Truths : C_Rounds ≠ C_Truths := fun z => by
    subst z
    have q := (Option.some.inj (Option.some.inj (af_Rounds___init__.symm.trans af_Truths___init__)))
    cases q
    exact fn_ne lf_Rounds___init__ lf_Truths___init__ (by decide +kernel)
  have ne_Rounds_Seers : C_Rounds ≠ C_Seers := fun z => by
    subst z
    have q := (Option.some.inj (Option.some.inj (af_Rounds___init__.symm.trans af_Seers___init__)))
    cases q
    exact fn_ne lf_Rounds___init__ lf_Seers___init__ (by decide +kernel)
  have ne_Costs_Truths : C_Costs ≠ C_Truths := fun z => by
    subst z
    have q := (Option.some.inj (Option.some.inj (af_Costs___init__.symm.trans af_Truths___init__)))
    cases q
    exact fn_ne lf_Costs___init__ lf_Truths___init__ (by decide +kernel)
  have ne_Costs_Counts : C_Costs ≠ C_Counts := fun z => by
    subst z
    have q := (Option.some.inj (Option.some.inj (af_Costs___init__.symm.trans af_Counts___init__)))
    cases q
    exact fn_ne lf_Costs___init__ lf_Counts___init__ (by decide +kernel)
  have ne_Costs_Rounds : C_Costs ≠ C_Rounds := fun z => by
    subst z
    have q := (Option.some.inj (Option.some.inj (af_Costs___init__.symm.trans af_Rounds___init__)))
    cases q
    exact fn_ne lf_Costs___init__ lf_Rounds___init__ (by decide +kernel)
  have ne_Costs_Seers : C_Costs ≠ C_Seers := fun z => by
    subst z
    have q := (Option.some.inj (Option.some.inj (af_Costs___init__.symm.trans af_Seers___init__)))
    cases q
    exact fn_ne lf_Costs___init__ lf_Seers___init__ (by decide +kernel)
  have ne_Costs_Pairs : C_Costs ≠ C_Pairs := fun z => by
    subst z
    have q := (Option.some.inj (Option.some.inj (af_Costs___init__.symm.trans af_Pairs___init__)))
    cases q
    exact fn_ne lf_Costs___init__ lf_Pairs___init__ (by decide +kernel)
  have ne_Seers_Truths : C_Seers ≠ C_Truths := fun z => by
    subst z
    have q := (Option.some.inj (Option.some.inj (af_Seers___init__.symm.trans af_Truths___init__)))
    cases q
    exact fn_ne lf_Seers___init__ lf_Truths___init__ (by decide +kernel)
  have ne_Pairs_Truths : C_Pairs ≠ C_Truths := fun z => by
    subst z
    have q := (Option.some.inj (Option.some.inj (af_Pairs___init__.symm.trans af_Truths___init__)))
    cases q
    exact fn_ne lf_Pairs___init__ lf_Truths___init__ (by decide +kernel)
  have ne_Pairs_Rounds : C_Pairs ≠ C_Rounds := fun z => by
    subst z
    have q := (Option.some.inj (Option.some.inj (af_Pairs___init__.symm.trans af_Rounds___init__)))
    cases q
    exact fn_ne lf_Pairs___init__ lf_Rounds___init__ (by decide +kernel)
  have ne_Pairs_Seers : C_Pairs ≠ C_Seers := fun z => by
    subst z
    have q := (Option.some.inj (Option.some.inj (af_Pairs___init__.symm.trans af_Seers___init__)))
    cases q
    exact fn_ne lf_Pairs___init__ lf_Seers___init__ (by decide +kernel)
  refine ⟨{ C_Truths := C_Truths, C_Counts := C_Counts, C_Rounds := C_Rounds, C_Costs := C_Costs, C_Seers := C_Seers, C_Pairs := C_Pairs, X_NoWay := X_NoWay, f_is_whole := f_is_whole, f_Truths___init__ := f_Truths___init__, f_Truths_plus := f_Truths_plus, f_Truths_times := f_Truths_times, f_Counts___init__ := f_Counts___init__, f_Counts_plus := f_Counts_plus, f_Counts_times := f_Counts_times, f_Rounds___init__ := f_Rounds___init__, f_Rounds_plus := f_Rounds_plus, f_Rounds_times := f_Rounds_times, f_Costs___init__ := f_Costs___init__, f_Costs_plus := f_Costs_plus, f_Costs_times := f_Costs_times, f_Seers___init__ := f_Seers___init__, f_Seers_plus := f_Seers_plus, f_Seers_times := f_Seers_times, f_Pairs___init__ := f_Pairs___init__, f_Pairs_plus := f_Pairs_plus, f_Pairs_times := f_Pairs_times, f_law_at := f_law_at, f_law_same := f_law_same, f_law_number := f_law_number, f_law_name := f_law_name, f_law_some := f_law_some, f_law_cost := f_law_cost, f_law_lesser := f_law_lesser, f_law_summed := f_law_summed, f_law_two := f_law_two, f_law_seen := f_law_seen, f_law := f_law }, ?_⟩
  exact {
    g_NoWay := PySem.W.mg_of X G aX_NoWay
    xi_NoWay := xiX_NoWay
    g_Truths := PySem.W.mg_of X G aC_Truths
    cl_Truths := ⟨pgC_Truths, hdC_Truths, poC_Truths, saC_Truths⟩
    mk_Truths := ⟨mkC_Truths, af_Truths___init__, if_Truths___init__, kcC_Truths⟩
    me_Truths_plus := ⟨af_Truths_plus, if_Truths_plus, kf_Truths_plus⟩
    me_Truths_times := ⟨af_Truths_times, if_Truths_times, kf_Truths_times⟩
    g_Counts := PySem.W.mg_of X G aC_Counts
    cl_Counts := ⟨pgC_Counts, hdC_Counts, poC_Counts, saC_Counts⟩
    mk_Counts := ⟨mkC_Counts, af_Counts___init__, if_Counts___init__, kcC_Counts⟩
    me_Counts_plus := ⟨af_Counts_plus, if_Counts_plus, kf_Counts_plus⟩
    me_Counts_times := ⟨af_Counts_times, if_Counts_times, kf_Counts_times⟩
    g_Rounds := PySem.W.mg_of X G aC_Rounds
    cl_Rounds := ⟨pgC_Rounds, hdC_Rounds, poC_Rounds, saC_Rounds⟩
    mk_Rounds := ⟨mkC_Rounds, af_Rounds___init__, if_Rounds___init__, kcC_Rounds⟩
    me_Rounds_plus := ⟨af_Rounds_plus, if_Rounds_plus, kf_Rounds_plus⟩
    me_Rounds_times := ⟨af_Rounds_times, if_Rounds_times, kf_Rounds_times⟩
    g_Costs := PySem.W.mg_of X G aC_Costs
    cl_Costs := ⟨pgC_Costs, hdC_Costs, poC_Costs, saC_Costs⟩
    mk_Costs := ⟨mkC_Costs, af_Costs___init__, if_Costs___init__, kcC_Costs⟩
    me_Costs_plus := ⟨af_Costs_plus, if_Costs_plus, kf_Costs_plus⟩
    me_Costs_times := ⟨af_Costs_times, if_Costs_times, kf_Costs_times⟩
    g_Seers := PySem.W.mg_of X G aC_Seers
    cl_Seers := ⟨pgC_Seers, hdC_Seers, poC_Seers, saC_Seers⟩
    mk_Seers := ⟨mkC_Seers, af_Seers___init__, if_Seers___init__, kcC_Seers⟩
    me_Seers_plus := ⟨af_Seers_plus, if_Seers_plus, kf_Seers_plus⟩
    me_Seers_times := ⟨af_Seers_times, if_Seers_times, kf_Seers_times⟩
    g_Pairs := PySem.W.mg_of X G aC_Pairs
    cl_Pairs := ⟨pgC_Pairs, hdC_Pairs, poC_Pairs, saC_Pairs⟩
    mk_Pairs := ⟨mkC_Pairs, af_Pairs___init__, if_Pairs___init__, kcC_Pairs⟩
    me_Pairs_plus := ⟨af_Pairs_plus, if_Pairs_plus, kf_Pairs_plus⟩
    me_Pairs_times := ⟨af_Pairs_times, if_Pairs_times, kf_Pairs_times⟩
    nf_left := fun C hC => by
      unfold cs at hC
      simp only [Bool.or_eq_true, decide_eq_true_eq] at hC
      rcases hC with ((((rfl | rfl) | rfl) | rfl) | rfl) | rfl
      · exact ⟨⟨pgC_Truths, hdC_Truths, poC_Truths, saC_Truths⟩, nC_Truthsleft⟩
      · exact ⟨⟨pgC_Counts, hdC_Counts, poC_Counts, saC_Counts⟩, nC_Countsleft⟩
      · exact ⟨⟨pgC_Rounds, hdC_Rounds, poC_Rounds, saC_Rounds⟩, nC_Roundsleft⟩
      · exact ⟨⟨pgC_Costs, hdC_Costs, poC_Costs, saC_Costs⟩, nC_Costsleft⟩
      · exact ⟨⟨pgC_Seers, hdC_Seers, poC_Seers, saC_Seers⟩, nC_Seersleft⟩
      · exact ⟨⟨pgC_Pairs, hdC_Pairs, poC_Pairs, saC_Pairs⟩, nC_Pairsleft⟩
    nf_many := fun C hC => by
      unfold cs at hC
      simp only [Bool.or_eq_true, decide_eq_true_eq] at hC
      rcases hC with ((((rfl | rfl) | rfl) | rfl) | rfl) | rfl
      · exact ⟨⟨pgC_Truths, hdC_Truths, poC_Truths, saC_Truths⟩, nC_Truthsmany⟩
      · exact ⟨⟨pgC_Counts, hdC_Counts, poC_Counts, saC_Counts⟩, nC_Countsmany⟩
      · exact ⟨⟨pgC_Rounds, hdC_Rounds, poC_Rounds, saC_Rounds⟩, nC_Roundsmany⟩
      · exact ⟨⟨pgC_Costs, hdC_Costs, poC_Costs, saC_Costs⟩, nC_Costsmany⟩
      · exact ⟨⟨pgC_Seers, hdC_Seers, poC_Seers, saC_Seers⟩, nC_Seersmany⟩
      · exact ⟨⟨pgC_Pairs, hdC_Pairs, poC_Pairs, saC_Pairs⟩, nC_Pairsmany⟩
    nf_nought := fun C hC => by
      unfold cs at hC
      simp only [Bool.or_eq_true, decide_eq_true_eq] at hC
      rcases hC with ((((rfl | rfl) | rfl) | rfl) | rfl) | rfl
      · exact ⟨⟨pgC_Truths, hdC_Truths, poC_Truths, saC_Truths⟩, nC_Truthsnought⟩
      · exact ⟨⟨pgC_Counts, hdC_Counts, poC_Counts, saC_Counts⟩, nC_Countsnought⟩
      · exact ⟨⟨pgC_Rounds, hdC_Rounds, poC_Rounds, saC_Rounds⟩, nC_Roundsnought⟩
      · exact ⟨⟨pgC_Costs, hdC_Costs, poC_Costs, saC_Costs⟩, nC_Costsnought⟩
      · exact ⟨⟨pgC_Seers, hdC_Seers, poC_Seers, saC_Seers⟩, nC_Seersnought⟩
      · exact ⟨⟨pgC_Pairs, hdC_Pairs, poC_Pairs, saC_Pairs⟩, nC_Pairsnought⟩
    nf_one := fun C hC => by
      unfold cs at hC
      simp only [Bool.or_eq_true, decide_eq_true_eq] at hC
      rcases hC with ((((rfl | rfl) | rfl) | rfl) | rfl) | rfl
      · exact ⟨⟨pgC_Truths, hdC_Truths, poC_Truths, saC_Truths⟩, nC_Truthsone⟩
      · exact ⟨⟨pgC_Counts, hdC_Counts, poC_Counts, saC_Counts⟩, nC_Countsone⟩
      · exact ⟨⟨pgC_Rounds, hdC_Rounds, poC_Rounds, saC_Rounds⟩, nC_Roundsone⟩
      · exact ⟨⟨pgC_Costs, hdC_Costs, poC_Costs, saC_Costs⟩, nC_Costsone⟩
      · exact ⟨⟨pgC_Seers, hdC_Seers, poC_Seers, saC_Seers⟩, nC_Seersone⟩
      · exact ⟨⟨pgC_Pairs, hdC_Pairs, poC_Pairs, saC_Pairs⟩, nC_Pairsone⟩
    nf_right := fun C hC => by
      unfold cs at hC
      simp only [Bool.or_eq_true, decide_eq_true_eq] at hC
      rcases hC with ((((rfl | rfl) | rfl) | rfl) | rfl) | rfl
      · exact ⟨⟨pgC_Truths, hdC_Truths, poC_Truths, saC_Truths⟩, nC_Truthsright⟩
      · exact ⟨⟨pgC_Counts, hdC_Counts, poC_Counts, saC_Counts⟩, nC_Countsright⟩
      · exact ⟨⟨pgC_Rounds, hdC_Rounds, poC_Rounds, saC_Rounds⟩, nC_Roundsright⟩
      · exact ⟨⟨pgC_Costs, hdC_Costs, poC_Costs, saC_Costs⟩, nC_Costsright⟩
      · exact ⟨⟨pgC_Seers, hdC_Seers, poC_Seers, saC_Seers⟩, nC_Seersright⟩
      · exact ⟨⟨pgC_Pairs, hdC_Pairs, poC_Pairs, saC_Pairs⟩, nC_Pairsright⟩
    F_is_whole := fm_is_whole lf_is_whole cf_is_whole kf_is_whole
    g_is_whole := PySem.W.mg_of X G af_is_whole
    F_Truths___init__ := fm_Truths___init__ lf_Truths___init__ cf_Truths___init__ kf_Truths___init__
    F_Truths_plus := fm_Truths_plus lf_Truths_plus cf_Truths_plus kf_Truths_plus
    F_Truths_times := fm_Truths_times lf_Truths_times cf_Truths_times kf_Truths_times
    F_Counts___init__ := fm_Counts___init__ lf_Counts___init__ cf_Counts___init__ kf_Counts___init__
    F_Counts_plus := fm_Counts_plus lf_Counts_plus cf_Counts_plus kf_Counts_plus
    F_Counts_times := fm_Counts_times lf_Counts_times cf_Counts_times kf_Counts_times
    F_Rounds___init__ := fm_Rounds___init__ lf_Rounds___init__ cf_Rounds___init__ kf_Rounds___init__
    F_Rounds_plus := fm_Rounds_plus lf_Rounds_plus cf_Rounds_plus kf_Rounds_plus
    F_Rounds_times := fm_Rounds_times lf_Rounds_times cf_Rounds_times kf_Rounds_times
    F_Costs___init__ := fm_Costs___init__ lf_Costs___init__ cf_Costs___init__ kf_Costs___init__
    F_Costs_plus := fm_Costs_plus lf_Costs_plus cf_Costs_plus kf_Costs_plus
    F_Costs_times := fm_Costs_times lf_Costs_times cf_Costs_times kf_Costs_times
    F_Seers___init__ := fm_Seers___init__ lf_Seers___init__ cf_Seers___init__ kf_Seers___init__
    F_Seers_plus := fm_Seers_plus lf_Seers_plus cf_Seers_plus kf_Seers_plus
    F_Seers_times := fm_Seers_times lf_Seers_times cf_Seers_times kf_Seers_times
    F_Pairs___init__ := fm_Pairs___init__ lf_Pairs___init__ cf_Pairs___init__ kf_Pairs___init__
    F_Pairs_plus := fm_Pairs_plus lf_Pairs_plus cf_Pairs_plus kf_Pairs_plus
    F_Pairs_times := fm_Pairs_times lf_Pairs_times cf_Pairs_times kf_Pairs_times
    F_law_at := fm_law_at lf_law_at cf_law_at kf_law_at
    g_law_at := PySem.W.mg_of X G af_law_at
    F_law_same := fm_law_same lf_law_same cf_law_same kf_law_same
    g_law_same := PySem.W.mg_of X G af_law_same
    F_law_number := fm_law_number lf_law_number cf_law_number kf_law_number
    g_law_number := PySem.W.mg_of X G af_law_number
    F_law_name := fm_law_name lf_law_name cf_law_name kf_law_name
    g_law_name := PySem.W.mg_of X G af_law_name
    F_law_some := fm_law_some lf_law_some cf_law_some kf_law_some
    g_law_some := PySem.W.mg_of X G af_law_some
    F_law_cost := fm_law_cost lf_law_cost cf_law_cost kf_law_cost
    g_law_cost := PySem.W.mg_of X G af_law_cost
    F_law_lesser := fm_law_lesser lf_law_lesser cf_law_lesser kf_law_lesser
    g_law_lesser := PySem.W.mg_of X G af_law_lesser
    F_law_summed := fm_law_summed lf_law_summed cf_law_summed kf_law_summed
    g_law_summed := PySem.W.mg_of X G af_law_summed
    F_law_two := fm_law_two lf_law_two cf_law_two kf_law_two
    g_law_two := PySem.W.mg_of X G af_law_two
    F_law_seen := fm_law_seen lf_law_seen cf_law_seen kf_law_seen
    g_law_seen := PySem.W.mg_of X G af_law_seen
    F_law := fm_law lf_law cf_law kf_law
    g_law := PySem.W.mg_of X G af_law
    b_bool := PySem.W.mg_none_of X G zbool
    b_int := PySem.W.mg_none_of X G zint
    b_isinstance := PySem.W.mg_none_of X G zisinstance
    b_len := PySem.W.mg_none_of X G zlen
    b_list := PySem.W.mg_none_of X G zlist
    b_min := PySem.W.mg_none_of X G zmin
    b_range := PySem.W.mg_none_of X G zrange
    b_set := PySem.W.mg_none_of X G zset
    b_sorted := PySem.W.mg_none_of X G zsorted
    b_str := PySem.W.mg_none_of X G zstr
    b_tuple := PySem.W.mg_none_of X G ztuple
    ne_Truths_Counts := Ne.symm ne_Counts_Truths
    ne_Truths_Rounds := Ne.symm ne_Rounds_Truths
    ne_Truths_Costs := Ne.symm ne_Costs_Truths
    ne_Truths_Seers := Ne.symm ne_Seers_Truths
    ne_Truths_Pairs := Ne.symm ne_Pairs_Truths
    ne_Counts_Truths := ne_Counts_Truths
    ne_Counts_Rounds := ne_Counts_Rounds
    ne_Counts_Costs := Ne.symm ne_Costs_Counts
    ne_Counts_Seers := ne_Counts_Seers
    ne_Counts_Pairs := ne_Counts_Pairs
    ne_Rounds_Truths := ne_Rounds_Truths
    ne_Rounds_Counts := Ne.symm ne_Counts_Rounds
    ne_Rounds_Costs := Ne.symm ne_Costs_Rounds
    ne_Rounds_Seers := ne_Rounds_Seers
    ne_Rounds_Pairs := Ne.symm ne_Pairs_Rounds
    ne_Costs_Truths := ne_Costs_Truths
    ne_Costs_Counts := ne_Costs_Counts
    ne_Costs_Rounds := ne_Costs_Rounds
    ne_Costs_Seers := ne_Costs_Seers
    ne_Costs_Pairs := ne_Costs_Pairs
    ne_Seers_Truths := ne_Seers_Truths
    ne_Seers_Counts := Ne.symm ne_Counts_Seers
    ne_Seers_Rounds := Ne.symm ne_Rounds_Seers
    ne_Seers_Costs := Ne.symm ne_Costs_Seers
    ne_Seers_Pairs := Ne.symm ne_Pairs_Seers
    ne_Pairs_Truths := ne_Pairs_Truths
    ne_Pairs_Counts := Ne.symm ne_Counts_Pairs
    ne_Pairs_Rounds := ne_Pairs_Rounds
    ne_Pairs_Costs := Ne.symm ne_Costs_Pairs
    ne_Pairs_Seers := ne_Pairs_Seers }
end K06

set_option Elab.async false
set_option linter.all false
set_option maxRecDepth 100000
set_option maxHeartbeats 4000000
namespace K06
open PySem PySem.Spec PyProof.Rows L2 L2.PU
/-! ### costs -/
noncomputable def dC : Option Int → D
  | none => .non
  | some i => .int i
noncomputable def lo : Option Int → Option Int → Option Int
  | none, b => b
  | a, none => a
  | some x, some y => some (if y < x then y else x)
noncomputable def su : Option Int → Option Int → Option Int
  | some x, some y => some (x + y)
  | _, _ => none
theorem lo_comm (a b : Option Int) : lo a b = lo b a := by
  cases a <;> cases b <;> simp [lo]
  rename_i x y
  by_cases h : y < x <;> by_cases h' : x < y <;> simp [h, h'] <;> omega
theorem su_comm (a b : Option Int) : su a b = su b a := by
  cases a <;> cases b <;> simp [su]
  omega
noncomputable def coOf (c : Int) : Option Int := if c % 4 = 0 then none else some (num (c / 4))
theorem imm_dC (a : Option Int) : (dC a).imm = true := by cases a <;> rfl
theorem pl_dC (a : Option Int) : (dC a).pl = true := by cases a <;> rfl
theorem dep_dC (a : Option Int) : (dC a).dep = 0 := by cases a <;> rfl
noncomputable def fCost (t : Adr) : List D → M D := viaD 1 fun ds => fnRes (den_law_cost t fNumber (rho0 N_law_cost ds))
theorem cost_sp (t : Adr) (c : Int) : fCost t [.int c] = ok (dC (coOf c)) := by
  refine viaD_of rfl ?_
  have e0 : rho0 N_law_cost [.int c] = [some (.sh (.int c))] := rfl
  rw [e0]
  by_cases h0 : c % 4 = 0
  · simp [den_law_cost, sSeq, sIf, sRet, testB, b2, look, con, bnd, ok, lft, gMod, gEq, eqF, blOf, fnRes, SV.cur, h0, coOf, dC]
  · simp [den_law_cost, sSeq, sIf, sRet, testB, b2, look, con, bnd, ok, lft, gMod, gFdiv, gEq, eqF, blOf, fnRes, SV.cur, h0, coOf, dC, sNil, app, aCons, aNil, fNumber]
noncomputable def fLesser (t : Adr) : List D → M D := viaD 2 fun ds => fnRes (den_law_lesser t (rho0 N_law_lesser ds))
theorem lesser_sp (t : Adr) (a b : Option Int) : fLesser t [dC a, dC b] = ok (dC (lo a b)) := by
  refine viaD_of rfl ?_
  have e0 : rho0 N_law_lesser [dC a, dC b] = [some (.sh (dC a)), some (.sh (dC b))] := rfl
  rw [e0]
  cases a with
  | none => cases b <;> rfl
  | some i =>
    cases b with
    | none => rfl
    | some j =>
      by_cases hl : i < j
      · have : ¬ j < i := by omega
        simp [den_law_lesser, sSeq, sIf, sRet, testB, orB, b2, look, con, bnd, ok, lft, gIs, isNon, gLt, blOf, fnRes, SV.cur, dC, lo, sNil, hl, this]
      · by_cases hl2 : j < i
        · simp [den_law_lesser, sSeq, sIf, sRet, testB, orB, b2, look, con, bnd, ok, lft, gIs, isNon, gLt, blOf, fnRes, SV.cur, dC, lo, sNil, hl, hl2]
        · have : i = j := by omega
          subst this
          simp [den_law_lesser, sSeq, sIf, sRet, testB, orB, b2, look, con, bnd, ok, lft, gIs, isNon, gLt, blOf, fnRes, SV.cur, dC, lo, sNil]
noncomputable def fSummed (t : Adr) : List D → M D := viaD 2 fun ds => fnRes (den_law_summed t (rho0 N_law_summed ds))
theorem summed_sp (t : Adr) (a b : Option Int) : fSummed t [dC a, dC b] = ok (dC (su a b)) := by
  refine viaD_of rfl ?_
  have e0 : rho0 N_law_summed [dC a, dC b] = [some (.sh (dC a)), some (.sh (dC b))] := rfl
  rw [e0]
  cases a <;> cases b <;> rfl
/-! ### the ways' objects -/
noncomputable def oCounts (t : Adr) : D := .obj t.C_Counts [("nought", .int 0), ("one", .int 1)]
noncomputable def oCosts (t : Adr) : D := .obj t.C_Costs [("nought", .non), ("one", .int 0)]
noncomputable def oTruths (t : Adr) : D := .obj t.C_Truths [("nought", .bl false), ("one", .bl true)]
noncomputable def oRounds (t : Adr) (m : Int) : D := .obj t.C_Rounds [("many", .int m), ("nought", .int 0), ("one", .int 1)]
noncomputable def oSeers (t : Adr) (P : List Str) : D := .obj t.C_Seers [("nought", .tup []), ("one", tS P)]
noncomputable def oPair (t : Adr) (l r n o : D) : D := .obj t.C_Pairs [("left", l), ("right", r), ("nought", n), ("one", o)]
noncomputable def mD (n : Int) (c : Option Int) (r : Int) : D := .tup [.tup [.int n, dC c], .int r]
noncomputable def oInner (t : Adr) : D := oPair t (oCounts t) (oCosts t) (.tup [.int 0, .non]) (.tup [.int 1, .int 0])
noncomputable def oDeep (t : Adr) (m : Int) : D := oPair t (oInner t) (oRounds t m) (mD 0 none 0) (mD 1 (some 0) 1)
noncomputable def oSeen (t : Adr) (P : List Str) : D := oPair t (oTruths t) (oSeers t P) (.tup [.bl false, .tup []]) (.tup [.bl true, tS P])
theorem cs1 (t : Adr) : cs t t.C_Counts = true := by simp [cs]
theorem cs2 (t : Adr) : cs t t.C_Costs = true := by simp [cs]
theorem cs3 (t : Adr) : cs t t.C_Truths = true := by simp [cs]
theorem cs4 (t : Adr) : cs t t.C_Rounds = true := by simp [cs]
theorem cs5 (t : Adr) : cs t t.C_Seers = true := by simp [cs]
theorem cs6 (t : Adr) : cs t t.C_Pairs = true := by simp [cs]
/-! makers -/
noncomputable def iCounts : List D → M (List (Str × D))
  | [] => ok [("nought", .int 0), ("one", .int 1)]
  | _ => none
noncomputable def iCosts : List D → M (List (Str × D))
  | [] => ok [("nought", .non), ("one", .int 0)]
  | _ => none
noncomputable def iTruths : List D → M (List (Str × D))
  | [] => ok [("nought", .bl false), ("one", .bl true)]
  | _ => none
noncomputable def iRounds : List D → M (List (Str × D))
  | [.int m] => if 2 ≤ m then ok [("many", .int m), ("nought", .int 0), ("one", .int 1)] else none
  | _ => none
open Classical in
noncomputable def iSeers : List D → M (List (Str × D)) := fun ds => if h : ∃ P : List Str, ds = [.lst (P.map D.str)] ∧ P.length < 64 then (ok [(("nought" : Str), .tup []), (("one" : Str), tS (srtS (metS (Classical.choose h))))] : M (List (Str × D))) else none
theorem strs_inj : ∀ {a b : List Str}, a.map D.str = b.map D.str → a = b
  | [], [], _ => rfl
  | [], _ :: _, h => by simp at h
  | _ :: _, [], h => by simp at h
  | x :: a, y :: b, h => by
    rw [List.map_cons, List.map_cons] at h
    injection h with h1 h2
    injection h1 with h1
    rw [h1, strs_inj h2]
theorem iSeers_ok {P : List Str} (h : P.length < 64) : iSeers [.lst (P.map D.str)] = (ok [(("nought" : Str), .tup []), (("one" : Str), tS (srtS (metS P)))] : M (List (Str × D))) := by
  unfold iSeers
  have hx : ∃ Q : List Str, [D.lst (P.map D.str)] = [.lst (Q.map D.str)] ∧ Q.length < 64 := ⟨P, rfl, h⟩
  rw [dif_pos hx]
  have e := (Classical.choose_spec hx).1
  have : Classical.choose hx = P := by
    injection e with e1
    injection e1 with e1
    exact (strs_inj e1).symm
  rw [this]
/-- the field of a way -/
noncomputable def way2 : D → Option (Addr × D × D)
  | .obj C fs => match fs.lookup ("nought" : Str), fs.lookup ("one" : Str) with | some n, some o => some (C, n, o) | _, _ => none
  | _ => none
open Classical in
noncomputable def iPairs (t : Adr) : List D → M (List (Str × D))
  | [l, r] => match way2 l, way2 r with
    | some (C, n, o), some (C', n', o') => if cs t C = true ∧ cs t C' = true ∧ n.imm = true ∧ n'.imm = true ∧ o.imm = true ∧ o'.imm = true then ok [("left", l), ("right", r), ("nought", .tup [n, n']), ("one", .tup [o, o'])] else none
    | _, _ => none
  | _ => none
theorem counts_ini (t : Adr) : ∀ ds r a dx, iCounts ds = some r → ∃ fs, r = .ok fs ∧ iniRes a t.C_Counts dx (den_Counts___init__ t (rhoI N_Counts___init__ a t.C_Counts dx ds)) = ok fs := by
  intro ds r a dx h
  unfold iCounts at h
  split at h
  · cases h
    refine ⟨_, rfl, ?_⟩
    have e0 : rhoI N_Counts___init__ a t.C_Counts dx [] = [some (.oin a t.C_Counts dx [])] := rfl
    rw [e0]
    simp [den_Counts___init__, sSeq, sFldI, con, lft, ok, D.imm, L2.PU.putAt, cs1, putD, sNil, iniRes]
    try decide +kernel
  · cases h
theorem costs_ini (t : Adr) : ∀ ds r a dx, iCosts ds = some r → ∃ fs, r = .ok fs ∧ iniRes a t.C_Costs dx (den_Costs___init__ t (rhoI N_Costs___init__ a t.C_Costs dx ds)) = ok fs := by
  intro ds r a dx h
  unfold iCosts at h
  split at h
  · cases h
    refine ⟨_, rfl, ?_⟩
    have e0 : rhoI N_Costs___init__ a t.C_Costs dx [] = [some (.oin a t.C_Costs dx [])] := rfl
    rw [e0]
    simp [den_Costs___init__, sSeq, sFldI, con, lft, ok, D.imm, L2.PU.putAt, cs2, putD, sNil, iniRes]
    try decide +kernel
  · cases h
theorem truths_ini (t : Adr) : ∀ ds r a dx, iTruths ds = some r → ∃ fs, r = .ok fs ∧ iniRes a t.C_Truths dx (den_Truths___init__ t (rhoI N_Truths___init__ a t.C_Truths dx ds)) = ok fs := by
  intro ds r a dx h
  unfold iTruths at h
  split at h
  · cases h
    refine ⟨_, rfl, ?_⟩
    have e0 : rhoI N_Truths___init__ a t.C_Truths dx [] = [some (.oin a t.C_Truths dx [])] := rfl
    rw [e0]
    simp [den_Truths___init__, sSeq, sFldI, con, lft, ok, D.imm, L2.PU.putAt, cs3, putD, sNil, iniRes]
    try decide +kernel
  · cases h
noncomputable def fWhole (t : Adr) : List D → M D := viaD 2 fun ds => fnRes (den_is_whole t (rho0 N_is_whole ds))
theorem whole_sp (t : Adr) (i j : Int) : fWhole t [.int i, .int j] = ok (.bl (decide (j ≤ i))) := by
  refine viaD_of rfl ?_
  have e0 : rho0 N_is_whole [.int i, .int j] = [some (.sh (.int i)), some (.sh (.int j))] := rfl
  rw [e0]
  simp [den_is_whole, sSeq, sRet, andV, notV, isi, tyN, isB, b2, look, SV.cur, bnd, ok, lft, gGe, blOf, fnRes]
theorem put_new {fs : List (Str × D)} {f : Str} {d : D} (h : (fs.map Prod.fst).all (fun p => p != f) = true) : putD f d fs = fs ++ [(f, d)] := by
  induction fs with
  | nil => rfl
  | cons p fs ih =>
    rw [List.map_cons, List.all_cons, Bool.and_eq_true] at h
    obtain ⟨x, v⟩ := p
    have hx : ¬ x = f := by simpa using h.1
    have := ih h.2
    simp [putD, hx, this]
theorem fldI_at {t : Adr} {C a dx : Addr} {f : Str} {fa : Rho → M D} {d : D} {fs : List (Str × D)} {rest : Rho} (hc : cs t C = true) (h : fa (some (.oin a C dx fs) :: rest) = ok d) (hd : d.imm = true) (xs : List Str) (hx : fs.map Prod.fst = xs) (hf : xs.all (fun p => p != f) = true) (hl : xs.length < 5) : sFldI (cs t) 0 f fa (some (.oin a C dx fs) :: rest) = some (.nx (some (.oin a C dx (fs ++ [(f, d)])) :: rest)) := by
  unfold sFldI
  rw [h]
  show (if d.imm = true then L2.PU.putAt (cs t) 0 f d (some (.oin a C dx fs) :: rest) else none) = _
  rw [if_pos hd]
  have hl' : fs.length < 5 := by rw [← hx, List.length_map] at hl; exact hl
  rw [← hx] at hf
  simp [L2.PU.putAt, hc, put_new hf]
  omega
theorem fldN_at {t : Adr} {C a dx : Addr} {f : Str} {d : D} {fs : List (Str × D)} {rest : Rho} {j : Nat} (hc : cs t C = true) (h : rest[j]? = some (some (.sh d))) (xs : List Str) (hx : fs.map Prod.fst = xs) (hf : xs.all (fun p => p != f) = true) (hl : xs.length < 5) : sFldN (cs t) 0 f (j + 1) (some (.oin a C dx fs) :: rest) = some (.nx (some (.oin a C dx (fs ++ [(f, d)])) :: rest)) := by
  unfold sFldN
  rw [List.getElem?_cons_succ, h]
  have hl' : fs.length < 5 := by rw [← hx, List.length_map] at hl; exact hl
  rw [← hx] at hf
  simp [L2.PU.putAt, hc, put_new hf]
  omega
theorem rounds_ini (t : Adr) : ∀ ds r a dx, iRounds ds = some r → iniResX a t.C_Rounds dx (den_Rounds___init__ t (fWhole t) (rhoI N_Rounds___init__ a t.C_Rounds dx ds)) = some r := by
  intro ds r a dx h
  unfold iRounds at h
  split at h
  · rename_i m
    split at h
    · rename_i hm
      cases h
      have e0 : rhoI N_Rounds___init__ a t.C_Rounds dx [.int m] = [some (.oin a t.C_Rounds dx []), some (.sh (.int m))] := rfl
      rw [e0]
      have w1 : app (fWhole t) (aCons (look 1) (aCons (con (.int 2)) aNil)) [some (.oin a t.C_Rounds dx []), some (.sh (.int m))] = ok (.bl true) := by
        rw [app_ok (aCons_ok (d := .int m) rfl (aCons_ok (d := .int 2) rfl aNil_ok)), whole_sp, decide_eq_true hm]
      unfold den_Rounds___init__
      rw [sSeq_nx (pass_not w1), sSeq_nx (fldN_at (j := 0) (d := .int m) (cs4 t) rfl [] rfl (by decide +kernel) (by decide)), sSeq_nx (fldI_at (d := .int 0) (cs4 t) rfl rfl ["many"] rfl (by decide +kernel) (by decide)), sSeq_nx (fldI_at (d := .int 1) (cs4 t) rfl rfl ["many", "nought"] rfl (by decide +kernel) (by decide))]
      simp [sNil, iniResX, iniRes, ok]
    · cases h
  · cases h
theorem seers_ini (t : Adr) : ∀ ds r a dx, iSeers ds = some r → ∃ fs, r = .ok fs ∧ iniRes a t.C_Seers dx (den_Seers___init__ t (rhoI N_Seers___init__ a t.C_Seers dx ds)) = ok fs := by
  intro ds r a dx h
  have h' := h
  unfold iSeers at h'
  split at h'
  · rename_i hx
    clear h'
    obtain ⟨P, rfl, hl⟩ := hx
    rw [iSeers_ok hl] at h
    cases h
    refine ⟨_, rfl, ?_⟩
    have e0 : rhoI N_Seers___init__ a t.C_Seers dx [.lst (P.map D.str)] = [some (.oin a t.C_Seers dx []), some (.sh (.lst (P.map D.str)))] := rfl
    rw [e0]
    unfold den_Seers___init__
    rw [sSeq_nx (fldI_at (d := .tup []) (cs5 t) rfl rfl [] rfl (by decide +kernel) (by decide))]
    have o1 : f1 toT (f1 srtD (f1 toS (look 1))) [some (.oin a t.C_Seers dx (([] : List (Str × D)) ++ [(("nought" : Str), D.tup [])])), some (.sh (.lst (P.map D.str)))] = ok (tS (srtS (metS P))) := f1_ok (f1_ok (f1_ok rfl (toS_lS P (by omega))) (srtD_set (metS_nodup P) (Nat.lt_of_le_of_lt (metS_le P) hl))) rfl
    rw [sSeq_nx (fldI_at (cs5 t) o1 (imm_tS _) ["nought"] rfl (by decide +kernel) (by decide))]
    simp [sNil, iniRes]
  · cases h'
theorem pairs_ini (t : Adr) : ∀ ds r a dx, iPairs t ds = some r → ∃ fs, r = .ok fs ∧ iniRes a t.C_Pairs dx (den_Pairs___init__ t (rhoI N_Pairs___init__ a t.C_Pairs dx ds)) = ok fs := by
  intro ds r a dx h
  unfold iPairs at h
  split at h
  · rename_i l r'
    split at h
    · rename_i C n o C' n' o' e1 e2
      split at h
      · rename_i hh
        obtain ⟨c1, c2, i1, i2, i3, i4⟩ := hh
        cases h
        refine ⟨_, rfl, ?_⟩
        have q : ∀ {d : D} {C n o}, way2 d = some (C, n, o) → ∃ fs, d = .obj C fs ∧ fs.lookup ("nought" : Str) = some n ∧ fs.lookup ("one" : Str) = some o := by
          intro d C n o e
          unfold way2 at e
          split at e
          · split at e
            · cases e; rename_i g1 g2; exact ⟨_, rfl, g1, g2⟩
            · cases e
          · cases e
        obtain ⟨fs1, rfl, g1, g2⟩ := q e1
        obtain ⟨fs2, rfl, g3, g4⟩ := q e2
        have e0 : rhoI N_Pairs___init__ a t.C_Pairs dx [.obj C fs1, .obj C' fs2] = [some (.oin a t.C_Pairs dx []), some (.sh (.obj C fs1)), some (.sh (.obj C' fs2))] := rfl
        rw [e0]
        unfold den_Pairs___init__
        rw [sSeq_nx (fldN_at (j := 0) (d := .obj C fs1) (cs6 t) rfl [] rfl (by decide +kernel) (by decide)), sSeq_nx (fldN_at (j := 1) (d := .obj C' fs2) (cs6 t) rfl ["left"] rfl (by decide +kernel) (by decide))]
        have n1 : ∀ z, mkT (aCons (fld (cs t) "nought" (look 1)) (aCons (fld (cs t) "nought" (look 2)) aNil)) [z, some (.sh (.obj C fs1)), some (.sh (.obj C' fs2))] = ok (.tup [n, n']) := fun z => mkT_ok (aCons_ok (fld_ok rfl c1 g1) (aCons_ok (fld_ok rfl c2 g3) aNil_ok))
        have n2 : ∀ z, mkT (aCons (fld (cs t) "one" (look 1)) (aCons (fld (cs t) "one" (look 2)) aNil)) [z, some (.sh (.obj C fs1)), some (.sh (.obj C' fs2))] = ok (.tup [o, o']) := fun z => mkT_ok (aCons_ok (fld_ok rfl c1 g2) (aCons_ok (fld_ok rfl c2 g4) aNil_ok))
        rw [sSeq_nx (fldI_at (cs6 t) (n1 _) (by simp [D.imm, immL, i1, i2]) ["left", "right"] rfl (by decide +kernel) (by decide)), sSeq_nx (fldI_at (cs6 t) (n2 _) (by simp [D.imm, immL, i3, i4]) ["left", "right", "nought"] rfl (by decide +kernel) (by decide))]
        simp [sNil, iniRes]
      · cases h
    · cases h
  · cases h
end K06

set_option Elab.async false
set_option linter.all false
set_option maxRecDepth 100000
set_option maxHeartbeats 4000000
namespace K06
open PySem PySem.Spec PyProof.Rows L2 L2.PU
/-! ### the methods, by class -/
open Classical in
noncomputable def mP (t : Adr) : Nat → Addr → Option (List D → M D)
  | 0 => fun _ => none
  | n + 1 => fun C => if C = t.C_Truths then some (viaD 3 fun ds => fnRes (den_Truths_plus t (rho0 N_Truths_plus ds))) else if C = t.C_Counts then some (viaD 3 fun ds => fnRes (den_Counts_plus t (rho0 N_Counts_plus ds)))
    else if C = t.C_Rounds then some (viaD 3 fun ds => fnRes (den_Rounds_plus t (rho0 N_Rounds_plus ds))) else if C = t.C_Costs then some (viaD 3 fun ds => fnRes (den_Costs_plus t (rho0 N_Costs_plus ds)))
    else if C = t.C_Seers then some (viaD 3 fun ds => fnRes (den_Seers_plus t (rho0 N_Seers_plus ds))) else if C = t.C_Pairs then some (viaD 3 fun ds => fnRes (den_Pairs_plus t (mP t n) (rho0 N_Pairs_plus ds))) else none
open Classical in
noncomputable def mT (t : Adr) : Nat → Addr → Option (List D → M D)
  | 0 => fun _ => none
  | n + 1 => fun C => if C = t.C_Truths then some (viaD 3 fun ds => fnRes (den_Truths_times t (rho0 N_Truths_times ds))) else if C = t.C_Counts then some (viaD 3 fun ds => fnRes (den_Counts_times t (rho0 N_Counts_times ds)))
    else if C = t.C_Rounds then some (viaD 3 fun ds => fnRes (den_Rounds_times t (rho0 N_Rounds_times ds))) else if C = t.C_Costs then some (viaD 3 fun ds => fnRes (den_Costs_times t (rho0 N_Costs_times ds)))
    else if C = t.C_Seers then some (viaD 3 fun ds => fnRes (den_Seers_times t (rho0 N_Seers_times ds))) else if C = t.C_Pairs then some (viaD 3 fun ds => fnRes (den_Pairs_times t (mT t n) (rho0 N_Pairs_times ds))) else none
section
variable {P : Program} {w : World} {K : PySem.W.Frag} {mg : Str → Option Value} {base : Heap} {t : Adr}
theorem mP_ok (X : Txt K mg t) : ∀ n C F, mP t n C = some F → Mth P w K mg base n C "plus" F := by
  intro n
  induction n with
  | zero => intro C F h; cases h
  | succ n ih =>
    intro C F h
    unfold mP at h
    split at h
    · rename_i e; cases h; rw [e]; exact ok_Truths_plus X viaD_len viaD_q
    split at h
    · rename_i e; cases h; rw [e]; exact ok_Counts_plus X viaD_len viaD_q
    split at h
    · rename_i e; cases h; rw [e]; exact ok_Rounds_plus X viaD_len viaD_q
    split at h
    · rename_i e; cases h; rw [e]; exact ok_Costs_plus X viaD_len viaD_q
    split at h
    · rename_i e; cases h; rw [e]; exact ok_Seers_plus X viaD_len viaD_q
    split at h
    · rename_i e; cases h; rw [e]; exact ok_Pairs_plus X ih viaD_len viaD_q
    · cases h
theorem mT_ok (X : Txt K mg t) : ∀ n C F, mT t n C = some F → Mth P w K mg base n C "times" F := by
  intro n
  induction n with
  | zero => intro C F h; cases h
  | succ n ih =>
    intro C F h
    unfold mT at h
    split at h
    · rename_i e; cases h; rw [e]; exact ok_Truths_times X viaD_len viaD_q
    split at h
    · rename_i e; cases h; rw [e]; exact ok_Counts_times X viaD_len viaD_q
    split at h
    · rename_i e; cases h; rw [e]; exact ok_Rounds_times X viaD_len viaD_q
    split at h
    · rename_i e; cases h; rw [e]; exact ok_Costs_times X viaD_len viaD_q
    split at h
    · rename_i e; cases h; rw [e]; exact ok_Seers_times X viaD_len viaD_q
    split at h
    · rename_i e; cases h; rw [e]; exact ok_Pairs_times X ih viaD_len viaD_q
    · cases h
end
section
variable {K : PySem.W.Frag} {mg : Str → Option Value} {t : Adr} (X : Txt K mg t)
include X
theorem p_truths (n : Nat) : mP t (n + 1) t.C_Truths = some (viaD 3 fun ds => fnRes (den_Truths_plus t (rho0 N_Truths_plus ds))) := by unfold mP; rw [if_pos rfl]
theorem p_counts (n : Nat) : mP t (n + 1) t.C_Counts = some (viaD 3 fun ds => fnRes (den_Counts_plus t (rho0 N_Counts_plus ds))) := by unfold mP; rw [if_neg X.ne_Counts_Truths, if_pos rfl]
theorem p_rounds (n : Nat) : mP t (n + 1) t.C_Rounds = some (viaD 3 fun ds => fnRes (den_Rounds_plus t (rho0 N_Rounds_plus ds))) := by unfold mP; rw [if_neg X.ne_Rounds_Truths, if_neg (Ne.symm X.ne_Counts_Rounds), if_pos rfl]
theorem p_costs (n : Nat) : mP t (n + 1) t.C_Costs = some (viaD 3 fun ds => fnRes (den_Costs_plus t (rho0 N_Costs_plus ds))) := by unfold mP; rw [if_neg X.ne_Costs_Truths, if_neg X.ne_Costs_Counts, if_neg X.ne_Costs_Rounds, if_pos rfl]
theorem p_seers (n : Nat) : mP t (n + 1) t.C_Seers = some (viaD 3 fun ds => fnRes (den_Seers_plus t (rho0 N_Seers_plus ds))) := by unfold mP; rw [if_neg X.ne_Seers_Truths, if_neg (Ne.symm X.ne_Counts_Seers), if_neg (Ne.symm X.ne_Rounds_Seers), if_neg (Ne.symm X.ne_Costs_Seers), if_pos rfl]
theorem p_pairs (n : Nat) : mP t (n + 1) t.C_Pairs = some (viaD 3 fun ds => fnRes (den_Pairs_plus t (mP t n) (rho0 N_Pairs_plus ds))) := by (conv => lhs; unfold mP); rw [if_neg X.ne_Pairs_Truths, if_neg (Ne.symm X.ne_Counts_Pairs), if_neg X.ne_Pairs_Rounds, if_neg (Ne.symm X.ne_Costs_Pairs), if_neg X.ne_Pairs_Seers, if_pos rfl]
theorem q_truths (n : Nat) : mT t (n + 1) t.C_Truths = some (viaD 3 fun ds => fnRes (den_Truths_times t (rho0 N_Truths_times ds))) := by unfold mT; rw [if_pos rfl]
theorem q_counts (n : Nat) : mT t (n + 1) t.C_Counts = some (viaD 3 fun ds => fnRes (den_Counts_times t (rho0 N_Counts_times ds))) := by unfold mT; rw [if_neg X.ne_Counts_Truths, if_pos rfl]
theorem q_rounds (n : Nat) : mT t (n + 1) t.C_Rounds = some (viaD 3 fun ds => fnRes (den_Rounds_times t (rho0 N_Rounds_times ds))) := by unfold mT; rw [if_neg X.ne_Rounds_Truths, if_neg (Ne.symm X.ne_Counts_Rounds), if_pos rfl]
theorem q_costs (n : Nat) : mT t (n + 1) t.C_Costs = some (viaD 3 fun ds => fnRes (den_Costs_times t (rho0 N_Costs_times ds))) := by unfold mT; rw [if_neg X.ne_Costs_Truths, if_neg X.ne_Costs_Counts, if_neg X.ne_Costs_Rounds, if_pos rfl]
theorem q_seers (n : Nat) : mT t (n + 1) t.C_Seers = some (viaD 3 fun ds => fnRes (den_Seers_times t (rho0 N_Seers_times ds))) := by unfold mT; rw [if_neg X.ne_Seers_Truths, if_neg (Ne.symm X.ne_Counts_Seers), if_neg (Ne.symm X.ne_Rounds_Seers), if_neg (Ne.symm X.ne_Costs_Seers), if_pos rfl]
theorem q_pairs (n : Nat) : mT t (n + 1) t.C_Pairs = some (viaD 3 fun ds => fnRes (den_Pairs_times t (mT t n) (rho0 N_Pairs_times ds))) := by (conv => lhs; unfold mT); rw [if_neg X.ne_Pairs_Truths, if_neg (Ne.symm X.ne_Counts_Pairs), if_neg X.ne_Pairs_Rounds, if_neg (Ne.symm X.ne_Costs_Pairs), if_neg X.ne_Pairs_Seers, if_pos rfl]
end
end K06

set_option Elab.async false
set_option linter.all false
set_option maxRecDepth 100000
set_option maxHeartbeats 4000000
namespace K06
open PySem PySem.Spec PyProof.Rows L2 L2.PU
/-! ### what the methods come to -/
theorem tp_sp (t : Adr) (o : D) (a b : Bool) : (viaD 3 fun ds => fnRes (den_Truths_plus t (rho0 N_Truths_plus ds))) [o, .bl a, .bl b] = ok (.bl (a || b)) := by
  refine viaD_of rfl ?_
  have e0 : rho0 N_Truths_plus [o, .bl a, .bl b] = [some (.sh o), some (.sh (.bl a)), some (.sh (.bl b))] := rfl
  rw [e0]
  unfold den_Truths_plus
  rw [sSeq_rt (sRet_ok (orV_ok (a := a) (b := b) rfl rfl))]
  rfl
theorem tt_sp (t : Adr) (o : D) (a b : Bool) : (viaD 3 fun ds => fnRes (den_Truths_times t (rho0 N_Truths_times ds))) [o, .bl a, .bl b] = ok (.bl (a && b)) := by
  refine viaD_of rfl ?_
  have e0 : rho0 N_Truths_times [o, .bl a, .bl b] = [some (.sh o), some (.sh (.bl a)), some (.sh (.bl b))] := rfl
  rw [e0]
  unfold den_Truths_times
  rw [sSeq_rt (sRet_ok (andV_ok (a := a) (b := b) rfl rfl))]
  rfl
theorem cp_sp (t : Adr) (o : D) (a b : Int) : (viaD 3 fun ds => fnRes (den_Counts_plus t (rho0 N_Counts_plus ds))) [o, .int a, .int b] = ok (.int (a + b)) := viaD_of rfl rfl
theorem ct_sp (t : Adr) (o : D) {a b : Int} (h : mulB a b = true) : (viaD 3 fun ds => fnRes (den_Counts_times t (rho0 N_Counts_times ds))) [o, .int a, .int b] = ok (.int (a * b)) := by
  refine viaD_of rfl ?_
  have e0 : rho0 N_Counts_times [o, .int a, .int b] = [some (.sh o), some (.sh (.int a)), some (.sh (.int b))] := rfl
  rw [e0]
  unfold den_Counts_times
  rw [sSeq_rt (sRet_ok (mul_ok (i := a) (j := b) rfl rfl h))]
  rfl
theorem rp_sp (t : Adr) {m a b : Int} (hm : 2 ≤ m) : (viaD 3 fun ds => fnRes (den_Rounds_plus t (rho0 N_Rounds_plus ds))) [oRounds t m, .int a, .int b] = ok (.int ((a + b) % m)) := by
  refine viaD_of rfl ?_
  have e0 : rho0 N_Rounds_plus [oRounds t m, .int a, .int b] = [some (.sh (oRounds t m)), some (.sh (.int a)), some (.sh (.int b))] := rfl
  rw [e0]
  unfold den_Rounds_plus
  rw [sSeq_rt (sRet_ok (mod_ok (add_ok (i := a) (j := b) rfl rfl) (fld_ok (C := t.C_Rounds) (d := .int m) rfl (cs4 t) rfl) (by omega)))]
  rfl
theorem rt_sp (t : Adr) {m a b : Int} (hm : 2 ≤ m) (h : mulB a b = true) : (viaD 3 fun ds => fnRes (den_Rounds_times t (rho0 N_Rounds_times ds))) [oRounds t m, .int a, .int b] = ok (.int (a * b % m)) := by
  refine viaD_of rfl ?_
  have e0 : rho0 N_Rounds_times [oRounds t m, .int a, .int b] = [some (.sh (oRounds t m)), some (.sh (.int a)), some (.sh (.int b))] := rfl
  rw [e0]
  unfold den_Rounds_times
  rw [sSeq_rt (sRet_ok (mod_ok (mul_ok (i := a) (j := b) rfl rfl h) (fld_ok (C := t.C_Rounds) (d := .int m) rfl (cs4 t) rfl) (by omega)))]
  rfl
theorem op_sp (t : Adr) (o : D) (a b : Option Int) : (viaD 3 fun ds => fnRes (den_Costs_plus t (rho0 N_Costs_plus ds))) [o, dC a, dC b] = ok (dC (lo a b)) := by
  refine viaD_of rfl ?_
  have e0 : rho0 N_Costs_plus [o, dC a, dC b] = [some (.sh o), some (.sh (dC a)), some (.sh (dC b))] := rfl
  rw [e0]
  cases a <;> cases b <;> rfl
theorem ot_sp (t : Adr) (o : D) (a b : Option Int) : (viaD 3 fun ds => fnRes (den_Costs_times t (rho0 N_Costs_times ds))) [o, dC a, dC b] = ok (dC (su a b)) := by
  refine viaD_of rfl ?_
  have e0 : rho0 N_Costs_times [o, dC a, dC b] = [some (.sh o), some (.sh (dC a)), some (.sh (dC b))] := rfl
  rw [e0]
  cases a <;> cases b <;> rfl
section
variable {P xs ys : List Str} (hn : P.Nodup) (hs : P.Pairwise (fun a b => leS a b = true)) (hl : P.length ≤ 30) (hx : xs.Sublist P) (hy : ys.Sublist P)
include hn hs hl hx hy
theorem sp_sp (t : Adr) (o : D) : (viaD 3 fun ds => fnRes (den_Seers_plus t (rho0 N_Seers_plus ds))) [o, tS xs, tS ys] = ok (tS (P.filter fun k => xs.contains k || ys.contains k)) := by
  refine viaD_of rfl ?_
  have e0 : rho0 N_Seers_plus [o, tS xs, tS ys] = [some (.sh o), some (.sh (tS xs)), some (.sh (tS ys))] := rfl
  rw [e0]
  have l1 := hx.length_le
  have l2 := hy.length_le
  have n1 := ppl_nodup hn hx
  have n2 := ppl_nodup hn hy
  have u1 : b2 gSOr (f1 toS (look 1)) (f1 toS (look 2)) [some (.sh o), some (.sh (tS xs)), some (.sh (tS ys))] = ok (.set (uniS xs ys)) := by
    refine b2_ok (f1_ok (d := tS xs) rfl (toS_tS n1 (by omega))) (f1_ok (d := tS ys) rfl (toS_tS n2 (by omega))) ?_
    show (if _ then _ else _) = _
    rw [if_pos ⟨n1, n2, by omega⟩]
  have ul := uni_le xs ys
  unfold den_Seers_plus
  rw [sSeq_rt (sRet_ok (f1_ok (g := toT) (f1_ok u1 (srtD_set (uni_nodup n1 ys) (by omega))) rfl)), ppl_or hn hs hx hy]
  rfl
theorem st_sp (t : Adr) (o : D) : (viaD 3 fun ds => fnRes (den_Seers_times t (rho0 N_Seers_times ds))) [o, tS xs, tS ys] = ok (tS (P.filter fun k => xs.contains k && ys.contains k)) := by
  refine viaD_of rfl ?_
  have e0 : rho0 N_Seers_times [o, tS xs, tS ys] = [some (.sh o), some (.sh (tS xs)), some (.sh (tS ys))] := rfl
  rw [e0]
  have l1 := hx.length_le
  have l2 := hy.length_le
  have n1 := ppl_nodup hn hx
  have n2 := ppl_nodup hn hy
  have u1 : b2 gSAnd (f1 toS (look 1)) (f1 toS (look 2)) [some (.sh o), some (.sh (tS xs)), some (.sh (tS ys))] = ok (.set (capS xs ys)) := by
    refine b2_ok (f1_ok (d := tS xs) rfl (toS_tS n1 (by omega))) (f1_ok (d := tS ys) rfl (toS_tS n2 (by omega))) ?_
    show (if _ then _ else _) = _
    rw [if_pos ⟨n1, n2, by omega, by omega⟩]
  have ul : (capS xs ys).length ≤ xs.length := List.length_filter_le _ _
  have un : (capS xs ys).Nodup := List.Sublist.nodup List.filter_sublist n1
  unfold den_Seers_times
  rw [sSeq_rt (sRet_ok (f1_ok (g := toT) (f1_ok u1 (srtD_set un (by omega))) rfl)), ppl_and hn hs hx hy]
  rfl
end
theorem pp_sp (t : Adr) {M : Addr → Option (List D → M D)} {C1 C2 : Addr} {f1 f2 : List (Str × D)} {F1 F2 : List D → L2.PU.M D} {n o a0 a1 b0 b1 x y : D} (h1 : M C1 = some F1) (h2 : M C2 = some F2) (k1 : f1.lookup ("plus" : Str) = none) (k2 : f2.lookup ("plus" : Str) = none) (g1 : F1 [.obj C1 f1, a0, b0] = ok x) (g2 : F2 [.obj C2 f2, a1, b1] = ok y) :
    (viaD 3 fun ds => fnRes (den_Pairs_plus t M (rho0 N_Pairs_plus ds))) [oPair t (.obj C1 f1) (.obj C2 f2) n o, .tup [a0, a1], .tup [b0, b1]] = ok (.tup [x, y]) := by
  refine viaD_of rfl ?_
  have e0 : rho0 N_Pairs_plus [oPair t (.obj C1 f1) (.obj C2 f2) n o, .tup [a0, a1], .tup [b0, b1]] = [some (.sh (oPair t (.obj C1 f1) (.obj C2 f2) n o)), some (.sh (.tup [a0, a1])), some (.sh (.tup [b0, b1]))] := rfl
  rw [e0]
  unfold den_Pairs_plus
  rw [sSeq_rt (sRet_ok (mkT_ok (aCons_ok ((appM_ok (fld_ok (C := t.C_Pairs) (d := .obj C1 f1) rfl (cs6 t) rfl) h1 k1 (aCons_ok (d := a0) rfl (aCons_ok (d := b0) rfl aNil_ok))).trans g1) (aCons_ok ((appM_ok (fld_ok (C := t.C_Pairs) (d := .obj C2 f2) rfl (cs6 t) rfl) h2 k2 (aCons_ok (d := a1) rfl (aCons_ok (d := b1) rfl aNil_ok))).trans g2) aNil_ok))))]
  rfl
theorem pt_sp (t : Adr) {M : Addr → Option (List D → M D)} {C1 C2 : Addr} {f1 f2 : List (Str × D)} {F1 F2 : List D → L2.PU.M D} {n o a0 a1 b0 b1 x y : D} (h1 : M C1 = some F1) (h2 : M C2 = some F2) (k1 : f1.lookup ("times" : Str) = none) (k2 : f2.lookup ("times" : Str) = none) (g1 : F1 [.obj C1 f1, a0, b0] = ok x) (g2 : F2 [.obj C2 f2, a1, b1] = ok y) :
    (viaD 3 fun ds => fnRes (den_Pairs_times t M (rho0 N_Pairs_times ds))) [oPair t (.obj C1 f1) (.obj C2 f2) n o, .tup [a0, a1], .tup [b0, b1]] = ok (.tup [x, y]) := by
  refine viaD_of rfl ?_
  have e0 : rho0 N_Pairs_times [oPair t (.obj C1 f1) (.obj C2 f2) n o, .tup [a0, a1], .tup [b0, b1]] = [some (.sh (oPair t (.obj C1 f1) (.obj C2 f2) n o)), some (.sh (.tup [a0, a1])), some (.sh (.tup [b0, b1]))] := rfl
  rw [e0]
  unfold den_Pairs_times
  rw [sSeq_rt (sRet_ok (mkT_ok (aCons_ok ((appM_ok (fld_ok (C := t.C_Pairs) (d := .obj C1 f1) rfl (cs6 t) rfl) h1 k1 (aCons_ok (d := a0) rfl (aCons_ok (d := b0) rfl aNil_ok))).trans g1) (aCons_ok ((appM_ok (fld_ok (C := t.C_Pairs) (d := .obj C2 f2) rfl (cs6 t) rfl) h2 k2 (aCons_ok (d := a1) rfl (aCons_ok (d := b1) rfl aNil_ok))).trans g2) aNil_ok))))]
  rfl
section
variable {K : PySem.W.Frag} {mg : Str → Option Value} {t : Adr} (X : Txt K mg t)
include X
/-- the deep ones -/
theorem deep_plus {f : Rho → M D} {g : Rho → M (List D)} {ρ : Rho} (k : Nat) {m : Int} (hm : 2 ≤ m) {n n' r r' : Int} {c c' : Option Int} (h1 : f ρ = ok (oDeep t m)) (h2 : g ρ = ok [mD n c r, mD n' c' r']) : appM "plus" (mP t (k + 3)) f g ρ = ok (mD (n + n') (lo c c') ((r + r') % m)) :=
  (appM_ok (C := t.C_Pairs) h1 (p_pairs X (k + 2)) rfl h2).trans (pp_sp t (p_pairs X (k + 1)) (p_rounds X (k + 1)) rfl rfl (pp_sp t (p_counts X k) (p_costs X k) rfl rfl (cp_sp t _ n n') (op_sp t _ c c')) (rp_sp t hm))
theorem deep_times {f : Rho → M D} {g : Rho → M (List D)} {ρ : Rho} (k : Nat) {m : Int} (hm : 2 ≤ m) {n n' r r' : Int} {c c' : Option Int} (q1 : mulB n n' = true) (q2 : mulB r r' = true) (h1 : f ρ = ok (oDeep t m)) (h2 : g ρ = ok [mD n c r, mD n' c' r']) : appM "times" (mT t (k + 3)) f g ρ = ok (mD (n * n') (su c c') (r * r' % m)) :=
  (appM_ok (C := t.C_Pairs) h1 (q_pairs X (k + 2)) rfl h2).trans (pt_sp t (q_pairs X (k + 1)) (q_rounds X (k + 1)) rfl rfl (pt_sp t (q_counts X k) (q_costs X k) rfl rfl (ct_sp t _ q1) (ot_sp t _ c c')) (rt_sp t hm q2))
noncomputable def sD (b : Bool) (xs : List Str) : D := .tup [.bl b, tS xs]
section
variable {P xs ys : List Str} (hn : P.Nodup) (hs : P.Pairwise (fun a b => leS a b = true)) (hl : P.length ≤ 30) (hx : xs.Sublist P) (hy : ys.Sublist P)
include hn hs hl hx hy
theorem seen_plus {f : Rho → M D} {g : Rho → M (List D)} {ρ : Rho} (k : Nat) {a b : Bool} (h1 : f ρ = ok (oSeen t P)) (h2 : g ρ = ok [.tup [.bl a, tS xs], .tup [.bl b, tS ys]]) : appM "plus" (mP t (k + 2)) f g ρ = ok (.tup [.bl (a || b), tS (P.filter fun k => xs.contains k || ys.contains k)]) :=
  (appM_ok (C := t.C_Pairs) h1 (p_pairs X (k + 1)) rfl h2).trans (pp_sp t (p_truths X k) (p_seers X k) rfl rfl (tp_sp t _ a b) (sp_sp hn hs hl hx hy t _))
theorem seen_times {f : Rho → M D} {g : Rho → M (List D)} {ρ : Rho} (k : Nat) {a b : Bool} (h1 : f ρ = ok (oSeen t P)) (h2 : g ρ = ok [.tup [.bl a, tS xs], .tup [.bl b, tS ys]]) : appM "times" (mT t (k + 2)) f g ρ = ok (.tup [.bl (a && b), tS (P.filter fun k => xs.contains k && ys.contains k)]) :=
  (appM_ok (C := t.C_Pairs) h1 (q_pairs X (k + 1)) rfl h2).trans (pt_sp t (q_truths X k) (q_seers X k) rfl rfl (tt_sp t _ a b) (st_sp hn hs hl hx hy t _))
end
end
end K06

set_option Elab.async false
set_option linter.all false
set_option maxRecDepth 100000
set_option maxHeartbeats 4000000
namespace K06
open PySem PySem.Spec PyProof.Rows L2 L2.PU
/-! ### some of the people -/
noncomputable def bodyS : Rho → Option Out := (sSeq (sIf (testB (b2 gEq (b2 gMod (look 1) (con (.int 2))) (con (.int 1)))) (sSeq (sOwn lApp 2 (aCons (look 3) aNil))
    sNil) sNil)
    (sSeq (sSet 1 (b2 gFdiv (look 1) (con (.int 2))))
    sNil))
theorem some_loop {x : D} : ∀ (l acc : List Str) (b : Int) (o : Option SV), acc.length + l.length ≤ 1000 → ∃ (xs : List Str) (b' : Int) (o' : Option SV), xs.Sublist l ∧ loop (gN 3) bodyS (l.map D.str) [some (.sh x), some (.sh (.int b)), some (.own (acc.map D.str)), o] = some (.nx [some (.sh x), some (.sh (.int b')), some (.own ((acc ++ xs).map D.str)), o'])
  | [], acc, b, o, _ => ⟨[], b, o, .slnil, by simp [loop]⟩
  | k :: l, acc, b, o, hl => by
    rw [List.length_cons] at hl
    have tb := testB_ok (eqi_ok (mod_ok (f := look 1) (g := con (.int 2)) (ρ := [some (.sh x), some (.sh (.int b)), some (.own (acc.map D.str)), some (.sh (.str k))]) (i := b) (j := 2) rfl rfl (by decide)) (g := con (.int 1)) (j := 1) rfl)
    have fd : ∀ acc' : List Str, sSeq (sSet 1 (b2 gFdiv (look 1) (con (.int 2)))) sNil [some (.sh x), some (.sh (.int b)), some (.own (acc'.map D.str)), some (.sh (.str k))] = some (.nx [some (.sh x), some (.sh (.int (b / 2))), some (.own (acc'.map D.str)), some (.sh (.str k))]) := fun acc' => by
      rw [sSeq_nx (sSet_imm (fdiv_ok (i := b) (j := 2) rfl rfl (by decide) (by decide)) rfl)]
      rfl
    have st : ∀ ρ2, bodyS [some (.sh x), some (.sh (.int b)), some (.own (acc.map D.str)), some (.sh (.str k))] = some (.nx ρ2) → loop (gN 3) bodyS ((k :: l).map D.str) [some (.sh x), some (.sh (.int b)), some (.own (acc.map D.str)), o] = loop (gN 3) bodyS (l.map D.str) ρ2 := fun ρ2 e => by
      rw [List.map_cons]
      exact loop_cons rfl e
    by_cases hb : b % 2 = 1
    · rw [decide_eq_true hb] at tb
      have o1 : sOwn lApp 2 (aCons (look 3) aNil) [some (.sh x), some (.sh (.int b)), some (.own (acc.map D.str)), some (.sh (.str k))] = some (.nx [some (.sh x), some (.sh (.int b)), some (.own ((acc ++ [k]).map D.str)), some (.sh (.str k))]) := by
        unfold sOwn
        show lft _ _ _ = _
        rw [aCons_ok (d := .str k) rfl aNil_ok]
        show (if immL [D.str k] = true ∧ (acc.map D.str).length < 100000 then (match lApp (acc.map D.str) [D.str k] with | some ds' => some (Out.nx ([some (.sh x), some (.sh (.int b)), some (.own (acc.map D.str)), some (.sh (.str k))].set 2 (some (.own ds')))) | none => none) else none) = _
        rw [if_pos ⟨rfl, by rw [List.length_map]; omega⟩, List.map_append]
        rfl
      obtain ⟨xs, b', o', h1, h2⟩ := some_loop (x := x) l (acc ++ [k]) (b / 2) (some (.sh (.str k))) (by rw [List.length_append, List.length_singleton]; omega)
      refine ⟨k :: xs, b', o', h1.cons₂ k, ?_⟩
      have e : bodyS [some (.sh x), some (.sh (.int b)), some (.own (acc.map D.str)), some (.sh (.str k))] = some (.nx [some (.sh x), some (.sh (.int (b / 2))), some (.own ((acc ++ [k]).map D.str)), some (.sh (.str k))]) := by
        unfold bodyS
        rw [sSeq_nx ((sIf_t tb).trans (sSeq_nx o1))]
        exact fd (acc ++ [k])
      rw [st _ e, h2, List.append_assoc]
      rfl
    · rw [decide_eq_false hb] at tb
      obtain ⟨xs, b', o', h1, h2⟩ := some_loop (x := x) l acc (b / 2) (some (.sh (.str k))) (by omega)
      refine ⟨xs, b', o', h1.cons k, ?_⟩
      have e : bodyS [some (.sh x), some (.sh (.int b)), some (.own (acc.map D.str)), some (.sh (.str k))] = some (.nx [some (.sh x), some (.sh (.int (b / 2))), some (.own (acc.map D.str)), some (.sh (.str k))]) := by
        unfold bodyS
        rw [sSeq_nx ((sIf_f tb).trans rfl)]
        exact fd acc
      rw [st _ e, h2]
noncomputable def fSome (t : Adr) : List D → M D := viaD 2 fun ds => fnRes (den_law_some t (rho0 N_law_some ds))
theorem some_sp (t : Adr) {P : List Str} (hl : P.length ≤ 100) (b : Int) : ∃ xs : List Str, xs.Sublist P ∧ fSome t [.lst (P.map D.str), .int b] = ok (tS xs) := by
  obtain ⟨xs, b', o', h1, h2⟩ := some_loop (x := .lst (P.map D.str)) P [] b none (by simp; omega)
  refine ⟨xs, h1, viaD_of rfl ?_⟩
  have e0 : rho0 N_law_some [.lst (P.map D.str), .int b] = [some (.sh (.lst (P.map D.str))), some (.sh (.int b)), none, none] := rfl
  rw [e0]
  unfold den_law_some
  have s1 : sNew 2 aNil [some (.sh (.lst (P.map D.str))), some (.sh (.int b)), none, none] = some (.nx [some (.sh (.lst (P.map D.str))), some (.sh (.int b)), some (.own []), none]) := by simp [sNew, aNil, ok, lft, immL]
  rw [sSeq_nx s1]
  have s2 : sForN 0 (gN 3) bodyS [some (.sh (.lst (P.map D.str))), some (.sh (.int b)), some (.own []), none] = some (.nx [some (.sh (.lst (P.map D.str))), some (.sh (.int b')), some (.own (xs.map D.str)), o']) := h2
  show fnRes (sSeq (sForN 0 (gN 3) bodyS) _ _) = _
  rw [sSeq_nx s2]
  rfl
/-! ### two marks of a way -/
noncomputable abbrev R6 (o m a b : D) (x y : Option SV) : Rho := [some (.sh o), some (.sh m), some (.sh a), some (.sh b), x, y]
theorem pl_mD (n : Int) (c : Option Int) (r : Int) : (mD n c r).pl = true := by simp [mD, D.pl, plL, pl_dC]
theorem dep_mD (n : Int) (c : Option Int) (r : Int) : (mD n c r).dep = 2 := by simp [mD, D.dep, depL, dep_dC]
theorem imm_mD (n : Int) (c : Option Int) (r : Int) : (mD n c r).imm = true := by simp [mD, D.imm, immL, imm_dC]
theorem same_two {k : Nat} {x : D} (hp : x.pl = true) (hd : x.dep + 1 < k) : fSame k [.tup [x, x], .tup [x, x]] = ok (.bl true) :=
  fSame_self (by simp [D.pl, plL, hp]) (by show max x.dep (max x.dep 0) + 1 < k; omega)
section
variable {K : PySem.W.Frag} {mg : Str → Option Value} {t : Adr} (X : Txt K mg t)
include X
noncomputable def fTwo (t : Adr) (k n : Nat) : List D → M D := viaD 4 fun ds => fnRes (den_law_two t (fLesser t) (fSame k) (fSummed t) (mP t n) (mT t n) (rho0 N_law_two ds))
theorem two_sp {k j : Nat} (hk : 3 < k) {m : Int} (hm : 2 ≤ m) {n n' r r' : Int} {c c' : Option Int} (q1 : mulB n n' = true) (q2 : mulB r r' = true) (q3 : mulB n' n = true) (q4 : mulB r' r = true) :
    fTwo t k (j + 3) [oDeep t m, .int m, mD n c r, mD n' c' r'] = ok (.bl true) := by
  refine viaD_of rfl ?_
  have e0 : rho0 N_law_two [oDeep t m, .int m, mD n c r, mD n' c' r'] = R6 (oDeep t m) (.int m) (mD n c r) (mD n' c' r') none none := rfl
  rw [e0]
  unfold den_law_two
  have e4 : mkT (aCons (mkT (aCons (b2 gPlus (b2 gIx (b2 gIx (look 2) (con (.int 0))) (con (.int 0))) (b2 gIx (b2 gIx (look 3) (con (.int 0))) (con (.int 0)))) (aCons (app (fLesser t) (aCons (b2 gIx (b2 gIx (look 2) (con (.int 0))) (con (.int 1))) (aCons (b2 gIx (b2 gIx (look 3) (con (.int 0))) (con (.int 1))) aNil))) aNil))) (aCons (b2 gMod (b2 gPlus (b2 gIx (look 2) (con (.int 1))) (b2 gIx (look 3) (con (.int 1)))) (look 1)) aNil)) (R6 (oDeep t m) (.int m) (mD n c r) (mD n' c' r') none none) = ok (mD (n + n') (lo c c') ((r + r') % m)) :=
    mkT_ok (aCons_ok (mkT_ok (aCons_ok (add_ok (i := n) (j := n') rfl rfl) (aCons_ok ((app_ok (aCons_ok (d := dC c) rfl (aCons_ok (d := dC c') rfl aNil_ok))).trans (lesser_sp t c c')) aNil_ok))) (aCons_ok (mod_ok (add_ok (i := r) (j := r') rfl rfl) (j := m) rfl (by omega)) aNil_ok))
  rw [sSeq_nx (sSet_imm e4 (imm_mD _ _ _))]
  show fnRes (sSeq _ _ (R6 (oDeep t m) (.int m) (mD n c r) (mD n' c' r') (some (.sh (mD (n + n') (lo c c') ((r + r') % m)))) none)) = _
  have e5 : mkT (aCons (mkT (aCons (b2 gTimes (b2 gIx (b2 gIx (look 2) (con (.int 0))) (con (.int 0))) (b2 gIx (b2 gIx (look 3) (con (.int 0))) (con (.int 0)))) (aCons (app (fSummed t) (aCons (b2 gIx (b2 gIx (look 2) (con (.int 0))) (con (.int 1))) (aCons (b2 gIx (b2 gIx (look 3) (con (.int 0))) (con (.int 1))) aNil))) aNil))) (aCons (b2 gMod (b2 gTimes (b2 gIx (look 2) (con (.int 1))) (b2 gIx (look 3) (con (.int 1)))) (look 1)) aNil)) (R6 (oDeep t m) (.int m) (mD n c r) (mD n' c' r') (some (.sh (mD (n + n') (lo c c') ((r + r') % m)))) none) = ok (mD (n * n') (su c c') (r * r' % m)) :=
    mkT_ok (aCons_ok (mkT_ok (aCons_ok (mul_ok (i := n) (j := n') rfl rfl q1) (aCons_ok ((app_ok (aCons_ok (d := dC c) rfl (aCons_ok (d := dC c') rfl aNil_ok))).trans (summed_sp t c c')) aNil_ok))) (aCons_ok (mod_ok (mul_ok (i := r) (j := r') rfl rfl q2) (j := m) rfl (by omega)) aNil_ok))
  rw [sSeq_nx (sSet_imm e5 (imm_mD _ _ _))]
  show fnRes (sSeq _ _ (R6 (oDeep t m) (.int m) (mD n c r) (mD n' c' r') (some (.sh (mD (n + n') (lo c c') ((r + r') % m)))) (some (.sh (mD (n * n') (su c c') (r * r' % m)))))) = _
  generalize hρ : R6 (oDeep t m) (.int m) (mD n c r) (mD n' c' r') (some (.sh (mD (n + n') (lo c c') ((r + r') % m)))) (some (.sh (mD (n * n') (su c c') (r * r' % m)))) = ρ
  have l0 : look 0 ρ = ok (oDeep t m) := by rw [← hρ]; rfl
  have l2 : look 2 ρ = ok (mD n c r) := by rw [← hρ]; rfl
  have l3 : look 3 ρ = ok (mD n' c' r') := by rw [← hρ]; rfl
  have l4 : look 4 ρ = ok (mD (n + n') (lo c c') ((r + r') % m)) := by rw [← hρ]; rfl
  have l5 : look 5 ρ = ok (mD (n * n') (su c c') (r * r' % m)) := by rw [← hρ]; rfl
  have p1 := deep_plus X j hm l0 (aCons_ok l2 (aCons_ok l3 aNil_ok))
  have p2 := deep_plus X j hm l0 (aCons_ok l3 (aCons_ok l2 aNil_ok))
  rw [Int.add_comm n' n, lo_comm c' c, Int.add_comm r' r] at p2
  have p3 := deep_times X j hm q1 q2 l0 (aCons_ok l2 (aCons_ok l3 aNil_ok))
  have p4 := deep_times X j hm q3 q4 l0 (aCons_ok l3 (aCons_ok l2 aNil_ok))
  rw [Int.mul_comm n' n, su_comm c' c, Int.mul_comm r' r] at p4
  have k1 : app (fSame k) (aCons (mkT (aCons (appM "plus" (mP t (j + 3)) (look 0) (aCons (look 2) (aCons (look 3) aNil))) (aCons (appM "plus" (mP t (j + 3)) (look 0) (aCons (look 3) (aCons (look 2) aNil))) aNil))) (aCons (mkT (aCons (look 4) (aCons (look 4) aNil))) aNil)) ρ = ok (.bl true) := by
    rw [app_ok (aCons_ok (mkT_ok (aCons_ok p1 (aCons_ok p2 aNil_ok))) (aCons_ok (mkT_ok (aCons_ok l4 (aCons_ok l4 aNil_ok))) aNil_ok))]
    exact same_two (pl_mD _ _ _) (by rw [dep_mD]; omega)
  have k2 : app (fSame k) (aCons (mkT (aCons (appM "times" (mT t (j + 3)) (look 0) (aCons (look 2) (aCons (look 3) aNil))) (aCons (appM "times" (mT t (j + 3)) (look 0) (aCons (look 3) (aCons (look 2) aNil))) aNil))) (aCons (mkT (aCons (look 5) (aCons (look 5) aNil))) aNil)) ρ = ok (.bl true) := by
    rw [app_ok (aCons_ok (mkT_ok (aCons_ok p3 (aCons_ok p4 aNil_ok))) (aCons_ok (mkT_ok (aCons_ok l5 (aCons_ok l5 aNil_ok))) aNil_ok))]
    exact same_two (pl_mD _ _ _) (by rw [dep_mD]; omega)
  rw [sSeq_nx (pass_not k1), sSeq_rt (sRet_ok k2)]
  rfl
noncomputable def fSeen (t : Adr) (k n : Nat) : List D → M D := viaD 4 fun ds => fnRes (den_law_seen t (fSame k) (mP t n) (mT t n) (rho0 N_law_seen ds))
theorem filter_or_comm (P xs ys : List Str) : (P.filter fun k => ys.contains k || xs.contains k) = P.filter fun k => xs.contains k || ys.contains k := by congr 1; funext k; exact Bool.or_comm _ _
theorem filter_and_comm (P xs ys : List Str) : (P.filter fun k => ys.contains k && xs.contains k) = P.filter fun k => xs.contains k && ys.contains k := by congr 1; funext k; exact Bool.and_comm _ _
theorem seen_sp {k j : Nat} (hk : 3 < k) {P xs ys : List Str} (hn : P.Nodup) (hs : P.Pairwise (fun a b => leS a b = true)) (hl : P.length ≤ 30) (hx : xs.Sublist P) (hy : ys.Sublist P) (a b : Bool) :
    fSeen t k (j + 2) [oSeen t P, .lst (P.map D.str), .tup [.bl a, tS xs], .tup [.bl b, tS ys]] = ok (.bl true) := by
  refine viaD_of rfl ?_
  have e0 : rho0 N_law_seen [oSeen t P, .lst (P.map D.str), .tup [.bl a, tS xs], .tup [.bl b, tS ys]] = R6 (oSeen t P) (.lst (P.map D.str)) (.tup [.bl a, tS xs]) (.tup [.bl b, tS ys]) none none := rfl
  rw [e0]
  have pS : ∀ (z : Bool) (zs : List Str), zs.length ≤ 1000 → (D.tup [.bl z, tS zs]).pl = true := fun z zs h => by
    show (true && ((D.bl z).pl && ((tS zs).pl && true))) = true
    rw [pl_tS zs h]; rfl
  have dS : ∀ (z : Bool) (zs : List Str), (D.tup [.bl z, tS zs]).dep ≤ 2 := fun z zs => by
    show max (D.bl z).dep (max (tS zs).dep 0) + 1 ≤ 2
    have := dep_tS zs
    have e : (D.bl z).dep = 0 := rfl
    omega
  have iS : ∀ (z : Bool) (zs : List Str), (D.tup [.bl z, tS zs]).imm = true := fun z zs => by
    show ((D.bl z).imm && ((tS zs).imm && true)) = true
    rw [imm_tS]; rfl
  unfold den_law_seen
  have c4 : f1 toT (cmp 1 (itE (look 1)) [6] h1 (orB (testB (b2 (gIn false) (look 6) (b2 gIx (look 2) (con (.int 1))))) (testB (b2 (gIn false) (look 6) (b2 gIx (look 3) (con (.int 1)))))) (look 6)) (R6 (oSeen t P) (.lst (P.map D.str)) (.tup [.bl a, tS xs]) (.tup [.bl b, tS ys]) none none) = ok (tS (P.filter fun k => xs.contains k || ys.contains k)) :=
    f1_ok (cmp_ok (l := P) (p := fun k => xs.contains k || ys.contains k) (g := D.str) rfl (by omega) (fun z _ => orB_ok (testB_ok (in_ok (neg := false) (x := z) (h := xs) rfl rfl)) (testB_ok (in_ok (neg := false) (x := z) (h := ys) rfl rfl))) (fun z _ _ => ⟨rfl, rfl⟩)) rfl
  have e4 := mkT_ok (aCons_ok (orV_ok (f := b2 gIx (look 2) (con (.int 0))) (g := b2 gIx (look 3) (con (.int 0))) (a := a) (b := b) rfl rfl) (aCons_ok c4 aNil_ok))
  rw [sSeq_nx (sSet_imm e4 (iS _ _))]
  generalize hv : D.tup [.bl (a || b), tS (P.filter fun k => xs.contains k || ys.contains k)] = v
  show fnRes (sSeq _ _ (R6 (oSeen t P) (.lst (P.map D.str)) (.tup [.bl a, tS xs]) (.tup [.bl b, tS ys]) (some (.sh v)) none)) = _
  have c5 : f1 toT (cmp 1 (itE (look 1)) [6] h1 (andB (testB (b2 (gIn false) (look 6) (b2 gIx (look 2) (con (.int 1))))) (testB (b2 (gIn false) (look 6) (b2 gIx (look 3) (con (.int 1)))))) (look 6)) (R6 (oSeen t P) (.lst (P.map D.str)) (.tup [.bl a, tS xs]) (.tup [.bl b, tS ys]) (some (.sh v)) none) = ok (tS (P.filter fun k => xs.contains k && ys.contains k)) :=
    f1_ok (cmp_ok (l := P) (p := fun k => xs.contains k && ys.contains k) (g := D.str) rfl (by omega) (fun z _ => andB_ok (testB_ok (in_ok (neg := false) (x := z) (h := xs) rfl rfl)) (testB_ok (in_ok (neg := false) (x := z) (h := ys) rfl rfl))) (fun z _ _ => ⟨rfl, rfl⟩)) rfl
  have e5 := mkT_ok (aCons_ok (andV_ok (f := b2 gIx (look 2) (con (.int 0))) (g := b2 gIx (look 3) (con (.int 0))) (a := a) (b := b) rfl rfl) (aCons_ok c5 aNil_ok))
  rw [sSeq_nx (sSet_imm e5 (iS _ _))]
  generalize hu : D.tup [.bl (a && b), tS (P.filter fun k => xs.contains k && ys.contains k)] = u
  show fnRes (sSeq _ _ (R6 (oSeen t P) (.lst (P.map D.str)) (.tup [.bl a, tS xs]) (.tup [.bl b, tS ys]) (some (.sh v)) (some (.sh u)))) = _
  generalize hρ : R6 (oSeen t P) (.lst (P.map D.str)) (.tup [.bl a, tS xs]) (.tup [.bl b, tS ys]) (some (.sh v)) (some (.sh u)) = ρ
  have l0 : look 0 ρ = ok (oSeen t P) := by rw [← hρ]; rfl
  have l2 : look 2 ρ = ok (.tup [.bl a, tS xs]) := by rw [← hρ]; rfl
  have l3 : look 3 ρ = ok (.tup [.bl b, tS ys]) := by rw [← hρ]; rfl
  have l4 : look 4 ρ = ok v := by rw [← hρ]; rfl
  have l5 : look 5 ρ = ok u := by rw [← hρ]; rfl
  have p1 := seen_plus X hn hs hl hx hy j l0 (aCons_ok l2 (aCons_ok l3 aNil_ok))
  have p2 := seen_plus X hn hs hl hy hx j l0 (aCons_ok l3 (aCons_ok l2 aNil_ok))
  rw [Bool.or_comm b a, filter_or_comm X] at p2
  have p3 := seen_times X hn hs hl hx hy j l0 (aCons_ok l2 (aCons_ok l3 aNil_ok))
  have p4 := seen_times X hn hs hl hy hx j l0 (aCons_ok l3 (aCons_ok l2 aNil_ok))
  rw [Bool.and_comm b a, filter_and_comm X] at p4
  rw [hv] at p1 p2
  rw [hu] at p3 p4
  have f1l := List.length_filter_le (fun k => xs.contains k || ys.contains k) P
  have f2l := List.length_filter_le (fun k => xs.contains k && ys.contains k) P
  have pv : v.pl = true ∧ v.dep ≤ 2 := by rw [← hv]; exact ⟨pS _ _ (by omega), dS _ _⟩
  have pu : u.pl = true ∧ u.dep ≤ 2 := by rw [← hu]; exact ⟨pS _ _ (by omega), dS _ _⟩
  have k1 : app (fSame k) (aCons (mkT (aCons (appM "plus" (mP t (j + 2)) (look 0) (aCons (look 2) (aCons (look 3) aNil))) (aCons (appM "plus" (mP t (j + 2)) (look 0) (aCons (look 3) (aCons (look 2) aNil))) aNil))) (aCons (mkT (aCons (look 4) (aCons (look 4) aNil))) aNil)) ρ = ok (.bl true) := by
    rw [app_ok (aCons_ok (mkT_ok (aCons_ok p1 (aCons_ok p2 aNil_ok))) (aCons_ok (mkT_ok (aCons_ok l4 (aCons_ok l4 aNil_ok))) aNil_ok))]
    exact same_two pv.1 (by have := pv.2; omega)
  have k2 : app (fSame k) (aCons (mkT (aCons (appM "times" (mT t (j + 2)) (look 0) (aCons (look 2) (aCons (look 3) aNil))) (aCons (appM "times" (mT t (j + 2)) (look 0) (aCons (look 3) (aCons (look 2) aNil))) aNil))) (aCons (mkT (aCons (look 5) (aCons (look 5) aNil))) aNil)) ρ = ok (.bl true) := by
    rw [app_ok (aCons_ok (mkT_ok (aCons_ok p3 (aCons_ok p4 aNil_ok))) (aCons_ok (mkT_ok (aCons_ok l5 (aCons_ok l5 aNil_ok))) aNil_ok))]
    exact same_two pu.1 (by have := pu.2; omega)
  rw [sSeq_nx (pass_not k1), sSeq_rt (sRet_ok k2)]
  rfl
end
end K06

set_option Elab.async false
set_option linter.all false
set_option maxRecDepth 100000
set_option maxHeartbeats 4000000
namespace K06
open PySem PySem.Spec PyProof.Rows L2 L2.PU
noncomputable def fP (l r n o : D) : List (Str × D) := [("left", l), ("right", r), ("nought", n), ("one", o)]
noncomputable def fR (m : Int) : List (Str × D) := [("many", .int m), ("nought", .int 0), ("one", .int 1)]
noncomputable def sLawS : List D → Prop := fun ds => ∃ ns : List Int, ds = [.lst (ns.map D.int)] ∧ ns.length ≤ 63
noncomputable abbrev Rl (ns : List Int) (s1 s2 s3 s4 s5 s6 s7 s8 s9 : Option SV) : Rho := [some (.sh (.lst (ns.map D.int))), s1, s2, s3, s4, s5, s6, s7, s8, s9]
theorem p30 : (10 : Int) ^ (30 : Int).toNat = 1000000000000000000000000000000 := by decide
theorem cut30 {ns : List Int} : ∃ cs : List Int, L2.PU.cutD (ns.map D.int) none (some ((30 : Nat) : Int)) = cs.map D.int := by
  unfold L2.PU.cutD
  rw [HT.sIx_none, HT.sIx_nat, ← List.map_drop, ← List.map_take]
  exact ⟨_, rfl⟩
theorem deep_made (t : Adr) {f : Rho → M D} {ρ : Rho} {m : Int} (hf : f ρ = ok (.int m)) (hm : 2 ≤ m) : app (mkO t.C_Pairs (iPairs t)) (aCons (app (mkO t.C_Pairs (iPairs t)) (aCons (fun _ => mkO t.C_Counts iCounts []) (aCons (fun _ => mkO t.C_Costs iCosts []) aNil))) (aCons (app (mkO t.C_Rounds iRounds) (aCons f aNil)) aNil)) ρ = ok (oDeep t m) := by
  have i1 : iPairs t [oCounts t, oCosts t] = ok (fP (oCounts t) (oCosts t) (.tup [.int 0, .non]) (.tup [.int 1, .int 0])) := by
    show (if _ then _ else _) = _
    rw [if_pos ⟨cs1 t, cs2 t, rfl, rfl, rfl, rfl⟩]
    rfl
  have i2 : iRounds [.int m] = ok (fR m) := by
    show (if 2 ≤ m then _ else _) = _
    rw [if_pos hm]
    rfl
  have i3 : iPairs t [oInner t, oRounds t m] = ok (fP (oInner t) (oRounds t m) (mD 0 none 0) (mD 1 (some 0) 1)) := by
    show (if _ then _ else _) = _
    rw [if_pos ⟨cs6 t, cs4 t, rfl, rfl, rfl, rfl⟩]
    rfl
  have a1 : app (mkO t.C_Pairs (iPairs t)) (aCons (fun _ => mkO t.C_Counts iCounts []) (aCons (fun _ => mkO t.C_Costs iCosts []) aNil)) ρ = ok (oInner t) := by
    rw [app_ok (aCons_ok (d := oCounts t) rfl (aCons_ok (d := oCosts t) rfl aNil_ok))]
    unfold mkO
    rw [i1]
    rfl
  have a2 : app (mkO t.C_Rounds iRounds) (aCons f aNil) ρ = ok (oRounds t m) := by
    rw [app_ok (aCons_ok hf aNil_ok)]
    unfold mkO
    rw [i2]
    rfl
  rw [app_ok (aCons_ok a1 (aCons_ok a2 aNil_ok))]
  unfold mkO
  rw [i3]
  rfl
theorem seen_made (t : Adr) {f : Rho → M D} {ρ : Rho} {P : List Str} (hf : f ρ = ok (.lst (P.map D.str))) (hn : P.Nodup) (hs : P.Pairwise (fun a b => leS a b = true)) (hl : P.length ≤ 30) : app (mkO t.C_Pairs (iPairs t)) (aCons (fun _ => mkO t.C_Truths iTruths []) (aCons (app (mkO t.C_Seers iSeers) (aCons f aNil)) aNil)) ρ = ok (oSeen t P) := by
  have i1 := iSeers_ok (P := P) (by omega)
  rw [metS_self hn, srt_eq hs (List.Perm.refl P)] at i1
  have i2 : iPairs t [oTruths t, oSeers t P] = ok (fP (oTruths t) (oSeers t P) (.tup [.bl false, .tup []]) (.tup [.bl true, tS P])) := by
    show (if _ then _ else _) = _
    rw [if_pos ⟨cs3 t, cs5 t, rfl, rfl, rfl, imm_tS P⟩]
    rfl
  have a2 : app (mkO t.C_Seers iSeers) (aCons f aNil) ρ = ok (oSeers t P) := by
    rw [app_ok (aCons_ok hf aNil_ok)]
    unfold mkO
    rw [i1]
    rfl
  rw [app_ok (aCons_ok (d := oTruths t) rfl (aCons_ok a2 aNil_ok))]
  unfold mkO
  rw [i2]
  rfl
noncomputable def bodyL (t : Adr) : Rho → Option Out := (sSeq (sSet 8 (mkT (aCons (mkT (aCons (app fNumber (aCons (look 7) aNil)) (aCons (app (fCost t) (aCons (b2 gFdiv (look 7) (con (.int 7))) aNil)) aNil))) (aCons (b2 gMod (b2 gFdiv (look 7) (con (.int 2))) (look 1)) aNil))))
    (sSeq (sSet 9 (mkT (aCons (b2 gEq (b2 gMod (b2 gFdiv (look 7) (con (.int 5))) (con (.int 2))) (con (.int 1))) (aCons (app (fSome t) (aCons (look 2) (aCons (b2 gFdiv (look 7) (con (.int 3))) aNil))) aNil))))
    (sSeq (sIf (orB (notB (test (app (fTwo t 7 7) (aCons (look 3) (aCons (look 1) (aCons (look 5) (aCons (look 8) aNil))))))) (notB (test (app (fSeen t 7 7) (aCons (look 4) (aCons (look 2) (aCons (look 6) (aCons (look 9) aNil)))))))) (sSeq (sRet (con (.bl false)))
    sNil) sNil)
    (sSeq (sSet 5 (look 8))
    (sSeq (sSet 6 (look 9))
    sNil)))))
structure Mk (m n r : Int) : Prop where
  n0 : 0 ≤ n
  n1 : n < 1000000000000000000000000000000000000000000000000000000000000
  r0 : 0 ≤ r
  r1 : r < m
theorem imm_sD (a : Bool) (xs : List Str) : (D.tup [.bl a, tS xs]).imm = true := by
  show ((D.bl a).imm && ((tS xs).imm && true)) = true
  rw [imm_tS]; rfl
theorem num_ok {f : Rho → M D} {ρ : Rho} {c : Int} (h : f ρ = ok (.int c)) : app fNumber (aCons f aNil) ρ = ok (.int (num c)) := by rw [app_ok (aCons_ok h aNil_ok)]; rfl
theorem body_ok {K : PySem.W.Frag} {mg : Str → Option Value} {t : Adr} (X : Txt K mg t) {ns : List Int} {m : Int} (hm : 2 ≤ m) (hm2 : m < 10000000000000000000000000000000) {P : List Str} (hn : P.Nodup) (hs : P.Pairwise (fun a b => leS a b = true)) (hl : P.length ≤ 30) {n r c : Int} {co : Option Int} {a : Bool} {xs : List Str} (hk : Mk m n r) (hx : xs.Sublist P) (s8 s9 : Option SV) :
    ∃ n' r' co' a' xs', Mk m n' r' ∧ List.Sublist xs' P ∧ bodyL t (Rl ns (some (.sh (.int m))) (some (.sh (.lst (P.map D.str)))) (some (.sh (oDeep t m))) (some (.sh (oSeen t P))) (some (.sh (mD n co r))) (some (.sh (.tup [.bl a, tS xs]))) (some (.sh (.int c))) s8 s9) =
      some (.nx (Rl ns (some (.sh (.int m))) (some (.sh (.lst (P.map D.str)))) (some (.sh (oDeep t m))) (some (.sh (oSeen t P))) (some (.sh (mD n' co' r'))) (some (.sh (.tup [.bl a', tS xs']))) (some (.sh (.int c))) (some (.sh (mD n' co' r'))) (some (.sh (.tup [.bl a', tS xs']))))) := by
  obtain ⟨xs', hx', es⟩ := some_sp t (P := P) (by omega) (c / 3)
  have hnum := num_lo c
  have hk' : Mk m (num c) (c / 2 % m) := ⟨hnum.1, hnum.2, Int.emod_nonneg _ (by omega), Int.emod_lt_of_pos _ (by omega)⟩
  refine ⟨num c, c / 2 % m, coOf (c / 7), decide (c / 5 % 2 = 1), xs', hk', hx', ?_⟩
  have b60 : ∀ {z : Int}, z < m → z < 1000000000000000000000000000000000000000000000000000000000000 := fun h => by omega
  have e8 : mkT (aCons (mkT (aCons (app fNumber (aCons (look 7) aNil)) (aCons (app (fCost t) (aCons (b2 gFdiv (look 7) (con (.int 7))) aNil)) aNil))) (aCons (b2 gMod (b2 gFdiv (look 7) (con (.int 2))) (look 1)) aNil)) (Rl ns (some (.sh (.int m))) (some (.sh (.lst (P.map D.str)))) (some (.sh (oDeep t m))) (some (.sh (oSeen t P))) (some (.sh (mD n co r))) (some (.sh (.tup [.bl a, tS xs]))) (some (.sh (.int c))) s8 s9) = ok (mD (num c) (coOf (c / 7)) (c / 2 % m)) :=
    mkT_ok (aCons_ok (mkT_ok (aCons_ok (num_ok rfl) (aCons_ok ((app_ok (aCons_ok (fdiv_ok (i := c) (j := 7) rfl rfl (by decide) (by decide)) aNil_ok)).trans (cost_sp t _)) aNil_ok))) (aCons_ok (mod_ok (fdiv_ok (i := c) (j := 2) rfl rfl (by decide) (by decide)) (j := m) rfl (by omega)) aNil_ok))
  unfold bodyL
  rw [sSeq_nx (sSet_imm e8 (imm_mD _ _ _))]
  show sSeq _ _ (Rl ns (some (.sh (.int m))) (some (.sh (.lst (P.map D.str)))) (some (.sh (oDeep t m))) (some (.sh (oSeen t P))) (some (.sh (mD n co r))) (some (.sh (.tup [.bl a, tS xs]))) (some (.sh (.int c))) (some (.sh (mD (num c) (coOf (c / 7)) (c / 2 % m)))) s9) = _
  have e9 : mkT (aCons (b2 gEq (b2 gMod (b2 gFdiv (look 7) (con (.int 5))) (con (.int 2))) (con (.int 1))) (aCons (app (fSome t) (aCons (look 2) (aCons (b2 gFdiv (look 7) (con (.int 3))) aNil))) aNil)) (Rl ns (some (.sh (.int m))) (some (.sh (.lst (P.map D.str)))) (some (.sh (oDeep t m))) (some (.sh (oSeen t P))) (some (.sh (mD n co r))) (some (.sh (.tup [.bl a, tS xs]))) (some (.sh (.int c))) (some (.sh (mD (num c) (coOf (c / 7)) (c / 2 % m)))) s9) = ok (.tup [.bl (decide (c / 5 % 2 = 1)), tS xs']) :=
    mkT_ok (aCons_ok (eqi_ok (mod_ok (fdiv_ok (i := c) (j := 5) rfl rfl (by decide) (by decide)) (j := 2) rfl (by decide)) (j := 1) rfl) (aCons_ok ((app_ok (aCons_ok (d := .lst (P.map D.str)) rfl (aCons_ok (fdiv_ok (i := c) (j := 3) rfl rfl (by decide) (by decide)) aNil_ok))).trans es) aNil_ok))
  rw [sSeq_nx (sSet_imm e9 (imm_sD _ _))]
  generalize hρ : (Rl ns (some (.sh (.int m))) (some (.sh (.lst (P.map D.str)))) (some (.sh (oDeep t m))) (some (.sh (oSeen t P))) (some (.sh (mD n co r))) (some (.sh (.tup [.bl a, tS xs]))) (some (.sh (.int c))) (some (.sh (mD (num c) (coOf (c / 7)) (c / 2 % m)))) s9).set 9 (some (.sh (.tup [.bl (decide (c / 5 % 2 = 1)), tS xs']))) = ρ
  have l1 : look 1 ρ = ok (.int m) := by rw [← hρ]; rfl
  have l2 : look 2 ρ = ok (.lst (P.map D.str)) := by rw [← hρ]; rfl
  have l3 : look 3 ρ = ok (oDeep t m) := by rw [← hρ]; rfl
  have l4 : look 4 ρ = ok (oSeen t P) := by rw [← hρ]; rfl
  have l5 : look 5 ρ = ok (mD n co r) := by rw [← hρ]; rfl
  have l6 : look 6 ρ = ok (.tup [.bl a, tS xs]) := by rw [← hρ]; rfl
  have l8 : look 8 ρ = ok (mD (num c) (coOf (c / 7)) (c / 2 % m)) := by rw [← hρ]; rfl
  have l9 : look 9 ρ = ok (.tup [.bl (decide (c / 5 % 2 = 1)), tS xs']) := by rw [← hρ]; rfl
  have t1 : app (fTwo t 7 7) (aCons (look 3) (aCons (look 1) (aCons (look 5) (aCons (look 8) aNil)))) ρ = ok (.bl true) :=
    (app_ok (aCons_ok l3 (aCons_ok l1 (aCons_ok l5 (aCons_ok l8 aNil_ok))))).trans (two_sp X (k := 7) (j := 4) (by decide) hm (mul_small hk.n0 hk.n1 hk'.n0 hk'.n1) (mul_small hk.r0 (b60 hk.r1) hk'.r0 (b60 hk'.r1)) (mul_small hk'.n0 hk'.n1 hk.n0 hk.n1) (mul_small hk'.r0 (b60 hk'.r1) hk.r0 (b60 hk.r1)))
  have t2 : app (fSeen t 7 7) (aCons (look 4) (aCons (look 2) (aCons (look 6) (aCons (look 9) aNil)))) ρ = ok (.bl true) :=
    (app_ok (aCons_ok l4 (aCons_ok l2 (aCons_ok l6 (aCons_ok l9 aNil_ok))))).trans (seen_sp X (k := 7) (j := 5) (by decide) hn hs hl hx hx' a _)
  have t3 := orB_ok (notB_ok (test_ok t1 rfl)) (notB_ok (test_ok t2 rfl))
  rw [sSeq_nx ((sIf_f t3).trans rfl), sSeq_nx (sSet_imm l8 (imm_mD _ _ _)), sSeq_nx (sSet_imm (d := .tup [.bl (decide (c / 5 % 2 = 1)), tS xs']) (by rw [← hρ]; rfl) (imm_sD _ _)), ← hρ]
  rfl
theorem law_den {K : PySem.W.Frag} {mg : Str → Option Value} {t : Adr} (X : Txt K mg t) : ∀ ds r, tt sLawS ds = some r → ∃ d, r = .ok d ∧ fnRes (den_law t fAt (fCost t) fName fNumber (fSame 8) (fSeen t 7 7) (fSome t) (fTwo t 7 7) iCosts iCounts (iPairs t) iRounds iSeers iTruths (rho0 N_law ds)) = ok d := by
  intro ds r hr
  obtain ⟨hS, e⟩ := tt_inv hr
  clear hr
  subst e
  obtain ⟨ns, rfl, hns⟩ := hS
  refine ⟨_, rfl, ?_⟩
  have e0 : rho0 N_law [.lst (ns.map D.int)] = Rl ns none none none none none none none none none := rfl
  rw [e0]
  unfold den_law
  have a0 : app fAt (aCons (look 0) (aCons (con (.int 0)) aNil)) (Rl ns none none none none none none none none none) = ok (.int (atZ ns 0)) := at_app 0
  rw [sSeq_nx (sSet_imm (add_ok (i := 2) rfl (mod_ok a0 (j := 60) rfl (by decide))) rfl)]
  have hM : ∃ m : Int, 2 ≤ m ∧ m < 10000000000000000000000000000000 ∧ sIf (testB (b2 gEq (b2 gMod (b2 gFdiv (app fAt (aCons (look 0) (aCons (con (.int 0)) aNil))) (con (.int 60))) (con (.int 3))) (con (.int 1)))) (sSeq (sSet 1 (b2 gPlus (b2 gPow (con (.int 10)) (con (.int 30))) (con (.int 57))))
    sNil) sNil (Rl ns (some (.sh (.int (2 + atZ ns 0 % 60)))) none none none none none none none none) = some (.nx (Rl ns (some (.sh (.int m))) none none none none none none none none)) := by
    have tb := testB_ok (eqi_ok (mod_ok (fdiv_ok (at_app (ns := ns) (rest := [some (.sh (.int (2 + atZ ns 0 % 60))), none, none, none, none, none, none, none, none]) 0) (g := con (.int 60)) (j := 60) rfl (by decide) (by decide)) (g := con (.int 3)) (j := 3) rfl (by decide)) (g := con (.int 1)) (j := 1) rfl)
    by_cases hb : atZ ns 0 / 60 % 3 = 1
    · rw [decide_eq_true hb] at tb
      have pw : b2 gPow (con (.int 10)) (con (.int 30)) (Rl ns (some (.sh (.int (2 + atZ ns 0 % 60)))) none none none none none none none none) = ok (.int 1000000000000000000000000000000) := by simp [b2, con, bnd, ok, gPow, p30]
      refine ⟨1000000000000000000000000000057, by decide, by decide, ?_⟩
      exact (sIf_t tb).trans ((sSeq_nx (sSet_imm (add_ok pw (j := 57) rfl) rfl)).trans rfl)
    · rw [decide_eq_false hb] at tb
      exact ⟨2 + atZ ns 0 % 60, by omega, by omega, (sIf_f tb).trans rfl⟩
  obtain ⟨m, hm, hm2, s1⟩ := hM
  show fnRes (sSeq _ _ (Rl ns (some (.sh (.int (2 + atZ ns 0 % 60)))) none none none none none none none none)) = _
  rw [sSeq_nx s1]
  -- the people
  obtain ⟨j, hj⟩ : ∃ j : Nat, atZ ns 2 % 5 = (j : Int) := ⟨(atZ ns 2 % 5).toNat, by omega⟩
  have a2 : app fAt (aCons (look 0) (aCons (con (.int 2)) aNil)) (Rl ns (some (.sh (.int m))) none none none none none none none none) = ok (.int (atZ ns 2)) := at_app 2
  have m2 : b2 gMod (app fAt (aCons (look 0) (aCons (con (.int 2)) aNil))) (con (.int 5)) (Rl ns (some (.sh (.int m))) none none none none none none none none) = ok (.int (j : Int)) := by rw [← hj]; exact mod_ok a2 rfl (by decide)
  have n1 := names_ok (m := 1) (k := 10) (n := j) (fs := b2 gMod (app fAt (aCons (look 0) (aCons (con (.int 1)) aNil))) (con (.int 2000))) (st := atZ ns 1 % 2000) m2 (by omega) (by omega) (fun v => mod_ok (at_app 1) rfl (by decide)) (Nat.lt_succ_self 10)
  have hjn : (nms j (atZ ns 1 % 2000)).Nodup := nms_nd j (by omega) _
  have hjl : (nms j (atZ ns 1 % 2000)).length = j := nms_len _ _
  generalize nms j (atZ ns 1 % 2000) = N at n1 hjn hjl
  have hPn : (srtS N).Nodup := (srtS_perm N).nodup_iff.mpr hjn
  have hPs := srtS_pair N
  have hPl : (srtS N).length = j := by rw [(srtS_perm N).length_eq, hjl]
  rw [sSeq_nx (sSet_any (f1_ok n1 (srtL_lS (by omega))) rfl)]
  generalize srtS N = P at hPn hPs hPl
  show fnRes (sSeq _ _ (Rl ns (some (.sh (.int m))) (some (.sh (.lst (P.map D.str)))) none none none none none none none)) = _
  have hPl' : P.length ≤ 30 := by omega
  -- the ways
  rw [sSeq_nx (sSet_any (deep_made t (f := look 1) (m := m) rfl hm) rfl)]
  show fnRes (sSeq _ _ (Rl ns (some (.sh (.int m))) (some (.sh (.lst (P.map D.str)))) (some (.sh (oDeep t m))) none none none none none none)) = _
  rw [sSeq_nx (sSet_any (seen_made t (f := f1 toL (look 2)) (P := P) rfl hPn hPs hPl') rfl)]
  show fnRes (sSeq _ _ (Rl ns (some (.sh (.int m))) (some (.sh (.lst (P.map D.str)))) (some (.sh (oDeep t m))) (some (.sh (oSeen t P))) none none none none none)) = _
  generalize hρ : Rl ns (some (.sh (.int m))) (some (.sh (.lst (P.map D.str)))) (some (.sh (oDeep t m))) (some (.sh (oSeen t P))) none none none none none = ρ
  have l2 : look 2 ρ = ok (.lst (P.map D.str)) := by rw [← hρ]; rfl
  have l3 : look 3 ρ = ok (oDeep t m) := by rw [← hρ]; rfl
  have l4 : look 4 ρ = ok (oSeen t P) := by rw [← hρ]; rfl
  have f3 : fld (cs t) "nought" (look 3) ρ = ok (mD 0 none 0) := fld_ok (C := t.C_Pairs) l3 (cs6 t) rfl
  have f3' : fld (cs t) "one" (look 3) ρ = ok (mD 1 (some 0) 1) := fld_ok (C := t.C_Pairs) l3 (cs6 t) rfl
  have f4 : fld (cs t) "nought" (look 4) ρ = ok (.tup [.bl false, .tup []]) := fld_ok (C := t.C_Pairs) l4 (cs6 t) rfl
  have f4' : fld (cs t) "one" (look 4) ρ = ok (.tup [.bl true, tS P]) := fld_ok (C := t.C_Pairs) l4 (cs6 t) rfl
  have k1 : app (fSame 8) (aCons (mkT (aCons (fld (cs t) "nought" (look 3)) (aCons (fld (cs t) "one" (look 3)) aNil))) (aCons (mkT (aCons (mkT (aCons (mkT (aCons (con (.int 0)) (aCons (con .non) aNil))) (aCons (con (.int 0)) aNil))) (aCons (mkT (aCons (mkT (aCons (con (.int 1)) (aCons (con (.int 0)) aNil))) (aCons (con (.int 1)) aNil))) aNil))) aNil)) ρ = ok (.bl true) := by
    rw [app_ok (aCons_ok (mkT_ok (aCons_ok f3 (aCons_ok f3' aNil_ok))) (aCons_ok (d := .tup [mD 0 none 0, mD 1 (some 0) 1]) rfl aNil_ok))]
    exact fSame_self rfl (by decide)
  rw [sSeq_nx (pass_not k1)]
  have k2 : app (fSame 8) (aCons (mkT (aCons (fld (cs t) "nought" (look 4)) (aCons (fld (cs t) "one" (look 4)) aNil))) (aCons (mkT (aCons (mkT (aCons (con (.bl false)) (aCons (mkT aNil) aNil))) (aCons (mkT (aCons (con (.bl true)) (aCons (f1 toT (look 2)) aNil))) aNil))) aNil)) ρ = ok (.bl true) := by
    rw [app_ok (aCons_ok (mkT_ok (aCons_ok f4 (aCons_ok f4' aNil_ok))) (aCons_ok (mkT_ok (aCons_ok (d := .tup [.bl false, .tup []]) rfl (aCons_ok (mkT_ok (aCons_ok (d := .bl true) rfl (aCons_ok (f1_ok (g := toT) l2 rfl) aNil_ok))) aNil_ok))) aNil_ok))]
    refine fSame_self ?_ ?_
    · show (true && ((D.tup [.bl false, .tup []]).pl && ((true && ((D.bl true).pl && ((tS P).pl && true))) && true))) = true
      rw [pl_tS P (by omega)]
      rfl
    · have := dep_tS P
      show max (D.tup [.bl false, .tup []]).dep (max (max (D.bl true).dep (max (tS P).dep 0) + 1) 0) + 1 < 8
      have e1 : (D.tup [.bl false, .tup []]).dep = 2 := rfl
      have e2 : (D.bl true).dep = 0 := rfl
      omega
  rw [sSeq_nx (pass_not k2), sSeq_nx (sSet_imm f3 (imm_mD _ _ _)), ← hρ]
  show fnRes (sSeq _ _ (Rl ns (some (.sh (.int m))) (some (.sh (.lst (P.map D.str)))) (some (.sh (oDeep t m))) (some (.sh (oSeen t P))) (some (.sh (mD 0 none 0))) none none none none)) = _
  rw [sSeq_nx (sSet_imm (d := .tup [.bl true, tS P]) (fld_ok (C := t.C_Pairs) rfl (cs6 t) rfl) (imm_sD _ _))]
  show fnRes (sSeq (sForE (cut3 (look 0) oNone (oPart (con (.int 30)))) (gN 7) (bodyL t)) _ (Rl ns (some (.sh (.int m))) (some (.sh (.lst (P.map D.str)))) (some (.sh (oDeep t m))) (some (.sh (oSeen t P))) (some (.sh (mD 0 none 0))) (some (.sh (.tup [.bl true, tS P]))) none none none)) = _
  obtain ⟨cs', hcs⟩ := cut30 (ns := ns)
  have c1 : cut3 (look 0) oNone (oPart (con (.int 30))) (Rl ns (some (.sh (.int m))) (some (.sh (.lst (P.map D.str)))) (some (.sh (oDeep t m))) (some (.sh (oSeen t P))) (some (.sh (mD 0 none 0))) (some (.sh (.tup [.bl true, tS P]))) none none none) = ok (.lst (cs'.map D.int)) := by
    rw [← hcs]
    rfl
  obtain ⟨ρ', lp, n, r, co, a, xs, o7, o8, o9, rfl, _⟩ := loop_inv0 (G := gN 7) (F := bodyL t) (fun _ ρ => ∃ n r co a xs, ∃ (o7 o8 o9 : Option D), ρ = Rl ns (some (.sh (.int m))) (some (.sh (.lst (P.map D.str)))) (some (.sh (oDeep t m))) (some (.sh (oSeen t P))) (some (.sh (mD n co r))) (some (.sh (.tup [.bl a, tS xs]))) (o7.map SV.sh) (o8.map SV.sh) (o9.map SV.sh) ∧ Mk m n r ∧ List.Sublist xs P) (cs'.map D.int)
    (Rl ns (some (.sh (.int m))) (some (.sh (.lst (P.map D.str)))) (some (.sh (oDeep t m))) (some (.sh (oSeen t P))) (some (.sh (mD 0 none 0))) (some (.sh (.tup [.bl true, tS P]))) none none none) ⟨0, 0, none, true, P, none, none, none, rfl, ⟨by decide, by decide, by decide, by omega⟩, List.Sublist.refl P⟩ (fun q d q' ρ e hI => by
      obtain ⟨n, r, co, a, xs, o7, o8, o9, rfl, hk, hx⟩ := hI
      have hdm : d ∈ cs'.map D.int := by rw [e]; exact List.mem_append_right _ List.mem_cons_self
      obtain ⟨c, _, rfl⟩ := List.mem_map.mp hdm
      obtain ⟨n', r', co', a', xs', hk', hx', hb⟩ := body_ok X (ns := ns) hm hm2 hPn hPs hPl' (c := c) (co := co) (a := a) hk hx (o8.map SV.sh) (o9.map SV.sh)
      exact ⟨_, _, rfl, .inl hb, n', r', co', a', xs', some (.int c), some (mD n' co' r'), some (.tup [.bl a', tS xs']), rfl, hk', hx'⟩)
  have s7 : sForE (cut3 (look 0) oNone (oPart (con (.int 30)))) (gN 7) (bodyL t) (Rl ns (some (.sh (.int m))) (some (.sh (.lst (P.map D.str)))) (some (.sh (oDeep t m))) (some (.sh (oSeen t P))) (some (.sh (mD 0 none 0))) (some (.sh (.tup [.bl true, tS P]))) none none none) = some (.nx (Rl ns (some (.sh (.int m))) (some (.sh (.lst (P.map D.str)))) (some (.sh (oDeep t m))) (some (.sh (oSeen t P))) (some (.sh (mD n co r))) (some (.sh (.tup [.bl a, tS xs]))) (o7.map SV.sh) (o8.map SV.sh) (o9.map SV.sh))) := by
    rw [sForE_ok c1 rfl]
    exact lp
  rw [sSeq_nx s7]
  rfl
section
variable {P : Program} {w : World} {K : PySem.W.Frag} {mg : Str → Option Value} {base : Heap} {t : Adr}
theorem same_ok (X : Txt K mg t) : ∀ k, Def P w K mg base k "_law_same" (fSame k)
  | 0 => by
    obtain ⟨fd, Fu, bi⟩ := X.F_law_same
    exact ⟨_, _, _, X.g_law_same, Fu.kp, bi, fSame_len 0, fn_none fSame_zero⟩
  | k + 1 => ok_law_same X (same_ok X k) (fSame_len _) (same_den N_law_same rfl)
theorem i_len {F : List D → M (List (Str × D))} : True := trivial
theorem law_fn (X : Txt K mg t) {fd : FuncData} (Fu : Fun K "law" "law" s_law t.f_law fd) : FnD P w K mg base 9 t.f_law fd ["_law_script"] (tt sLawS) :=
  fnd_law X Fu (k := 8) (k' := 5) (by decide) (ok_law_at X (k := 7) fAt_len (at_den N_law_at rfl)) (ok_law_cost X (k := 7) (ok_law_number X (k := 6) fNumber_len (number_den2 N_law_number rfl)) viaD_len viaD_q) (ok_law_name X (k := 7) fName_len (name_den N_law_name rfl)) (ok_law_number X (k := 7) fNumber_len (number_den2 N_law_number rfl))
    (same_ok X 8) (ok_law_seen X (k := 7) (same_ok X 7) (mP_ok X 7) (mT_ok X 7) viaD_len viaD_q) (ok_law_some X (k := 7) viaD_len viaD_q) (ok_law_two X (k := 7) (ok_law_lesser X (k := 6) viaD_len viaD_q) (same_ok X 7) (ok_law_summed X (k := 6) viaD_len viaD_q) (mP_ok X 7) (mT_ok X 7) viaD_len viaD_q)
    (ok_Costs___init__ X (k := 4) (by intro ds r h; unfold iCosts at h; split at h; rfl; cases h) (costs_ini t)) (ok_Counts___init__ X (k := 4) (by intro ds r h; unfold iCounts at h; split at h; rfl; cases h) (counts_ini t)) (ok_Pairs___init__ X (k := 4) (by intro ds r h; unfold iPairs at h; split at h; rfl; cases h) (pairs_ini t))
    (ok_Rounds___init__ X (k := 4) (ok_is_whole X (k := 3) viaD_len viaD_q) (by intro ds r h; unfold iRounds at h; split at h; rfl; cases h) (rounds_ini t)) (ok_Seers___init__ X (k := 4) (by intro ds r h; unfold iSeers at h; split at h; (rename_i q; obtain ⟨_, rfl, _⟩ := q; rfl); cases h) (seers_ini t)) (ok_Truths___init__ X (k := 4) (by intro ds r h; unfold iTruths at h; split at h; rfl; cases h) (truths_ini t))
    (by intro ds r h; obtain ⟨ns, rfl, _⟩ := (tt_inv h).1; rfl) (law_den X)
end
end K06

set_option Elab.async false
set_option linter.all false
set_option maxRecDepth 100000
set_option maxHeartbeats 4000000
namespace K06
open PySem PySem.W L2 L2.HD
/-- what the top leaves -/
noncomputable def frag : Params → Frag := fun P =>
  (nat_lit 2, ⟨.none, none, .dict #[] 0, #[]⟩) ::
  (nat_lit 3, od 30 [de P "__name__" 165 (vs "law_whence_k06_pairs" 579),
   de P "__doc__" 166 .none,
   de P "__package__" 167 .none,
   de P "__loader__" 168 (.builtin "__main__.__loader__#opaque"),
   de P "__spec__" 169 .none,
   de P "__annotations__" 170 (.ref 6),
   de P "__builtins__" 171 (.ref 4),
   de P "__file__" 173 (vs "/claim/cut.py" 172),
   de P "__cached__" 174 .none,
   de P "_wall" 193 (.ref 21),
   de P "WhenceError" 213 (.ref 31),
   de P "NoWay" 229 (.ref 44),
   de P "is_whole" 239 (.ref 53),
   de P "Truths" 296 (.ref 91),
   de P "Counts" 351 (.ref 133),
   de P "Rounds" 408 (.ref 175),
   de P "Costs" 463 (.ref 217),
   de P "Seers" 519 (.ref 259),
   de P "Pairs" 578 (.ref 301),
   de P "_law_at" 588 (.ref 312),
   de P "_law_same" 597 (.ref 319),
   de P "_law_number" 604 (.ref 326),
   de P "_law_name" 613 (.ref 333),
   de P "_law_some" 623 (.ref 340),
   de P "_law_cost" 630 (.ref 347),
   de P "_law_lesser" 638 (.ref 354),
   de P "_law_summed" 646 (.ref 361),
   de P "_law_two" 658 (.ref 368),
   de P "_law_seen" 664 (.ref 373),
   de P "law" 670 (.ref 378)]) ::
  (nat_lit 20, oc "_wall" 187 "_wall" 188 189 1 1 3 [(.ref 15), (.bool true), (vi 181), (.ref 16), .none, (.ref 17), (.ref 18), (.ref 19)] 191 1 192) ::
  (nat_lit 21, of "_wall" "_wall" (top 0) "__main__" 164 20) ::
  (nat_lit 30, od 3 [de P "__module__" 203 (vs "whence.errors" 194),
   de P "__firstlineno__" 207 (.int 5 206),
   de P "__static_attributes__" 208 (.ref 29),
   de P "__weakref__" 210 (.ref 32),
   de P "__doc__" 211 .none]) ::
  (nat_lit 31, ⟨(.type "type"), none, .cls ⟨"WhenceError", [(.type "ValueError")], [(.ref 31), (.type "ValueError"), (.type "Exception"), (.type "BaseException"), (.type "object")], 30, "WhenceError", true, [], [(.ref 44)], false, none, false⟩, #[some (.ref 22), none, some (vs "WhenceError" 196), some (vs "WhenceError" 204), some (.builtin "ValueError.__new__"), some (.bool true)]⟩) ::
  (nat_lit 32, ofd "getset_descriptor" [(vs "__weakref__" 209), (.ref 31), (.builtin "ExceptionGroup.__weakref__"), .none]) ::
  (nat_lit 43, od 2 [de P "__module__" 221 (vs "whence.errors" 194),
   de P "__firstlineno__" 225 (.int 7 224),
   de P "__static_attributes__" 226 (.ref 42),
   de P "__doc__" 227 .none]) ::
  (nat_lit 44, ⟨(.type "type"), none, .cls ⟨"NoWay", [(.ref 31)], [(.ref 44), (.ref 31), (.type "ValueError"), (.type "Exception"), (.type "BaseException"), (.type "object")], 43, "NoWay", true, [], [], false, none, false⟩, #[some (.ref 35), none, some (vs "NoWay" 214), some (vs "NoWay" 222), some (.builtin "ValueError.__new__"), some (.bool true)]⟩) ::
  (nat_lit 52, oc "is_whole" 232 "is_whole" 233 234 10 2 3 [(.ref 47), (.bool true), (vi 181), (.ref 48), .none, (.ref 49), (.ref 50), (.ref 51)] 237 10 238) ::
  (nat_lit 53, of "is_whole" "is_whole" (top 5) "whence.plain" 230 52) ::
  (nat_lit 66, oc "__init__" 254 "Truths.__init__" 255 256 15 1 3 [(.ref 61), (.bool true), (vi 181), (.ref 62), .none, (.ref 63), (.ref 64), (.ref 65)] 258 15 259) ::
  (nat_lit 67, of "__init__" "Truths.__init__" (inClass (top 7) 0) "whence.ways" 240 66) ::
  (nat_lit 73, oc "plus" 261 "Truths.plus" 262 263 19 3 3 [(.ref 68), (.bool true), (vi 181), (.ref 69), .none, (.ref 70), (.ref 71), (.ref 72)] 267 19 268) ::
  (nat_lit 74, of "plus" "Truths.plus" (inClass (top 7) 1) "whence.ways" 240 73) ::
  (nat_lit 80, oc "times" 270 "Truths.times" 271 272 22 3 3 [(.ref 75), (.bool true), (vi 181), (.ref 76), .none, (.ref 77), (.ref 78), (.ref 79)] 276 22 277) ::
  (nat_lit 81, of "times" "Truths.times" (inClass (top 7) 2) "whence.ways" 240 80) ::
  (nat_lit 87, oc "is_mark" 279 "Truths.is_mark" 280 281 25 2 3 [(.ref 82), (.bool true), (vi 181), (.ref 83), .none, (.ref 84), (.ref 85), (.ref 86)] 284 25 285) ::
  (nat_lit 88, of "is_mark" "Truths.is_mark" (inClass (top 7) 3) "whence.ways" 240 87) ::
  (nat_lit 90, od 4 [de P "__module__" 249 (vs "whence.ways" 240),
   de P "__firstlineno__" 253 (.int 13 252),
   de P "__init__" 260 (.ref 67),
   de P "plus" 269 (.ref 74),
   de P "times" 278 (.ref 81),
   de P "is_mark" 286 (.ref 88),
   de P "__static_attributes__" 289 (.ref 89),
   de P "__dict__" 291 (.ref 92),
   de P "__weakref__" 293 (.ref 93),
   de P "__doc__" 294 .none]) ::
  (nat_lit 91, ⟨(.type "type"), none, .cls ⟨"Truths", [(.type "object")], [(.ref 91), (.type "object")], 90, "Truths", true, [], [], false, none, false⟩, #[none, none, some (vs "Truths" 242), some (vs "Truths" 250), some (.builtin "object.__new__"), some (.bool true)]⟩) ::
  (nat_lit 92, ofd "getset_descriptor" [(vs "__dict__" 290), (.ref 91), (.builtin "function.__dict__"), (.builtin "function.__dict__#set")]) ::
  (nat_lit 93, ofd "getset_descriptor" [(vs "__weakref__" 292), (.ref 91), (.builtin "ExceptionGroup.__weakref__"), .none]) ::
  (nat_lit 108, oc "__init__" 309 "Counts.__init__" 310 311 29 1 3 [(.ref 103), (.bool true), (vi 181), (.ref 104), .none, (.ref 105), (.ref 106), (.ref 107)] 313 29 314) ::
  (nat_lit 109, of "__init__" "Counts.__init__" (inClass (top 8) 0) "whence.ways" 240 108) ::
  (nat_lit 115, oc "plus" 316 "Counts.plus" 317 318 33 3 3 [(.ref 110), (.bool true), (vi 181), (.ref 111), .none, (.ref 112), (.ref 113), (.ref 114)] 322 33 323) ::
  (nat_lit 116, of "plus" "Counts.plus" (inClass (top 8) 1) "whence.ways" 240 115) ::
  (nat_lit 122, oc "times" 325 "Counts.times" 326 327 36 3 3 [(.ref 117), (.bool true), (vi 181), (.ref 118), .none, (.ref 119), (.ref 120), (.ref 121)] 331 36 332) ::
  (nat_lit 123, of "times" "Counts.times" (inClass (top 8) 2) "whence.ways" 240 122) ::
  (nat_lit 129, oc "is_mark" 334 "Counts.is_mark" 335 336 39 2 3 [(.ref 124), (.bool true), (vi 181), (.ref 125), .none, (.ref 126), (.ref 127), (.ref 128)] 339 39 340) ::
  (nat_lit 130, of "is_mark" "Counts.is_mark" (inClass (top 8) 3) "whence.ways" 240 129) ::
  (nat_lit 132, od 4 [de P "__module__" 304 (vs "whence.ways" 240),
   de P "__firstlineno__" 308 (.int 27 307),
   de P "__init__" 315 (.ref 109),
   de P "plus" 324 (.ref 116),
   de P "times" 333 (.ref 123),
   de P "is_mark" 341 (.ref 130),
   de P "__static_attributes__" 344 (.ref 131),
   de P "__dict__" 346 (.ref 134),
   de P "__weakref__" 348 (.ref 135),
   de P "__doc__" 349 .none]) ::
  (nat_lit 133, ⟨(.type "type"), none, .cls ⟨"Counts", [(.type "object")], [(.ref 133), (.type "object")], 132, "Counts", true, [], [], false, none, false⟩, #[none, none, some (vs "Counts" 297), some (vs "Counts" 305), some (.builtin "object.__new__"), some (.bool true)]⟩) ::
  (nat_lit 134, ofd "getset_descriptor" [(vs "__dict__" 345), (.ref 133), (.builtin "function.__dict__"), (.builtin "function.__dict__#set")]) ::
  (nat_lit 135, ofd "getset_descriptor" [(vs "__weakref__" 347), (.ref 133), (.builtin "ExceptionGroup.__weakref__"), .none]) ::
  (nat_lit 150, oc "__init__" 364 "Rounds.__init__" 365 366 43 2 3 [(.ref 145), (.bool true), (vi 181), (.ref 146), .none, (.ref 147), (.ref 148), (.ref 149)] 369 43 370) ::
  (nat_lit 151, of "__init__" "Rounds.__init__" (inClass (top 9) 0) "whence.ways" 240 150) ::
  (nat_lit 157, oc "plus" 372 "Rounds.plus" 373 374 50 3 3 [(.ref 152), (.bool true), (vi 181), (.ref 153), .none, (.ref 154), (.ref 155), (.ref 156)] 378 50 379) ::
  (nat_lit 158, of "plus" "Rounds.plus" (inClass (top 9) 1) "whence.ways" 240 157) ::
  (nat_lit 164, oc "times" 381 "Rounds.times" 382 383 53 3 3 [(.ref 159), (.bool true), (vi 181), (.ref 160), .none, (.ref 161), (.ref 162), (.ref 163)] 387 53 388) ::
  (nat_lit 165, of "times" "Rounds.times" (inClass (top 9) 2) "whence.ways" 240 164) ::
  (nat_lit 171, oc "is_mark" 390 "Rounds.is_mark" 391 392 56 2 3 [(.ref 166), (.bool true), (vi 181), (.ref 167), .none, (.ref 168), (.ref 169), (.ref 170)] 395 56 396) ::
  (nat_lit 172, of "is_mark" "Rounds.is_mark" (inClass (top 9) 3) "whence.ways" 240 171) ::
  (nat_lit 174, od 4 [de P "__module__" 359 (vs "whence.ways" 240),
   de P "__firstlineno__" 363 (.int 41 362),
   de P "__init__" 371 (.ref 151),
   de P "plus" 380 (.ref 158),
   de P "times" 389 (.ref 165),
   de P "is_mark" 397 (.ref 172),
   de P "__static_attributes__" 401 (.ref 173),
   de P "__dict__" 403 (.ref 176),
   de P "__weakref__" 405 (.ref 177),
   de P "__doc__" 406 .none]) ::
  (nat_lit 175, ⟨(.type "type"), none, .cls ⟨"Rounds", [(.type "object")], [(.ref 175), (.type "object")], 174, "Rounds", true, [], [], false, none, false⟩, #[none, none, some (vs "Rounds" 352), some (vs "Rounds" 360), some (.builtin "object.__new__"), some (.bool true)]⟩) ::
  (nat_lit 176, ofd "getset_descriptor" [(vs "__dict__" 402), (.ref 175), (.builtin "function.__dict__"), (.builtin "function.__dict__#set")]) ::
  (nat_lit 177, ofd "getset_descriptor" [(vs "__weakref__" 404), (.ref 175), (.builtin "ExceptionGroup.__weakref__"), .none]) ::
  (nat_lit 192, oc "__init__" 421 "Costs.__init__" 422 423 60 1 3 [(.ref 187), (.bool true), (vi 181), (.ref 188), .none, (.ref 189), (.ref 190), (.ref 191)] 425 60 426) ::
  (nat_lit 193, of "__init__" "Costs.__init__" (inClass (top 10) 0) "whence.ways" 240 192) ::
  (nat_lit 199, oc "plus" 428 "Costs.plus" 429 430 64 3 3 [(.ref 194), (.bool true), (vi 181), (.ref 195), .none, (.ref 196), (.ref 197), (.ref 198)] 434 64 435) ::
  (nat_lit 200, of "plus" "Costs.plus" (inClass (top 10) 1) "whence.ways" 240 199) ::
  (nat_lit 206, oc "times" 437 "Costs.times" 438 439 71 3 3 [(.ref 201), (.bool true), (vi 181), (.ref 202), .none, (.ref 203), (.ref 204), (.ref 205)] 443 71 444) ::
  (nat_lit 207, of "times" "Costs.times" (inClass (top 10) 2) "whence.ways" 240 206) ::
  (nat_lit 213, oc "is_mark" 446 "Costs.is_mark" 447 448 76 2 3 [(.ref 208), (.bool true), (vi 181), (.ref 209), .none, (.ref 210), (.ref 211), (.ref 212)] 451 76 452) ::
  (nat_lit 214, of "is_mark" "Costs.is_mark" (inClass (top 10) 3) "whence.ways" 240 213) ::
  (nat_lit 216, od 4 [de P "__module__" 416 (vs "whence.ways" 240),
   de P "__firstlineno__" 420 (.int 58 419),
   de P "__init__" 427 (.ref 193),
   de P "plus" 436 (.ref 200),
   de P "times" 445 (.ref 207),
   de P "is_mark" 453 (.ref 214),
   de P "__static_attributes__" 456 (.ref 215),
   de P "__dict__" 458 (.ref 218),
   de P "__weakref__" 460 (.ref 219),
   de P "__doc__" 461 .none]) ::
  (nat_lit 217, ⟨(.type "type"), none, .cls ⟨"Costs", [(.type "object")], [(.ref 217), (.type "object")], 216, "Costs", true, [], [], false, none, false⟩, #[none, none, some (vs "Costs" 409), some (vs "Costs" 417), some (.builtin "object.__new__"), some (.bool true)]⟩) ::
  (nat_lit 218, ofd "getset_descriptor" [(vs "__dict__" 457), (.ref 217), (.builtin "function.__dict__"), (.builtin "function.__dict__#set")]) ::
  (nat_lit 219, ofd "getset_descriptor" [(vs "__weakref__" 459), (.ref 217), (.builtin "ExceptionGroup.__weakref__"), .none]) ::
  (nat_lit 234, oc "__init__" 476 "Seers.__init__" 477 478 80 2 3 [(.ref 229), (.bool true), (vi 181), (.ref 230), .none, (.ref 231), (.ref 232), (.ref 233)] 481 80 482) ::
  (nat_lit 235, of "__init__" "Seers.__init__" (inClass (top 11) 0) "whence.ways" 240 234) ::
  (nat_lit 241, oc "plus" 484 "Seers.plus" 485 486 84 3 3 [(.ref 236), (.bool true), (vi 181), (.ref 237), .none, (.ref 238), (.ref 239), (.ref 240)] 490 84 491) ::
  (nat_lit 242, of "plus" "Seers.plus" (inClass (top 11) 1) "whence.ways" 240 241) ::
  (nat_lit 248, oc "times" 493 "Seers.times" 494 495 87 3 3 [(.ref 243), (.bool true), (vi 181), (.ref 244), .none, (.ref 245), (.ref 246), (.ref 247)] 499 87 500) ::
  (nat_lit 249, of "times" "Seers.times" (inClass (top 11) 2) "whence.ways" 240 248) ::
  (nat_lit 255, oc "is_mark" 502 "Seers.is_mark" 503 504 90 2 3 [(.ref 250), (.bool true), (vi 181), (.ref 251), .none, (.ref 252), (.ref 253), (.ref 254)] 507 90 508) ::
  (nat_lit 256, of "is_mark" "Seers.is_mark" (inClass (top 11) 3) "whence.ways" 240 255) ::
  (nat_lit 258, od 4 [de P "__module__" 471 (vs "whence.ways" 240),
   de P "__firstlineno__" 475 (.int 78 474),
   de P "__init__" 483 (.ref 235),
   de P "plus" 492 (.ref 242),
   de P "times" 501 (.ref 249),
   de P "is_mark" 509 (.ref 256),
   de P "__static_attributes__" 512 (.ref 257),
   de P "__dict__" 514 (.ref 260),
   de P "__weakref__" 516 (.ref 261),
   de P "__doc__" 517 .none]) ::
  (nat_lit 259, ⟨(.type "type"), none, .cls ⟨"Seers", [(.type "object")], [(.ref 259), (.type "object")], 258, "Seers", true, [], [], false, none, false⟩, #[none, none, some (vs "Seers" 464), some (vs "Seers" 472), some (.builtin "object.__new__"), some (.bool true)]⟩) ::
  (nat_lit 260, ofd "getset_descriptor" [(vs "__dict__" 513), (.ref 259), (.builtin "function.__dict__"), (.builtin "function.__dict__#set")]) ::
  (nat_lit 261, ofd "getset_descriptor" [(vs "__weakref__" 515), (.ref 259), (.builtin "ExceptionGroup.__weakref__"), .none]) ::
  (nat_lit 276, oc "__init__" 532 "Pairs.__init__" 533 534 94 3 3 [(.ref 271), (.bool true), (vi 181), (.ref 272), .none, (.ref 273), (.ref 274), (.ref 275)] 538 94 539) ::
  (nat_lit 277, of "__init__" "Pairs.__init__" (inClass (top 12) 0) "whence.ways" 240 276) ::
  (nat_lit 283, oc "plus" 541 "Pairs.plus" 542 543 100 3 3 [(.ref 278), (.bool true), (vi 181), (.ref 279), .none, (.ref 280), (.ref 281), (.ref 282)] 547 100 548) ::
  (nat_lit 284, of "plus" "Pairs.plus" (inClass (top 12) 1) "whence.ways" 240 283) ::
  (nat_lit 290, oc "times" 550 "Pairs.times" 551 552 103 3 3 [(.ref 285), (.bool true), (vi 181), (.ref 286), .none, (.ref 287), (.ref 288), (.ref 289)] 556 103 557) ::
  (nat_lit 291, of "times" "Pairs.times" (inClass (top 12) 2) "whence.ways" 240 290) ::
  (nat_lit 297, oc "is_mark" 559 "Pairs.is_mark" 560 561 106 2 3 [(.ref 292), (.bool true), (vi 181), (.ref 293), .none, (.ref 294), (.ref 295), (.ref 296)] 564 106 565) ::
  (nat_lit 298, of "is_mark" "Pairs.is_mark" (inClass (top 12) 3) "whence.ways" 240 297) ::
  (nat_lit 300, od 4 [de P "__module__" 527 (vs "whence.ways" 240),
   de P "__firstlineno__" 531 (.int 92 530),
   de P "__init__" 540 (.ref 277),
   de P "plus" 549 (.ref 284),
   de P "times" 558 (.ref 291),
   de P "is_mark" 566 (.ref 298),
   de P "__static_attributes__" 571 (.ref 299),
   de P "__dict__" 573 (.ref 302),
   de P "__weakref__" 575 (.ref 303),
   de P "__doc__" 576 .none]) ::
  (nat_lit 301, ⟨(.type "type"), none, .cls ⟨"Pairs", [(.type "object")], [(.ref 301), (.type "object")], 300, "Pairs", true, [], [], false, none, false⟩, #[none, none, some (vs "Pairs" 520), some (vs "Pairs" 528), some (.builtin "object.__new__"), some (.bool true)]⟩) ::
  (nat_lit 302, ofd "getset_descriptor" [(vs "__dict__" 572), (.ref 301), (.builtin "function.__dict__"), (.builtin "function.__dict__#set")]) ::
  (nat_lit 303, ofd "getset_descriptor" [(vs "__weakref__" 574), (.ref 301), (.builtin "ExceptionGroup.__weakref__"), .none]) ::
  (nat_lit 311, oc "_law_at" 581 "_law_at" 582 583 109 2 3 [(.ref 306), (.bool true), (vi 181), (.ref 307), .none, (.ref 308), (.ref 309), (.ref 310)] 586 109 587) ::
  (nat_lit 312, of "_law_at" "_law_at" (top 14) "law_whence_k06_pairs" 579 311) ::
  (nat_lit 318, oc "_law_same" 589 "_law_same" 590 591 113 2 3 [(.ref 313), (.bool true), (vi 181), (.ref 314), .none, (.ref 315), (.ref 316), (.ref 317)] 595 113 596) ::
  (nat_lit 319, of "_law_same" "_law_same" (top 15) "law_whence_k06_pairs" 579 318) ::
  (nat_lit 325, oc "_law_number" 598 "_law_number" 599 600 128 1 3 [(.ref 320), (.bool true), (vi 181), (.ref 321), .none, (.ref 322), (.ref 323), (.ref 324)] 602 128 603) ::
  (nat_lit 326, of "_law_number" "_law_number" (top 16) "law_whence_k06_pairs" 579 325) ::
  (nat_lit 332, oc "_law_name" 605 "_law_name" 606 607 134 2 3 [(.ref 327), (.bool true), (vi 181), (.ref 328), .none, (.ref 329), (.ref 330), (.ref 331)] 611 134 612) ::
  (nat_lit 333, of "_law_name" "_law_name" (top 17) "law_whence_k06_pairs" 579 332) ::
  (nat_lit 339, oc "_law_some" 614 "_law_some" 615 616 139 2 3 [(.ref 334), (.bool true), (vi 181), (.ref 335), .none, (.ref 336), (.ref 337), (.ref 338)] 621 139 622) ::
  (nat_lit 340, of "_law_some" "_law_some" (top 18) "law_whence_k06_pairs" 579 339) ::
  (nat_lit 346, oc "_law_cost" 624 "_law_cost" 625 626 146 1 3 [(.ref 341), (.bool true), (vi 181), (.ref 342), .none, (.ref 343), (.ref 344), (.ref 345)] 628 146 629) ::
  (nat_lit 347, of "_law_cost" "_law_cost" (top 19) "law_whence_k06_pairs" 579 346) ::
  (nat_lit 353, oc "_law_lesser" 631 "_law_lesser" 632 633 150 2 3 [(.ref 348), (.bool true), (vi 181), (.ref 349), .none, (.ref 350), (.ref 351), (.ref 352)] 636 150 637) ::
  (nat_lit 354, of "_law_lesser" "_law_lesser" (top 20) "law_whence_k06_pairs" 579 353) ::
  (nat_lit 360, oc "_law_summed" 639 "_law_summed" 640 641 156 2 3 [(.ref 355), (.bool true), (vi 181), (.ref 356), .none, (.ref 357), (.ref 358), (.ref 359)] 644 156 645) ::
  (nat_lit 361, of "_law_summed" "_law_summed" (top 21) "law_whence_k06_pairs" 579 360) ::
  (nat_lit 367, oc "_law_two" 647 "_law_two" 648 649 160 4 3 [(.ref 362), (.bool true), (vi 181), (.ref 363), .none, (.ref 364), (.ref 365), (.ref 366)] 656 160 657) ::
  (nat_lit 368, of "_law_two" "_law_two" (top 22) "law_whence_k06_pairs" 579 367) ::
  (nat_lit 372, oc "_law_seen" 659 "_law_seen" 660 661 166 4 3 [(.ref 369), (.bool true), (vi 181), (.ref 370), .none, .none, .none, (.ref 371)] 662 166 663) ::
  (nat_lit 373, of "_law_seen" "_law_seen" (top 23) "law_whence_k06_pairs" 579 372) ::
  (nat_lit 377, oc "law" 665 "law" 666 667 172 1 3 [(.ref 374), (.bool true), (vi 181), (.ref 375), .none, .none, .none, (.ref 376)] 668 172 669) ::
  (nat_lit 378, of "law" "law" (top 24) "law_whence_k06_pairs" 579 377) :: []
noncomputable def fas : List Addr := [2, 3, 20, 21, 30, 31, 32, 43, 44, 52, 53, 66, 67, 73, 74, 80, 81, 87, 88, 90, 91, 92, 93, 108, 109, 115, 116, 122, 123, 129, 130, 132, 133, 134, 135, 150, 151, 157, 158, 164, 165, 171, 172, 174, 175, 176, 177, 192, 193, 199, 200, 206, 207, 213, 214, 216, 217, 218, 219, 234, 235, 241, 242, 248, 249, 255, 256, 258, 259, 260, 261, 276, 277, 283, 284, 290, 291, 297, 298, 300, 301, 302, 303, 311, 312, 318, 319, 325, 326, 332, 333, 339, 340, 346, 347, 353, 354, 360, 361, 367, 368, 372, 373, 377, 378]
theorem fas_ok : ∀ P, fas = (frag P).map (·.1) := fun P => by kernel_rfl
noncomputable def vw : Program := view PySem.Challenge.pw_whence_k06_pairs [0, 2, 3, 5, 7, 8, 9, 10, 11, 12, 14, 15, 16, 17, 18, 19, 20, 21, 22, 23, 24]
noncomputable abbrev hook : Hook := kHook frag fas fas_ok
set_option maxHeartbeats 0 in
theorem left : LeftO PySem.Challenge.pw_whence_k06_pairs vw [] (fun s => xlAt vw [] s && recOk (RowW.records PySem.Challenge.rw_whence_k06_pairs.row.toRowW) s) (Hook.obs hook) (Hook.val hook) 5624 := by
  refine left_of (boot_open (by kernel_rfl) (by decide +kernel) (fun s => by kernel_rfl)) fun w => ?_
  rw [Fast.te5923862056798008813, Fast.te4187177175401517315, Fast.te6613529449190102663, Fast.te10156331382660048174, Fast.te11892475500146522536, Fast.te14364793385576792824]
  kernel_rfl
end K06

set_option Elab.async false
set_option linter.all false
set_option maxRecDepth 100000
set_option maxHeartbeats 4000000
namespace K06
open PySem PySem.Spec PyProof.Rows L2 L2.PU
noncomputable def spLaw (K : PySem.W.Frag) : Sp := fun vs H Q _ => ∃ (a : Addr) (ns : List Int), vs = [.ref a] ∧ SqL K H a (ns.map V.int) ∧ ns.length ≤ 63 ∧ ∀ H', Q (.bl true) H'
theorem walk {l : PySem.W.OpenLaw} {q : Program} {loose : List Str} {XP : (Str → Option Value) → Heap → Prop} {YP : World → Heap → Prop} {d : DefRec} {K : Params → PySem.W.Frag} (hn : l.most = some 63) (hdf : d.params.defaults = []) (hnm : d.name = "law")
    (hY : ∀ (w : World) (h : Heap), YP w h → (K w.params).In h)
    (T : ∀ (w : World) (mg : Str → Option Value) (h : Heap), (K w.params).In h → h.Ns mainGlobals mg → ∃ t, Txt (K w.params) mg t) :
    PySem.W.WalkO q loose XP YP l.row.toRowW d [] (fun f vs => PySem.call f vs) := by
  refine L2.walk_of (n := 63) (k := 9) (x := "_law_script") (CX := fun w => CXD l.prog w) (sp := fun w => spLaw (K w.params)) hn (by decide) hdf ⟨rfl, by decide, by decide⟩ hY (fun w mg fa h KX G hmg => ?_) (fun _ _ a ns hl _ hS => ⟨a, ns, rfl, hS, hl, fun _ => rfl⟩) (fun w H s e s' ⟨_, _, _, _, _, _, _, _, z⟩ => z)
  obtain ⟨t, T⟩ := T w mg h KX G
  have e := hmg.symm.trans ((congrArg mg hnm).trans T.g_law)
  cases e
  obtain ⟨fd, Fu, bi⟩ := T.F_law
  refine ⟨fd, fun s v => ?_, fun base _ _ => ?_⟩
  · obtain ⟨oc, od, kV, doc, pm, an, cdv, ct, osl, rfl, lk, hcd⟩ := Fu.ex
    exact .of_eq rfl
  · refine (law_fn (P := l.prog) (w := w) (base := base) T Fu).imp fun vs H Q E ⟨a, ns, e1, hS, hl, q⟩ => ?_
    subst e1
    refine ⟨[.lst (ns.map D.int)], .cons (.lst hS (isL_ints ns)) .nil, rfl, ?_⟩
    rw [tt_ok (show sLawS _ from ⟨ns, rfl, hl⟩)]
    intro v H' s' i'
    cases i'
    exact q H'
end K06
open PySem PySem.W PyProof.Rows
set_option maxRecDepth 100000 in
set_option maxHeartbeats 0 in
theorem PySem.Challenge.cw_whence_k06_pairs_holds : PySem.Challenge.rw_whence_k06_pairs.Holds := by
  w_on; o_law
  refine L2.HD.holds_of (l := PySem.Challenge.rw_whence_k06_pairs) (q := K06.vw) K06.left (by first | assumption | decide +kernel) (by rfl) (by rfl) (by rfl) (by rfl) (by decide +kernel) ⟨rfl, rfl, rfl, rfl, rfl, by decide +kernel⟩ ?hw ?hc
  (case hw => w_witness2)
  k_fill
  refine K06.walk (l := PySem.Challenge.rw_whence_k06_pairs) rfl rfl rfl (fun w h Y => PySem.W.kIn_of Y) ?T
  case T =>
    intro w mg h KX G
    refine' K06.txt_mk KX G ?aC_Truths ?pgC_Truths ?hdC_Truths ?poC_Truths ?saC_Truths ?mkC_Truths ?kcC_Truths ?nC_Truthsleft ?nC_Truthsmany ?nC_Truthsnought ?nC_Truthsone ?nC_Truthsright ?aC_Counts ?pgC_Counts ?hdC_Counts ?poC_Counts ?saC_Counts ?mkC_Counts ?kcC_Counts ?nC_Countsleft ?nC_Countsmany ?nC_Countsnought ?nC_Countsone ?nC_Countsright ?aC_Rounds ?pgC_Rounds ?hdC_Rounds ?poC_Rounds ?saC_Rounds ?mkC_Rounds ?kcC_Rounds ?nC_Roundsleft ?nC_Roundsmany ?nC_Roundsnought ?nC_Roundsone ?nC_Roundsright ?aC_Costs ?pgC_Costs ?hdC_Costs ?poC_Costs ?saC_Costs ?mkC_Costs ?kcC_Costs ?nC_Costsleft ?nC_Costsmany ?nC_Costsnought ?nC_Costsone ?nC_Costsright ?aC_Seers ?pgC_Seers ?hdC_Seers ?poC_Seers ?saC_Seers ?mkC_Seers ?kcC_Seers ?nC_Seersleft ?nC_Seersmany ?nC_Seersnought ?nC_Seersone ?nC_Seersright ?aC_Pairs ?pgC_Pairs ?hdC_Pairs ?poC_Pairs ?saC_Pairs ?mkC_Pairs ?kcC_Pairs ?nC_Pairsleft ?nC_Pairsmany ?nC_Pairsnought ?nC_Pairsone ?nC_Pairsright ?aX_NoWay ?xiX_NoWay ?af_is_whole ?lf_is_whole ?cf_is_whole ?kf_is_whole ?af_Truths___init__ ?if_Truths___init__ ?lf_Truths___init__ ?cf_Truths___init__ ?kf_Truths___init__ ?af_Truths_plus ?if_Truths_plus ?lf_Truths_plus ?cf_Truths_plus ?kf_Truths_plus ?af_Truths_times ?if_Truths_times ?lf_Truths_times ?cf_Truths_times ?kf_Truths_times ?af_Counts___init__ ?if_Counts___init__ ?lf_Counts___init__ ?cf_Counts___init__ ?kf_Counts___init__ ?af_Counts_plus ?if_Counts_plus ?lf_Counts_plus ?cf_Counts_plus ?kf_Counts_plus ?af_Counts_times ?if_Counts_times ?lf_Counts_times ?cf_Counts_times ?kf_Counts_times ?af_Rounds___init__ ?if_Rounds___init__ ?lf_Rounds___init__ ?cf_Rounds___init__ ?kf_Rounds___init__ ?af_Rounds_plus ?if_Rounds_plus ?lf_Rounds_plus ?cf_Rounds_plus ?kf_Rounds_plus ?af_Rounds_times ?if_Rounds_times ?lf_Rounds_times ?cf_Rounds_times ?kf_Rounds_times ?af_Costs___init__ ?if_Costs___init__ ?lf_Costs___init__ ?cf_Costs___init__ ?kf_Costs___init__ ?af_Costs_plus ?if_Costs_plus ?lf_Costs_plus ?cf_Costs_plus ?kf_Costs_plus ?af_Costs_times ?if_Costs_times ?lf_Costs_times ?cf_Costs_times ?kf_Costs_times ?af_Seers___init__ ?if_Seers___init__ ?lf_Seers___init__ ?cf_Seers___init__ ?kf_Seers___init__ ?af_Seers_plus ?if_Seers_plus ?lf_Seers_plus ?cf_Seers_plus ?kf_Seers_plus ?af_Seers_times ?if_Seers_times ?lf_Seers_times ?cf_Seers_times ?kf_Seers_times ?af_Pairs___init__ ?if_Pairs___init__ ?lf_Pairs___init__ ?cf_Pairs___init__ ?kf_Pairs___init__ ?af_Pairs_plus ?if_Pairs_plus ?lf_Pairs_plus ?cf_Pairs_plus ?kf_Pairs_plus ?af_Pairs_times ?if_Pairs_times ?lf_Pairs_times ?cf_Pairs_times ?kf_Pairs_times ?af_law_at ?lf_law_at ?cf_law_at ?kf_law_at ?af_law_same ?lf_law_same ?cf_law_same ?kf_law_same ?af_law_number ?lf_law_number ?cf_law_number ?kf_law_number ?af_law_name ?lf_law_name ?cf_law_name ?kf_law_name ?af_law_some ?lf_law_some ?cf_law_some ?kf_law_some ?af_law_cost ?lf_law_cost ?cf_law_cost ?kf_law_cost ?af_law_lesser ?lf_law_lesser ?cf_law_lesser ?kf_law_lesser ?af_law_summed ?lf_law_summed ?cf_law_summed ?kf_law_summed ?af_law_two ?lf_law_two ?cf_law_two ?kf_law_two ?af_law_seen ?lf_law_seen ?cf_law_seen ?kf_law_seen ?af_law ?lf_law ?cf_law ?kf_law ?zbool ?zint ?zisinstance ?zlen ?zlist ?zmin ?zrange ?zset ?zsorted ?zstr ?ztuple
    (case aC_Truths => k_is)
    (case pgC_Truths => k_is)
    (case hdC_Truths => k_is)
    (case poC_Truths => k_is)
    (case saC_Truths => k_is)
    (case mkC_Truths => k_is)
    (case kcC_Truths => k_is)
    (case nC_Truthsleft => k_is)
    (case nC_Truthsmany => k_is)
    (case nC_Truthsnought => k_is)
    (case nC_Truthsone => k_is)
    (case nC_Truthsright => k_is)
    (case aC_Counts => k_is)
    (case pgC_Counts => k_is)
    (case hdC_Counts => k_is)
    (case poC_Counts => k_is)
    (case saC_Counts => k_is)
    (case mkC_Counts => k_is)
    (case kcC_Counts => k_is)
    (case nC_Countsleft => k_is)
    (case nC_Countsmany => k_is)
    (case nC_Countsnought => k_is)
    (case nC_Countsone => k_is)
    (case nC_Countsright => k_is)
    (case aC_Rounds => k_is)
    (case pgC_Rounds => k_is)
    (case hdC_Rounds => k_is)
    (case poC_Rounds => k_is)
    (case saC_Rounds => k_is)
    (case mkC_Rounds => k_is)
    (case kcC_Rounds => k_is)
    (case nC_Roundsleft => k_is)
    (case nC_Roundsmany => k_is)
    (case nC_Roundsnought => k_is)
    (case nC_Roundsone => k_is)
    (case nC_Roundsright => k_is)
    (case aC_Costs => k_is)
    (case pgC_Costs => k_is)
    (case hdC_Costs => k_is)
    (case poC_Costs => k_is)
    (case saC_Costs => k_is)
    (case mkC_Costs => k_is)
    (case kcC_Costs => k_is)
    (case nC_Costsleft => k_is)
    (case nC_Costsmany => k_is)
    (case nC_Costsnought => k_is)
    (case nC_Costsone => k_is)
    (case nC_Costsright => k_is)
    (case aC_Seers => k_is)
    (case pgC_Seers => k_is)
    (case hdC_Seers => k_is)
    (case poC_Seers => k_is)
    (case saC_Seers => k_is)
    (case mkC_Seers => k_is)
    (case kcC_Seers => k_is)
    (case nC_Seersleft => k_is)
    (case nC_Seersmany => k_is)
    (case nC_Seersnought => k_is)
    (case nC_Seersone => k_is)
    (case nC_Seersright => k_is)
    (case aC_Pairs => k_is)
    (case pgC_Pairs => k_is)
    (case hdC_Pairs => k_is)
    (case poC_Pairs => k_is)
    (case saC_Pairs => k_is)
    (case mkC_Pairs => k_is)
    (case kcC_Pairs => k_is)
    (case nC_Pairsleft => k_is)
    (case nC_Pairsmany => k_is)
    (case nC_Pairsnought => k_is)
    (case nC_Pairsone => k_is)
    (case nC_Pairsright => k_is)
    (case aX_NoWay => k_is)
    (case xiX_NoWay => k_exc)
    (case af_is_whole => k_is)
    (case lf_is_whole => k_is)
    (case cf_is_whole => k_is)
    (case kf_is_whole => k_is)
    (case af_Truths___init__ => k_is)
    (case if_Truths___init__ => k_is)
    (case lf_Truths___init__ => k_is)
    (case cf_Truths___init__ => k_is)
    (case kf_Truths___init__ => k_is)
    (case af_Truths_plus => k_is)
    (case if_Truths_plus => k_is)
    (case lf_Truths_plus => k_is)
    (case cf_Truths_plus => k_is)
    (case kf_Truths_plus => k_is)
    (case af_Truths_times => k_is)
    (case if_Truths_times => k_is)
    (case lf_Truths_times => k_is)
    (case cf_Truths_times => k_is)
    (case kf_Truths_times => k_is)
    (case af_Counts___init__ => k_is)
    (case if_Counts___init__ => k_is)
    (case lf_Counts___init__ => k_is)
    (case cf_Counts___init__ => k_is)
    (case kf_Counts___init__ => k_is)
    (case af_Counts_plus => k_is)
    (case if_Counts_plus => k_is)
    (case lf_Counts_plus => k_is)
    (case cf_Counts_plus => k_is)
    (case kf_Counts_plus => k_is)
    (case af_Counts_times => k_is)
    (case if_Counts_times => k_is)
    (case lf_Counts_times => k_is)
    (case cf_Counts_times => k_is)
    (case kf_Counts_times => k_is)
    (case af_Rounds___init__ => k_is)
    (case if_Rounds___init__ => k_is)
    (case lf_Rounds___init__ => k_is)
    (case cf_Rounds___init__ => k_is)
    (case kf_Rounds___init__ => k_is)
    (case af_Rounds_plus => k_is)
    (case if_Rounds_plus => k_is)
    (case lf_Rounds_plus => k_is)
    (case cf_Rounds_plus => k_is)
    (case kf_Rounds_plus => k_is)
    (case af_Rounds_times => k_is)
    (case if_Rounds_times => k_is)
    (case lf_Rounds_times => k_is)
    (case cf_Rounds_times => k_is)
    (case kf_Rounds_times => k_is)
    (case af_Costs___init__ => k_is)
    (case if_Costs___init__ => k_is)
    (case lf_Costs___init__ => k_is)
    (case cf_Costs___init__ => k_is)
    (case kf_Costs___init__ => k_is)
    (case af_Costs_plus => k_is)
    (case if_Costs_plus => k_is)
    (case lf_Costs_plus => k_is)
    (case cf_Costs_plus => k_is)
    (case kf_Costs_plus => k_is)
    (case af_Costs_times => k_is)
    (case if_Costs_times => k_is)
    (case lf_Costs_times => k_is)
    (case cf_Costs_times => k_is)
    (case kf_Costs_times => k_is)
    (case af_Seers___init__ => k_is)
    (case if_Seers___init__ => k_is)
    (case lf_Seers___init__ => k_is)
    (case cf_Seers___init__ => k_is)
    (case kf_Seers___init__ => k_is)
    (case af_Seers_plus => k_is)
    (case if_Seers_plus => k_is)
    (case lf_Seers_plus => k_is)
    (case cf_Seers_plus => k_is)
    (case kf_Seers_plus => k_is)
    (case af_Seers_times => k_is)
    (case if_Seers_times => k_is)
    (case lf_Seers_times => k_is)
    (case cf_Seers_times => k_is)
    (case kf_Seers_times => k_is)
    (case af_Pairs___init__ => k_is)
    (case if_Pairs___init__ => k_is)
    (case lf_Pairs___init__ => k_is)
    (case cf_Pairs___init__ => k_is)
    (case kf_Pairs___init__ => k_is)
    (case af_Pairs_plus => k_is)
    (case if_Pairs_plus => k_is)
    (case lf_Pairs_plus => k_is)
    (case cf_Pairs_plus => k_is)
    (case kf_Pairs_plus => k_is)
    (case af_Pairs_times => k_is)
    (case if_Pairs_times => k_is)
    (case lf_Pairs_times => k_is)
    (case cf_Pairs_times => k_is)
    (case kf_Pairs_times => k_is)
    (case af_law_at => k_is)
    (case lf_law_at => k_is)
    (case cf_law_at => k_is)
    (case kf_law_at => k_is)
    (case af_law_same => k_is)
    (case lf_law_same => k_is)
    (case cf_law_same => k_is)
    (case kf_law_same => k_is)
    (case af_law_number => k_is)
    (case lf_law_number => k_is)
    (case cf_law_number => k_is)
    (case kf_law_number => k_is)
    (case af_law_name => k_is)
    (case lf_law_name => k_is)
    (case cf_law_name => k_is)
    (case kf_law_name => k_is)
    (case af_law_some => k_is)
    (case lf_law_some => k_is)
    (case cf_law_some => k_is)
    (case kf_law_some => k_is)
    (case af_law_cost => k_is)
    (case lf_law_cost => k_is)
    (case cf_law_cost => k_is)
    (case kf_law_cost => k_is)
    (case af_law_lesser => k_is)
    (case lf_law_lesser => k_is)
    (case cf_law_lesser => k_is)
    (case kf_law_lesser => k_is)
    (case af_law_summed => k_is)
    (case lf_law_summed => k_is)
    (case cf_law_summed => k_is)
    (case kf_law_summed => k_is)
    (case af_law_two => k_is)
    (case lf_law_two => k_is)
    (case cf_law_two => k_is)
    (case kf_law_two => k_is)
    (case af_law_seen => k_is)
    (case lf_law_seen => k_is)
    (case cf_law_seen => k_is)
    (case kf_law_seen => k_is)
    (case af_law => k_is)
    (case lf_law => k_is)
    (case cf_law => k_is)
    (case kf_law => k_is)
    (case zbool => k_is)
    (case zint => k_is)
    (case zisinstance => k_is)
    (case zlen => k_is)
    (case zlist => k_is)
    (case zmin => k_is)
    (case zrange => k_is)
    (case zset => k_is)
    (case zsorted => k_is)
    (case zstr => k_is)
    (case ztuple => k_is)
