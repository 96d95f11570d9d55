import PyProof.Rows.All
import Wide.All
import OpenK.AllK
import Wide.FinOn
import Lean
import PyProof.EqAt
import PyProof.EqKinds
import PyProof.TupleCall
import PySem.Challenge.RW_whence_k15_tests
set_option Elab.async false
set_option linter.all false
set_option maxRecDepth 100000
/-! THE HAND LAYER, for ints, bools, texts, own classes, LISTS and tuples (index, slices, in, append, pop ..), calls, loops. Paste it whole ahead of your own text; what your proof does not reach may be deleted. -/
namespace L2
open PySem PySem.Spec PyProof.Rows

/-- a key: an int or a str -/
abbrev Key := Sum Int Str
def keyIs : Key → Value → Bool
  | .inl k, v => Value.isInt k v
  | .inr x, v => Value.isStrOf x v
def keyH (w : World) : Key → Int
  | .inl k => hashInt k
  | .inr x => hashStr w x
theorem keyIs_shape : ∀ {k : Key} {v : Value}, keyIs k v = true → (∃ i t, k = Sum.inl i ∧ v = Value.int i t) ∨ (∃ x t, k = Sum.inr x ∧ v = Value.str x t)
  | .inl i, v, h => by
    obtain ⟨t, e⟩ := Value.isInt_shape (k := i) (v := v) h
    exact .inl ⟨i, t, rfl, e⟩
  | .inr x, v, h => by
    obtain ⟨t, e⟩ := Value.isStrOf_shape (x := x) (v := v) h
    exact .inr ⟨x, t, rfl, e⟩
theorem keyIs_int (i : Int) (t : Tok) : keyIs (.inl i) (.int i t) = true := by simp [keyIs, Value.isInt]
theorem keyIs_str (x : Str) (t : Tok) : keyIs (.inr x) (.str x t) = true := by simp [keyIs, Value.isStrOf]
theorem key_ll (a b : Int) : decide ((Sum.inl a : Key) = Sum.inl b) = (a == b) := by
  by_cases e : a = b
  · subst e; simp
  · have h : ¬ (Sum.inl a : Key) = Sum.inl b := fun q => e (Sum.inl.inj q)
    rw [decide_eq_false h]
    exact (beq_eq_false_iff_ne.mpr e).symm
theorem key_rr (a b : Str) : decide ((Sum.inr a : Key) = Sum.inr b) = decide (a = b) := by
  by_cases e : a = b
  · subst e; simp
  · have h : ¬ (Sum.inr a : Key) = Sum.inr b := fun q => e (Sum.inr.inj q)
    rw [decide_eq_false h, decide_eq_false e]
theorem key_lr (a : Int) (b : Str) : decide ((Sum.inl a : Key) = Sum.inr b) = false := decide_eq_false (fun q => nomatch q)
theorem key_rl (a : Str) (b : Int) : decide ((Sum.inr a : Key) = Sum.inl b) = false := decide_eq_false (fun q => nomatch q)

def mixKind (prog : Program) (w : World) : PySem.KeyKind prog w Key where
  is := keyIs
  hash := keyH w
  inj := fun v a b ha hb => by
    rcases keyIs_shape ha with ⟨i, t, rfl, rfl⟩ | ⟨x, t, rfl, rfl⟩
    · rcases keyIs_shape hb with ⟨j, u, rfl, e⟩ | ⟨y, u, rfl, e⟩
      · injection e with e1 _; rw [e1]
      · exact nomatch e
    · rcases keyIs_shape hb with ⟨j, u, rfl, e⟩ | ⟨y, u, rfl, e⟩
      · exact nomatch e
      · injection e with e1 _; rw [e1]
  byValue := fun k v h => by
    rcases keyIs_shape h with ⟨i, t, rfl, rfl⟩ | ⟨x, t, rfl, rfl⟩ <;> rfl
  pyHash := fun hv h => by
    rcases keyIs_shape hv with ⟨i, t, rfl, rfl⟩ | ⟨x, t, rfl, rfl⟩
    · exact wpAny_pyHash_int h
    · exact wpAny_pyHash_str h
  eqBool := fun hu hv h => by
    rcases keyIs_shape hu with ⟨i, t, rfl, rfl⟩ | ⟨x, t, rfl, rfl⟩
    · rcases keyIs_shape hv with ⟨j, u, rfl, rfl⟩ | ⟨y, u, rfl, rfl⟩
      · rw [key_ll] at h; exact wpAny_eqBool_int h
      · rw [key_lr] at h; exact SeqAt.EqAt.int_str i t y u _ _ _ _ h
    · rcases keyIs_shape hv with ⟨j, u, rfl, rfl⟩ | ⟨y, u, rfl, rfl⟩
      · rw [key_rl] at h; exact SeqAt.EqAt.str_int x t j u _ _ _ _ h
      · rw [key_rr] at h; exact wpAny_eqBool_str h
  «strs» := fun k x t v h => by
    rcases keyIs_shape h with ⟨i, u, rfl, e⟩ | ⟨y, u, rfl, e⟩
    · exact nomatch e
    · injection e with e1 _
      subst e1
      cases v <;> rfl

theorem mixKind_int (prog : Program) (w : World) (i : Int) (t : Tok) : (mixKind prog w).is (.inl i) (.int i t) = true := keyIs_int i t
theorem mixKind_str (prog : Program) (w : World) (x : Str) (t : Tok) : (mixKind prog w).is (.inr x) (.str x t) = true := keyIs_str x t
end L2

namespace L2
open PySem PySem.Spec PyProof.Rows

/-- a value, without the heap -/
inductive V where
  | non | bl (b : Bool) | int (i : Int) | str (x : Str) | byt (b : Array UInt8) | flt (b : UInt64) | ref (a : Addr) | ty (n : String)
  deriving DecidableEq

def RelV : V → Value → Prop
  | .non, u => u = Value.none
  | .bl b, u => u = Value.bool b
  | .int i, u => ∃ t, u = Value.int i t
  | .str x, u => ∃ t, u = Value.str x t
  | .byt b, u => ∃ t, u = Value.bytes b t
  | .flt b, u => ∃ t, u = Value.float b t
  | .ref a, u => u = Value.ref a
  | .ty n, u => u = Value.type n

abbrev Vals : List V → List Value → Prop := Paired RelV
theorem Vals.length {xs : List V} {us : List Value} (r : Vals xs us) : xs.length = us.length := Paired.length r
theorem Vals.get : ∀ {xs : List V} {us : List Value} {i : Nat} {x : V}, Vals xs us → xs[i]? = some x → ∃ u, us[i]? = some u ∧ RelV x u
  | _, _, _, _, .nil, e => by simp at e
  | _, _, 0, _, .cons r _, e => by simp at e; subst e; exact ⟨_, rfl, r⟩
  | _, _, i + 1, x, .cons _ t, e => by
    obtain ⟨u, h1, h2⟩ := Vals.get (i := i) (x := x) t (by simpa using e)
    exact ⟨u, by simpa using h1, h2⟩
theorem Vals.set {x : V} {u : Value} (r : RelV x u) : ∀ {xs : List V} {us : List Value} (i : Nat), Vals xs us → Vals (xs.set i x) (us.set i u)
  | _, _, _, .nil => .nil
  | _, _, 0, .cons _ t => .cons r t
  | _, _, i + 1, .cons q t => .cons q (Vals.set r i t)
theorem Vals.append : ∀ {xs ys : List V} {us ws : List Value}, Vals xs us → Vals ys ws → Vals (xs ++ ys) (us ++ ws)
  | _, _, _, _, .nil, s => s
  | _, _, _, _, .cons r t, s => .cons r (Vals.append t s)
theorem Vals.take : ∀ {xs : List V} {us : List Value} (n : Nat), Vals xs us → Vals (xs.take n) (us.take n)
  | _, _, 0, _ => .nil
  | _, _, _ + 1, .nil => .nil
  | _, _, n + 1, .cons r t => .cons r (Vals.take n t)
theorem Vals.drop : ∀ {xs : List V} {us : List Value} (n : Nat), Vals xs us → Vals (xs.drop n) (us.drop n)
  | _, _, 0, r => r
  | _, _, _ + 1, .nil => .nil
  | _, _, n + 1, .cons _ t => Vals.drop n t
theorem Vals.none_of : ∀ {xs : List V} {us : List Value} {i : Nat}, Vals xs us → xs[i]? = none → us[i]? = none := fun {xs us i} r e => by
  have h1 := r.length
  have h2 : xs.length ≤ i := List.getElem?_eq_none_iff.mp e
  exact List.getElem?_eq_none_iff.mpr (by omega)

def RelO : Option V → Option Value → Prop
  | some v, some u => RelV v u
  | none, none => True
  | _, _ => False
def KV {κ : Type} : List (κ × V) → List (κ × Value) → Prop := Paired fun (p : κ × V) (q : κ × Value) => p.1 = q.1 ∧ RelV p.2 q.2

/-- a key of a dict (00_mix): an int or a text -/
def kV : Key → V
  | .inl i => .int i
  | .inr x => .str x

/-- what stands at a tracked address -/
inductive HO where
  /-- a list -/
  | lst (xs : List V)
  /-- a tuple (never changes) -/
  | tup (xs : List V)
  /-- a dict whose keys are ints and texts; one whose keys are tuples of ints and texts (the empty one is both) -/
  | dK (kvs : List (Key × V)) | dT (kvs : List (List Key × V))
  /-- a set of texts: its members, its size -/
  | set (S : Str → Bool) (n : Nat)
  /-- an instance of the class at C, its dict at dx, its attributes -/
  | ins (C dx : Addr) (fs : List (Str × V))
  /-- the dict of the instance at x -/
  | own (x : Addr)
  /-- the dict of an exception -/
  | xd (fs : List (Str × V))
  /-- a bound method, f of x -/
  | met (f x : Addr)
  /-- a range object lo, lo + 1, .. below hi -/
  | rng (lo hi : Int)
  /-- a thing that is known to the object (the script; a dict while a loop walks it): read, never written while it is so -/
  | frz (o : Obj) (u : HO)
  /-- a code object's table -/
  | tbl (ps : Array Value)
  /-- any other thing, by what is true of its one object (a def of one's own: SetO a S n := HO.ext fun h => ..) -/
  | ext (φ : Heap → Prop)

abbrev Hp := Addr → Option HO
def upd (H : Hp) (a : Addr) (o : HO) : Hp := fun b => if b = a then some o else H b
theorem upd_same {H : Hp} {a : Addr} {o : HO} : upd H a o a = some o := by unfold upd; rw [if_pos rfl]
theorem upd_ne {H : Hp} {a b : Addr} {o : HO} (h : b ≠ a) : upd H a o b = H b := by unfold upd; rw [if_neg h]
theorem ne_of_none {H : Hp} {a b : Addr} {o : HO} (h : H a = some o) (h' : H b = none) : a ≠ b := by
  intro e; subst e; rw [h] at h'; cases h'

/-- a set that may be walked: the order is by text, or its maker is led; and no text in it stands at a plain place -/
def TxtO (w : World) (o : Obj) : Prop := ∃ es ep t, o.data = .set es ep t ∧ (w.params.followText "set-order" = true ∨ t.led = true) ∧ (es.size = 0 ∨ t.plain = false)
def Txts (w : World) (h : Heap) (a : Addr) : Prop := ∃ o, h.get? a = some o ∧ TxtO w o
/-- a tuple's object, without a dict -/
def TupD (h : Heap) (a : Addr) (its : Array Value) : Prop := ∃ o, h.get? a = some o ∧ o.cls = .type "tuple" ∧ (∃ n, o.data = .seq its n) ∧ o.dict = none
theorem TupD.tup {h : Heap} {a : Addr} {its : Array Value} (x : TupD h a its) : IsTup h a its := let ⟨o, e, c, d, _⟩ := x; ⟨o, e, c, d⟩
theorem TupD.lt {h : Heap} {a : Addr} {its : Array Value} (x : TupD h a its) : a < h.objs.size := let ⟨_, e, _⟩ := x; Heap.lt_size e
theorem TupD.new (h : Heap) (its : Array Value) : TupD (h.push { cls := .type "tuple", data := .seq its }) h.objs.size its := ⟨_, Heap.get?_push_size _ rfl, rfl, ⟨_, rfl⟩, rfl⟩
section
variable (P : Program) (w : World)
def ObjOk (H : Hp) (h : Heap) (a : Addr) : HO → Prop
  | .lst xs => xs.length ≤ sizeLine ∧ ∃ (its : List Value) (n : Nat), Vals xs its ∧ h.get? a = some { cls := .type "list", data := .seq its.toArray n }
  | .tup xs => xs.length ≤ sizeLine ∧ ∃ its : List Value, Vals xs its ∧ TupD h a its.toArray
  | .dK kvs => kvs.length ≤ sizeLine ∧ (a == sysModules) = false ∧ ∃ vs, KV kvs vs ∧ h.DictOf (mixKind P w) a vs
  | .dT kvs => kvs.length ≤ sizeLine ∧ (a == sysModules) = false ∧ ∃ xs : List (List Key × Addr × Value),
      Paired (fun (p : List Key × V) (q : List Key × Addr × Value) => p.1 = q.1 ∧ H q.2.1 = some (.tup (p.1.map kV)) ∧ RelV p.2 q.2.2) kvs xs ∧
      ∃ o es ep, h.get? a = some o ∧ o.ExactDict ∧ o.data = .dict es ep ∧ es.toList = xs.map (entryOfKey (tupleKind (mixKind P w))) ∧ (xs.map (·.1)).Nodup
  | .set S n => h.SetOf (PySem.strKind P w) a S n ∧ Txts w h a
  | .ins C dx fs => H dx = some (.own a) ∧ fs.length ≤ 1000 ∧ dx ≠ a ∧ h.get? a = some (PySem.W.instObj C dx) ∧
      ∃ mA, h.Ns1 dx mA ∧ (∀ f, RelO (fs.lookup f) (mA f)) ∧ PySem.Within mA (fs.map (·.1))
  | .own _ => ∃ o, h.get? a = some o
  | .xd fs => ∃ mA, h.Ns1 a mA ∧ ∀ f, RelO (fs.lookup f) (mA f)
  | .rng lo hi => ∃ t u v, h.get? a = some { cls := .type "range", data := .fields #[.int lo t, .int hi u, .int 1 v] }
  | .frz o u => h.get? a = some o ∧ ObjOk H h a u
  | .tbl ps => h.get? a = some { cls := .none, data := .fields ps }
  | .met f x => h.get? a = some (PySem.W.methodObj (.ref f) (.ref x))
  | .ext φ => φ h ∧ (∃ o, h.get? a = some o) ∧ ∀ h1 h2 : Heap, φ h1 → (∀ o, h1.get? a = some o → h2.get? a = some o) → φ h2
/-- the abstract heap is held -/
def HOk (H : Hp) (h : Heap) : Prop := ∀ a o, H a = some o → ObjOk P w H h a o
end

section
variable {P : Program} {w : World} {H H' : Hp} {h h' : Heap} {a : Addr} {o : HO}
theorem ObjOk.lt (x : ObjOk P w H h a o) : a < h.objs.size := by
  cases o with
  | lst xs => obtain ⟨_, _, _, _, e⟩ := x; exact Heap.lt_size e
  | tup xs => obtain ⟨_, _, _, p⟩ := x; exact p.lt
  | dK kvs => obtain ⟨_, _, _, _, o, _, _, e, _⟩ := x; exact Heap.lt_size e
  | dT kvs => obtain ⟨_, _, _, _, o, _, _, e, _⟩ := x; exact Heap.lt_size e
  | set S n => obtain ⟨⟨o, _, _, _, e, _⟩, _⟩ := x; exact Heap.lt_size e
  | ins C dx fs => obtain ⟨_, _, _, e, _⟩ := x; exact Heap.lt_size e
  | own y => obtain ⟨_, e⟩ := x; exact Heap.lt_size e
  | xd fs => obtain ⟨_, ⟨_, _, _, e, _⟩, _⟩ := x; exact Heap.lt_size e
  | rng lo hi => obtain ⟨_, _, _, e⟩ := x; exact Heap.lt_size e
  | frz ob u => obtain ⟨e, _⟩ := x; exact Heap.lt_size e
  | tbl ps => exact Heap.lt_size (show h.get? a = some _ from x)
  | met f y => exact Heap.lt_size (show h.get? a = some _ from x)
  | ext φ => obtain ⟨_, ⟨_, e⟩, _⟩ := x; exact Heap.lt_size e
theorem Paired.mapP {α β : Type} {F G : α → β → Prop} : ∀ {l₁ : List α} {l₂ : List β}, Paired F l₁ l₂ → (∀ a b, F a b → G a b) → Paired G l₁ l₂
  | _, _, .nil, _ => .nil
  | _, _, .cons r t, f => .cons (f _ _ r) (Paired.mapP t f)
/-- what an object's description leans on: its own object, its own dict, the tuples -/
theorem ObjOk.stay (x : ObjOk P w H h a o) (k : ∀ b u, (b = a ∨ H b = some (.own a)) → h.get? b = some u → h'.get? b = some u)
    (ho : ∀ b, H b = some (.own a) → H' b = some (.own a)) (ht : ∀ b xs, H b = some (.tup xs) → H' b = some (.tup xs)) : ObjOk P w H' h' a o := by
  induction o with
  | lst xs => obtain ⟨z, its, n, r, e⟩ := x; exact ⟨z, its, n, r, k _ _ (.inl rfl) e⟩
  | tup xs => obtain ⟨z, its, r, ob, e, c⟩ := x; exact ⟨z, its, r, ob, k _ _ (.inl rfl) e, c⟩
  | dK kvs => obtain ⟨z, y, vs, r, ob, es, ep, e, c⟩ := x; exact ⟨z, y, vs, r, ob, es, ep, k _ _ (.inl rfl) e, c⟩
  | dT kvs =>
    obtain ⟨z, y, xs, r, ob, es, ep, e, c⟩ := x
    exact ⟨z, y, xs, Paired.mapP r fun p q z => ⟨z.1, ht _ _ z.2.1, z.2.2⟩, ob, es, ep, k _ _ (.inl rfl) e, c⟩
  | set S n => obtain ⟨⟨ob, es, ep, t, e, c⟩, o', e', c'⟩ := x; exact ⟨⟨ob, es, ep, t, k _ _ (.inl rfl) e, c⟩, o', k _ _ (.inl rfl) e', c'⟩
  | ins C dx fs =>
    obtain ⟨d, z, ne, e, mA, ⟨od, es, ep, e2, c⟩, r⟩ := x
    exact ⟨ho _ d, z, ne, k _ _ (.inl rfl) e, mA, ⟨od, es, ep, k _ _ (.inr d) e2, c⟩, r⟩
  | own y => obtain ⟨ob, e⟩ := x; exact ⟨ob, k _ _ (.inl rfl) e⟩
  | xd fs => obtain ⟨mA, ⟨od, es, ep, e, c⟩, r⟩ := x; exact ⟨mA, ⟨od, es, ep, k _ _ (.inl rfl) e, c⟩, r⟩
  | rng lo hi => obtain ⟨t, u, v, e⟩ := x; exact ⟨t, u, v, k _ _ (.inl rfl) e⟩
  | frz ob u ih => obtain ⟨e, q⟩ := x; exact ⟨k _ _ (.inl rfl) e, ih q⟩
  | tbl ps =>
    have e : h.get? a = some { cls := .none, data := .fields ps } := x
    show h'.get? a = some { cls := .none, data := .fields ps }
    exact k a _ (.inl rfl) e
  | met f y =>
    have e : h.get? a = some (PySem.W.methodObj (.ref f) (.ref y)) := x
    show h'.get? a = some (PySem.W.methodObj (.ref f) (.ref y))
    exact k a _ (.inl rfl) e
  | ext φ => obtain ⟨p, ⟨o, e⟩, st⟩ := x; exact ⟨st _ _ p fun o q => k _ _ (.inl rfl) q, ⟨o, k _ _ (.inl rfl) e⟩, st⟩
theorem HOk.lt (x : HOk P w H h) (e : H a = some o) : a < h.objs.size := (x a o e).lt
theorem HOk.fresh (x : HOk P w H h) (e : h.objs.size ≤ a) : H a = none := by
  cases q : H a with
  | none => rfl
  | some u => exact absurd (Nat.lt_of_lt_of_le (x.lt q) e) (Nat.lt_irrefl _)
/-- every object of the heap is kept -/
theorem HOk.kept (x : HOk P w H h) (k : ∀ b u, h.get? b = some u → h'.get? b = some u) : HOk P w H h' := fun a o e =>
  (x a o e).stay (fun b u _ q => k b u q) (fun _ q => q) fun _ _ q => q
/-- a new object is laid and tracked -/
theorem HOk.laid (x : HOk P w H h) (k : ∀ b u, h.get? b = some u → h'.get? b = some u) (hp : h.objs.size ≤ a) (new : ObjOk P w (upd H a o) h' a o) : HOk P w (upd H a o) h' := fun b u e => by
  have hn := x.fresh hp
  by_cases hb : b = a
  · subst hb; rw [upd_same] at e; cases e; exact new
  · rw [upd_ne hb] at e
    exact (x b u e).stay (fun c v _ q => k c v q) (fun c q => by rw [upd_ne (ne_of_none q hn)]; exact q) fun c xs q => by rw [upd_ne (ne_of_none q hn)]; exact q
end

/-- what may be read as u: it is u, or a known u -/
def Rd (H : Hp) (a : Addr) (u : HO) : Prop := H a = some u ∨ ∃ o, H a = some (.frz o u)
theorem Rd.of {H : Hp} {a : Addr} {u : HO} (h : H a = some u) : Rd H a u := .inl h
theorem Rd.ok {P : Program} {w : World} {H : Hp} {h : Heap} {a : Addr} {u : HO} (r : Rd H a u) (x : HOk P w H h) : ObjOk P w H h a u := by
  rcases r with r | ⟨o, r⟩
  · exact x a u r
  · obtain ⟨_, q⟩ := x a _ r
    exact q
/-- what may be written -/
def Mut : Option HO → Prop
  | some (.lst _) => True
  | some (.dK _) => True
  | some (.dT _) => True
  | some (.set _ _) => True
  | some (.ins _ _ _) => True
  | some (.ext _) => True
  | _ => False
section
variable {P : Program} {w : World} {H : Hp} {h h' : Heap} {x e : Addr} {o' : HO}
/-- the object at e is changed: x itself, or the dict of the instance x -/
theorem HOk.write (ok : HOk P w H h) (mu : Mut (H x)) (he : e = x ∨ H e = some (.own x)) (k : ∀ b u, b ≠ e → h.get? b = some u → h'.get? b = some u) (heo : ∃ u, h'.get? e = some u)
    (new : ObjOk P w (upd H x o') h' x o') : HOk P w (upd H x o') h' := fun b u q => by
  have nown : ∀ c y, H c = some (.own y) → c ≠ x := fun c y r z => by subst z; rw [r] at mu; exact mu
  have ntup : ∀ c xs, H c = some (.tup xs) → c ≠ x := fun c xs r z => by subst z; rw [r] at mu; exact mu
  by_cases hb : b = x
  · subst hb; rw [upd_same] at q; cases q; exact new
  · rw [upd_ne hb] at q
    by_cases hbe : b = e
    · have q' : H b = some (.own x) := by
        rcases he with z | z
        · exact absurd (hbe.trans z) hb
        · rw [hbe]; exact z
      rw [q] at q'; cases q'
      obtain ⟨v, hv⟩ := heo
      exact ⟨v, by rw [hbe]; exact hv⟩
    · refine (ok b u q).stay (fun c v hc r => k c v ?_ r) (fun c r => by rw [upd_ne (nown c b r)]; exact r) fun c xs r => by rw [upd_ne (ntup c xs r)]; exact r
      rcases hc with rfl | hc
      · exact hbe
      · rintro rfl
        rcases he with z | z
        · exact nown c b hc z
        · rw [hc] at z; cases z; exact hb rfl
end

/-! ### kept unless tracked; of the frames at fs (the callers') the slots may change (an exception that passes writes there); of the records at ex (iterators) nothing is said -/
structure Un (fs ex : List Addr) (H H' : Hp) (h h' : Heap) : Prop where
  keep : ∀ b o, h.get? b = some o → H b = none → b ∉ fs → b ∉ ex → h'.get? b = some o
  slot : ∀ b o, h.get? b = some o → H b = none → b ∈ fs → b ∉ ex → ∃ sl, h'.get? b = some { o with slots := sl }
  free : ∀ b o, h.get? b = some o → H b = none → b ∉ ex → H' b = none
  there : ∀ b o, h.get? b = some o → b ∉ ex → ∃ o', h'.get? b = some o'
  tups : ∀ b xs, H b = some (.tup xs) → H' b = some (.tup xs)
  frzs : ∀ b o u, H b = some (.frz o u) → H' b = some (.frz o u)
  tbls : ∀ b ps, H b = some (.tbl ps) → ∃ more, H' b = some (.tbl (ps ++ more))
section
variable {fs fs' ex ex' : List Addr} {H H1 H2 : Hp} {h h1 h2 h' : Heap} {a x e : Addr} {o : HO}
theorem Un.any (u : Un fs ex H H1 h h1) {b : Addr} {ob : Obj} (q : h.get? b = some ob) (n : H b = none) (hx : b ∉ ex) : ∃ sl, h1.get? b = some { ob with slots := sl } := by
  by_cases hb : b ∈ fs
  · exact u.slot b ob q n hb hx
  · exact ⟨ob.slots, u.keep b ob q n hb hx⟩
theorem Un.trans (a : Un fs ex H H1 h h1) (b : Un fs ex H1 H2 h1 h2) : Un fs ex H H2 h h2 where
  keep := fun c ob q n hc hx => b.keep c ob (a.keep c ob q n hc hx) (a.free c ob q n hx) hc hx
  slot := fun c ob q n hc hx => by
    obtain ⟨sl, e1⟩ := a.slot c ob q n hc hx
    obtain ⟨sl', e2⟩ := b.slot c _ e1 (a.free c ob q n hx) hc hx
    exact ⟨sl', e2⟩
  free := fun c ob q n hx => by
    obtain ⟨o', e1⟩ := a.there c ob q hx
    exact b.free c o' e1 (a.free c ob q n hx) hx
  there := fun c ob q hx => by
    obtain ⟨o', e1⟩ := a.there c ob q hx
    exact b.there c o' e1 hx
  tups := fun c xs q => b.tups c xs (a.tups c xs q)
  frzs := fun c ob xs q => b.frzs c ob xs (a.frzs c ob xs q)
  tbls := fun c ps q => by
    obtain ⟨m1, e1⟩ := a.tbls c ps q
    obtain ⟨m2, e2⟩ := b.tbls c _ e1
    exact ⟨m1 ++ m2, by rw [e2, Array.append_assoc]⟩
theorem Un.kept (k : ∀ b u, h.get? b = some u → h'.get? b = some u) : Un fs ex H H h h' :=
  ⟨fun b ob q _ _ _ => k b ob q, fun b ob q _ _ _ => ⟨ob.slots, k b ob q⟩, fun _ _ _ n _ => n, fun b ob q _ => ⟨ob, k b ob q⟩, fun _ _ q => q, fun _ _ _ q => q, fun _ ps q => ⟨#[], by rw [q]; simp⟩⟩
theorem Un.refl : Un fs ex H H h h := Un.kept fun _ _ q => q
theorem Un.laid (k : ∀ b u, h.get? b = some u → h'.get? b = some u) (hp : h.objs.size ≤ a) (hn : H a = none) : Un fs ex H (upd H a o) h h' where
  keep := fun b u q _ _ _ => k b u q
  slot := fun b u q _ _ _ => ⟨u.slots, k b u q⟩
  free := fun b u q n _ => by rw [upd_ne (Nat.ne_of_lt (Nat.lt_of_lt_of_le (Heap.lt_size q) hp))]; exact n
  there := fun b u q _ => ⟨u, k b u q⟩
  tups := fun b xs q => by rw [upd_ne (ne_of_none q hn)]; exact q
  frzs := fun b u xs q => by rw [upd_ne (ne_of_none q hn)]; exact q
  tbls := fun b ps q => ⟨#[], by rw [upd_ne (ne_of_none q hn), q]; simp⟩
theorem Un.write (mu : Mut (H x)) (he : e = x ∨ H e = some (.own x)) (k : ∀ b u, b ≠ e → h.get? b = some u → h'.get? b = some u) (heo : ∃ u, h'.get? e = some u) : Un fs ex H (upd H x o) h h' := by
  have hx : ∀ b, H b = none → b ≠ x := fun b n z => by subst z; rw [n] at mu; exact mu
  have hb : ∀ b, H b = none → b ≠ e := fun b n z => by
    subst z
    rcases he with r | r
    · exact hx b n r
    · rw [n] at r; cases r
  have hm : ∀ b u, H b = some u → ¬ Mut (some u) → b ≠ x := fun b u q nm z => by subst z; rw [q] at mu; exact nm mu
  refine ⟨fun b u q n _ _ => k b u (hb b n) q, fun b u q n _ _ => ⟨u.slots, k b u (hb b n) q⟩, fun b u q n _ => by rw [upd_ne (hx b n)]; exact n, fun b u q _ => ?_,
    fun b xs q => by rw [upd_ne (hm b _ q fun z => z)]; exact q, fun b u xs q => by rw [upd_ne (hm b _ q fun z => z)]; exact q, fun b ps q => ⟨#[], by rw [upd_ne (hm b _ q fun z => z), q]; simp⟩⟩
  by_cases hbe : b = e
  · subst hbe; exact heo
  · exact ⟨u, k b u hbe q⟩
theorem Un.mono (u : Un fs ex H H1 h h1) (hs : ∀ b ∈ fs, b ∈ fs') (hx : ∀ b ∈ ex, b ∈ ex') : Un fs' ex' H H1 h h1 :=
  ⟨fun b ob q n hb he => u.keep b ob q n (fun z => hb (hs b z)) fun z => he (hx b z), fun _ _ q n _ he => u.any q n fun z => he (hx _ z), fun b ob q n he => u.free b ob q n fun z => he (hx b z), fun b ob q he => u.there b ob q fun z => he (hx b z), u.tups, u.frzs, u.tbls⟩
end

/-! ### the heap without what is tracked -/
def trk (h : Heap) (H : Hp) : List Addr := (List.range h.objs.size).filter fun a => (H a).isSome
def hidT (h : Heap) (H : Hp) : Heap := PySem.W.hideAll h (trk h H)
theorem hidT_size (h : Heap) (H : Hp) : (hidT h H).objs.size = h.objs.size := PySem.W.hideAll_size _ _
theorem hidT_get {h : Heap} {H : Hp} {b : Addr} {o : Obj} (e : h.get? b = some o) (n : H b = none) : (hidT h H).get? b = some o :=
  PySem.W.hideAll_get _ e fun hm => by
    have q : (H b).isSome = true := (List.mem_filter.mp hm).2
    rw [n] at q; simp at q
theorem of_hidT {h : Heap} {H : Hp} {b : Addr} {o : Obj} (e : (hidT h H).get? b = some o) : h.get? b = some o ∧ H b = none := by
  have e' : h.get? b = some o := PySem.W.of_hideAll (trk h H) e
  refine ⟨e', ?_⟩
  cases q : H b with
  | none => rfl
  | some x =>
    have hm : b ∈ trk h H := List.mem_filter.mpr ⟨List.mem_range.mpr (Heap.lt_size e'), by simp [q]⟩
    have z : (hidT h H).get? b = none := PySem.W.hideAll_none (trk h H) hm
    rw [z] at e; cases e

/-! ### OpenK's ledger, filled with every new object but one -/
def allNews (g h : Heap) (L : Addr) : List (Addr × Obj) := (List.range h.objs.size).filterMap fun a => if a = L ∨ (g.get? a).isSome = true then none else (h.get? a).map fun o => (a, o)
def rest (g h : Heap) (L d : Addr) : List (Addr × Obj) := (allNews g h L).filter fun p => decide (p.1 ≠ d)
end L2

namespace L2
open PySem PySem.Spec PyProof.Rows

/-- the module's facts, over the base: the heap at the law's entry without what is tracked there -/
structure Mod (K : PySem.W.Frag) (mg : Str → Option Value) (base : Heap) : Prop where
  kin : K.In base
  glob : base.Ns mainGlobals mg
  blt : ∃ mb, base.Ns builtinsNs mb ∧ ∀ x : Str, x ≠ "__name__" → mb x = bootBuiltins x
  nolimit : base.NoLimit

/-- the context: a def's body (or a comprehension's block) running. base: fixed through the whole law; s₀, H₀: the entry; outer: the frames whose slots others may change (a def's callers); stack: all frames that run;
   ex: iterators that were made ahead of the entry and are walked here (a comprehension's); fn: the names whose cells were made at the entry (a def: all; a comprehension's block: its own); calm: not within an except suite; pn: pins that every state bears; xe: what is wanted of an exception that leaves the code -/
structure Cx where
  prog : Program
  w : World
  K : PySem.W.Frag
  mg : Str → Option Value
  base : Heap
  A : Around
  N : List Str
  s₀ : Shared
  H₀ : Hp
  env : Env
  outer : List Env
  stack : List Env
  ex : List Addr
  fn : Str → Bool
  calm : Bool
  pn : List (Addr × Obj)
  xe : Value → Shared → Prop
/-- the callers' frames -/
def frs (l : List Env) : List Addr := l.filterMap (·.frame)
abbrev Cx.fs (X : Cx) : List Addr := frs X.outer

def Vis (sc : Scope) (x : Str) : Prop := sc.names.lookup x = some .local ∨ sc.names.lookup x = some .cell ∨ sc.names.lookup x = some .free
def Loc (sc : Scope) (x : Str) : Prop := sc.names.lookup x = some .local ∨ sc.names.lookup x = some .cell
def Look (env : Env) (h : Heap) (m : Str → Option Value) (x : Str) (u : Value) : Prop :=
  (env.kindOf x = some .local ∧ m x = some u) ∨ ((env.kindOf x = some .cell ∨ env.kindOf x = some .free) ∧ ∃ c, env.cells.lookup x = some c ∧ h.IsCell c (some u))

structure Cx.Ok (X : Cx) : Prop where
  mod : Mod X.K X.mg X.base
  kind : X.env.scope.kind = .function
  glob : X.env.globals = mainGlobals
  blt : X.env.builtins = builtinsNs
  above : X.s₀.heap.objs.size ≤ X.env.locals
  inj : ∀ x y c, X.env.cells.lookup x = some c → X.env.cells.lookup y = some c → x = y
  has : ∀ x, (X.env.kindOf x = some .cell ∨ X.env.kindOf x = some .free) → ∃ c, X.env.cells.lookup x = some c
  cab : ∀ x c, X.fn x = true → X.env.cells.lookup x = some c → X.s₀.heap.objs.size ≤ c
  hd : X.calm = true → X.A.handled = none
  frames : X.A.frames = some X.stack
  stk : X.stack = X.outer ∨ (X.stack = X.env :: X.outer ∧ X.env.frame = some X.env.locals)
  exf : ∀ b ∈ X.ex, b ≠ X.env.locals ∧ ∀ x c, X.env.cells.lookup x = some c → c ≠ b
  bs : ∀ b o, X.base.get? b = some o → X.s₀.heap.get? b = some o ∧ X.H₀ b = none
  bsz : X.base.objs.size ≤ X.s₀.heap.objs.size
  noex : ∀ b o, X.base.get? b = some o → b ∉ X.ex
  exfs : ∀ b ∈ X.ex, b ∉ X.fs
  funs : X.s₀.heap.FunFrames X.base X.outer
  frf : ∀ b ∈ X.fs, X.H₀ b = none

structure Inv (X : Cx) (pins : List (Addr × Obj)) (σ : List (Option V)) (H : Hp) (s : Shared) : Prop where
  ok : X.Ok
  os : s.os = X.s₀.os
  bare : AllBare s.gens
  base : Un X.fs X.ex X.H₀ H X.s₀.heap s.heap
  loc : ∃ m, s.heap.Ns X.env.locals m ∧ ∀ (i : Nat) (x : Str) (v : V), X.N[i]? = some x → σ[i]? = some (some v) → Vis X.env.scope x → ∃ u, RelV v u ∧ Look X.env s.heap m x u
  cell : ∀ x c, X.env.cells.lookup x = some c → ∃ v, s.heap.IsCell c v
  free : H X.env.locals = none
  freeC : ∀ x c, X.env.cells.lookup x = some c → H c = none
  pin : ∀ p ∈ X.pn ++ pins, s.heap.get? p.1 = some p.2 ∧ H p.1 = none ∧ p.1 ≠ X.env.locals ∧ p.1 ∉ X.fs ∧ ∀ v, p.2.data ≠ .cell v
  hok : HOk X.prog X.w H s.heap
  len : σ.length = X.N.length

section
variable {X : Cx} {pins : List (Addr × Obj)} {σ : List (Option V)} {H H' : Hp} {s : Shared} {h' : Heap}

theorem Cx.Ok.nofr (ok : X.Ok) {b : Addr} {o : Obj} (e : X.base.get? b = some o) : b ∉ X.fs := fun hb => by
  have := (ok.funs.mem hb).1
  rw [e] at this; cases this
theorem Inv.bs (I : Inv X pins σ H s) : ∀ b o, X.base.get? b = some o → s.heap.get? b = some o ∧ H b = none := fun b o e =>
  ⟨I.base.keep b o (I.ok.bs b o e).1 (I.ok.bs b o e).2 (I.ok.nofr e) (I.ok.noex b o e), I.base.free b o (I.ok.bs b o e).1 (I.ok.bs b o e).2 (I.ok.noex b o e)⟩
theorem Inv.bk (I : Inv X pins σ H s) : ∀ b o, X.base.get? b = some o → s.heap.get? b = some o := fun b o e => (I.bs b o e).1
theorem Inv.mod (I : Inv X pins σ H s) : Mod X.K X.mg X.base := I.ok.mod
theorem Inv.kIn (I : Inv X pins σ H s) : X.K.In s.heap := I.ok.mod.kin.keeps I.bk
theorem Inv.nolimit (I : Inv X pins σ H s) : s.heap.NoLimit := I.ok.mod.nolimit.keeps I.bk
/-- the frame over the base: for OpenK's rules (K.In X.base is I.mod.kin) -/
theorem Inv.fr (I : Inv X pins σ H s) : ∃ m, Fr X.base X.env.locals s.heap m :=
  let ⟨m, hn, _⟩ := I.loc
  ⟨m, hn, I.bk, Nat.le_trans I.ok.bsz I.ok.above⟩
theorem Inv.lt (I : Inv X pins σ H s) : X.env.locals < s.heap.objs.size := let ⟨_, hn, _⟩ := I.loc; hn.lt
theorem Inv.sz (I : Inv X pins σ H s) : X.s₀.heap.objs.size ≤ s.heap.objs.size := Nat.le_trans I.ok.above (Nat.le_of_lt I.lt)
theorem Inv.nofs (I : Inv X pins σ H s) {a : Addr} (h : s.heap.objs.size ≤ a) : a ∉ X.fs := fun hb => by
  obtain ⟨_, o, ho, _⟩ := I.ok.funs.mem hb
  exact absurd (Nat.lt_of_lt_of_le (Heap.lt_size ho) (Nat.le_trans I.sz h)) (Nat.lt_irrefl _)
theorem Inv.cne (I : Inv X pins σ H s) : ∀ x c, X.env.cells.lookup x = some c → c ≠ X.env.locals := fun x c e z => by
  obtain ⟨v, o, ho, hd⟩ := I.cell x c e
  obtain ⟨m, ⟨o', es, ep, ho', hd', _⟩, _⟩ := I.loc
  rw [z, ho'] at ho; cases ho; rw [hd'] at hd; cases hd
theorem Inv.funs (I : Inv X pins σ H s) : s.heap.FunFrames X.base X.outer := by
  have all : ∀ (l : List Env), (∀ b ∈ frs l, b ∈ X.fs) → X.s₀.heap.FunFrames X.base l → s.heap.FunFrames X.base l := by
    intro l
    induction l with
    | nil => intro _ _; trivial
    | cons env r ih =>
      intro hs hl
      obtain ⟨hk, ⟨L, o, hf, hn, ho, hd⟩, hr⟩ := hl
      have hL : L ∈ X.fs := hs L (by unfold frs; rw [List.filterMap_cons, hf]; exact List.mem_cons_self)
      obtain ⟨sl, e⟩ := I.base.slot L o ho (I.ok.frf L hL) hL fun z => I.ok.exfs L z hL
      exact ⟨hk, ⟨L, _, hf, hn, e, hd⟩, ih (fun b hb => hs b (by unfold frs; rw [List.filterMap_cons, hf]; exact List.mem_cons_of_mem _ hb)) hr⟩
  exact all X.outer (fun _ hb => hb) I.ok.funs

/-- the frames that run, for a call -/
theorem Inv.stack (I : Inv X pins σ H s) : s.heap.FunFrames X.base X.stack := by
  rcases I.ok.stk with e | ⟨e, hf⟩
  · rw [e]; exact I.funs
  · rw [e]
    obtain ⟨m, hn, _⟩ := I.loc
    refine .cons (by rw [I.ok.kind]; decide) hf hn ?_ I.funs
    exact Heap.get?_none_of_le (Nat.le_trans I.ok.bsz I.ok.above)
theorem Inv.stkSub (I : Inv X pins σ H s) : ∀ b ∈ frs X.stack, b ∈ X.env.locals :: X.fs := fun b hb => by
  rcases I.ok.stk with e | ⟨e, hf⟩
  · rw [e] at hb; exact List.mem_cons_of_mem _ hb
  · rw [e] at hb
    unfold frs at hb
    rw [List.filterMap_cons, hf] at hb
    exact hb
theorem Inv.stkFree (I : Inv X pins σ H s) : ∀ b ∈ frs X.stack, H b = none := fun b hb => by
  rcases List.mem_cons.mp (I.stkSub b hb) with e | hb
  · rw [e]; exact I.free
  · obtain ⟨_, o, ho, _⟩ := I.ok.funs.mem hb
    exact I.base.free b o ho (I.ok.frf b hb) fun z => I.ok.exfs b z hb

/-- THE STEP: the untracked objects but the frame and the records at ch are kept (the callers' frames up to slots), the frame's map is kept, the new abstract heap is held -/
theorem Inv.step {g' : Array GenState} {t' : Nat} {d' : Drawn} {ch : List Addr} (I : Inv X pins σ H s)
    (hch : ∀ b ∈ ch, (b ∈ X.ex ∨ X.s₀.heap.objs.size ≤ b) ∧ b ≠ X.env.locals ∧ (∀ x c, X.env.cells.lookup x = some c → c ≠ b) ∧ ∀ p ∈ X.pn ++ pins, p.1 ≠ b)
    (keep : ∀ b o, b ≠ X.env.locals → b ∉ X.fs → b ∉ ch → s.heap.get? b = some o → H b = none → h'.get? b = some o)
    (slot : ∀ b o, b ≠ X.env.locals → b ∈ X.fs → b ∉ ch → s.heap.get? b = some o → H b = none → ∃ sl, h'.get? b = some { o with slots := sl }) (free : ∀ b o, b ∉ ch → s.heap.get? b = some o → H b = none → H' b = none)
    (there : ∀ b o, b ∉ ch → s.heap.get? b = some o → ∃ o', h'.get? b = some o')
    (tups : ∀ b xs, H b = some (.tup xs) → H' b = some (.tup xs)) (frzs : ∀ b o u, H b = some (.frz o u) → H' b = some (.frz o u)) (tbls : ∀ b ps, H b = some (.tbl ps) → ∃ more, H' b = some (.tbl (ps ++ more)))
    (ns : ∀ m, s.heap.Ns X.env.locals m → h'.Ns X.env.locals m) (hok : HOk X.prog X.w H' h') (hg : AllBare g') :
    Inv X pins σ H' { s with heap := h', gens := g', drawn := d', toks := t' } := by
  have neL : ∀ b o, X.s₀.heap.get? b = some o → b ≠ X.env.locals := fun b o e => Nat.ne_of_lt (Nat.lt_of_lt_of_le (Heap.lt_size e) I.ok.above)
  have neC : ∀ b o, X.s₀.heap.get? b = some o → b ∉ X.ex → b ∉ ch := fun b o e hx hb => by
    rcases (hch b hb).1 with z | z
    · exact hx z
    · exact absurd (Nat.lt_of_lt_of_le (Heap.lt_size e) z) (Nat.lt_irrefl _)
  have cellK : ∀ x c, X.env.cells.lookup x = some c → ∀ v, s.heap.IsCell c v → h'.IsCell c v := fun x c e v ⟨o, ho, hd⟩ => by
    have nch : c ∉ ch := fun z => (hch c z).2.2.1 x c e rfl
    by_cases hc : c ∈ X.fs
    · obtain ⟨sl, q⟩ := slot c o (I.cne x c e) hc nch ho (I.freeC x c e)
      exact ⟨_, q, hd⟩
    · exact ⟨o, keep c o (I.cne x c e) hc nch ho (I.freeC x c e), hd⟩
  refine ⟨I.ok, I.os, hg, ⟨fun b o e n hb hx => ?_, fun b o e n hb hx => ?_, fun b o e n hx => ?_, fun b o e hx => ?_, fun b xs e => tups b xs (I.base.tups b xs e), fun b o xs e => frzs b o xs (I.base.frzs b o xs e), fun b ps e => ?_⟩, ?_, fun x c e => ?_, ?_, fun x c e => ?_, fun p hp => ?_, hok, I.len⟩
  · exact keep b o (neL b o e) hb (neC b o e hx) (I.base.keep b o e n hb hx) (I.base.free b o e n hx)
  · obtain ⟨sl, e1⟩ := I.base.slot b o e n hb hx
    obtain ⟨sl', e2⟩ := slot b _ (neL b o e) hb (neC b o e hx) e1 (I.base.free b o e n hx)
    exact ⟨sl', e2⟩
  · obtain ⟨o', e1⟩ := I.base.there b o e hx
    exact free b o' (neC b o e hx) e1 (I.base.free b o e n hx)
  · obtain ⟨o', e1⟩ := I.base.there b o e hx
    exact there b o' (neC b o e hx) e1
  · obtain ⟨m1, e1⟩ := I.base.tbls b ps e
    obtain ⟨m2, e2⟩ := tbls b _ e1
    exact ⟨m1 ++ m2, by rw [e2, Array.append_assoc]⟩
  · obtain ⟨m, hn, hl⟩ := I.loc
    refine ⟨m, ns m hn, fun i x v e1 e2 e3 => ?_⟩
    obtain ⟨u, r, l⟩ := hl i x v e1 e2 e3
    refine ⟨u, r, ?_⟩
    rcases l with l | ⟨k, c, e, z⟩
    · exact .inl l
    · exact .inr ⟨k, c, e, cellK x c e _ z⟩
  · obtain ⟨v, z⟩ := I.cell x c e
    exact ⟨v, cellK x c e v z⟩
  · obtain ⟨m, ⟨o, _, _, ho, _⟩, _⟩ := I.loc
    exact free _ o (fun z => (hch _ z).2.1 rfl) ho I.free
  · obtain ⟨v, o, ho, hd⟩ := I.cell x c e
    exact free c o (fun z => (hch c z).2.2.1 x c e rfl) ho (I.freeC x c e)
  · obtain ⟨e, n, ne, nf, d⟩ := I.pin p hp
    have nch : p.1 ∉ ch := fun z => (hch p.1 z).2.2.2 p hp rfl
    exact ⟨keep p.1 p.2 ne nf nch e n, free p.1 p.2 nch e n, ne, nf, d⟩
/-- .. where the frame's own object is kept too -/
theorem Inv.un {t' : Nat} (I : Inv X pins σ H s) (u : Un X.fs [] H H' s.heap h') (hok : HOk X.prog X.w H' h') : Inv X pins σ H' { s with heap := h', toks := t' } := by
  obtain ⟨m, ⟨o, es, ep, ho, r⟩, _⟩ := id I.loc
  obtain ⟨sl, hL⟩ := u.any ho I.free (by simp)
  exact I.step (g' := s.gens) (d' := s.drawn) (ch := []) (fun _ z => nomatch z) (fun b o _ hb _ e n => u.keep b o e n hb (by simp)) (fun b o _ hb _ e n => u.slot b o e n hb (by simp)) (fun b o _ e n => u.free b o e n (by simp)) (fun b o _ e => u.there b o e (by simp)) u.tups u.frzs u.tbls (fun m' hm => by
    obtain ⟨o', es', ep', ho', r'⟩ := hm
    rw [ho] at ho'; cases ho'
    exact ⟨_, es', ep', hL, r'⟩) hok I.bare
/-- behind a call (or a comprehension's block): the slots of this frame may have changed too, the records at ch may have turned -/
theorem Inv.call {g' : Array GenState} {t' : Nat} {d' : Drawn} {ch : List Addr} (I : Inv X pins σ H s) (u : Un (frs X.stack) ch H H' s.heap h') (hok : HOk X.prog X.w H' h') (hg : AllBare g')
    (hch : ∀ b ∈ ch, (b ∈ X.ex ∨ X.s₀.heap.objs.size ≤ b) ∧ b ≠ X.env.locals ∧ (∀ x c, X.env.cells.lookup x = some c → c ≠ b) ∧ ∀ p ∈ X.pn ++ pins, p.1 ≠ b) :
    Inv X pins σ H' { s with heap := h', gens := g', drawn := d', toks := t' } := by
  obtain ⟨m, ⟨o, es, ep, ho, r⟩, _⟩ := id I.loc
  obtain ⟨sl, hL⟩ := u.any ho I.free fun z => (hch _ z).2.1 rfl
  exact I.step (ch := ch) hch (fun b o hL hb hc e n => u.keep b o e n (fun z => (List.mem_cons.mp (I.stkSub b z)).elim hL hb) hc) (fun b o _ _ hc e n => u.any e n hc) (fun b o hc e n => u.free b o e n hc) (fun b o hc e => u.there b o e hc) u.tups u.frzs u.tbls (fun m' hm => by
    obtain ⟨o', es', ep', ho', r'⟩ := hm
    rw [ho] at ho'; cases ho'
    exact ⟨_, es', ep', hL, r'⟩) hok hg
/-- an untracked record of ours (an iterator) has turned -/
theorem Inv.turned {t' : Nat} {it : Addr} (I : Inv X pins σ H s) (k : ∀ b o, b ≠ it → s.heap.get? b = some o → h'.get? b = some o) (hn : H it = none) (hL : it ≠ X.env.locals)
    (h1 : it ∈ X.ex ∨ X.s₀.heap.objs.size ≤ it) (h2 : ∀ x c, X.env.cells.lookup x = some c → c ≠ it) (h3 : ∀ p ∈ X.pn ++ pins, p.1 ≠ it) : Inv X pins σ H { s with heap := h', toks := t' } := by
  have nit : ∀ b u, H b = some u → b ≠ it := fun b u e z => by rw [z, hn] at e; cases e
  refine I.step (g' := s.gens) (d' := s.drawn) (ch := [it]) (fun b hb => ?_) (fun b o _ _ hc e _ => k b o (fun z => hc (by simp [z])) e) (fun b o _ _ hc e _ => ⟨o.slots, k b o (fun z => hc (by simp [z])) e⟩) (fun _ _ _ _ n => n)
    (fun b o hc e => ⟨o, k b o (fun z => hc (by simp [z])) e⟩) (fun _ _ e => e) (fun _ _ _ e => e) (fun b ps e => ⟨#[], by rw [e]; simp⟩) (fun m hm => ?_) (fun b u e => ?_) I.bare
  · have e : b = it := by simpa using hb
    subst e
    exact ⟨h1, hL, h2, h3⟩
  · obtain ⟨o, es, ep, ho, r⟩ := hm
    exact ⟨o, es, ep, k _ o (Ne.symm hL) ho, r⟩
  · refine (I.hok b u e).stay (fun c v hc q => k c v ?_ q) (fun _ q => q) fun _ _ q => q
    rcases hc with z | z
    · rw [z]; exact nit b u e
    · exact nit c _ z
theorem Inv.tok (I : Inv X pins σ H s) (t : Nat) : Inv X pins σ H { s with toks := t } := I.un (h' := s.heap) (t' := t) Un.refl I.hok
/-- all objects kept -/
theorem Inv.kept {t' : Nat} (I : Inv X pins σ H s) (k : ∀ b u, s.heap.get? b = some u → h'.get? b = some u) : Inv X pins σ H { s with heap := h', toks := t' } := I.un (Un.kept k) (I.hok.kept k)
/-- a new object laid and tracked -/
theorem Inv.laid {a : Addr} {o : HO} {t' : Nat} (I : Inv X pins σ H s) (k : ∀ b u, s.heap.get? b = some u → h'.get? b = some u) (hp : s.heap.objs.size ≤ a) (new : ObjOk X.prog X.w (upd H a o) h' a o) :
    Inv X pins σ (upd H a o) { s with heap := h', toks := t' } := I.un (Un.laid k hp (I.hok.fresh hp)) (I.hok.laid k hp new)
/-- an object written -/
theorem Inv.write {x e : Addr} {o : HO} {t' : Nat} (I : Inv X pins σ H s) (mu : Mut (H x)) (he : e = x ∨ H e = some (.own x)) (k : ∀ b u, b ≠ e → s.heap.get? b = some u → h'.get? b = some u) (heo : ∃ u, h'.get? e = some u)
    (new : ObjOk X.prog X.w (upd H x o) h' x o) : Inv X pins σ (upd H x o) { s with heap := h', toks := t' } := I.un (Un.write mu he k heo) (I.hok.write mu he k heo new)
/-- forgetting slots, pins -/
theorem Inv.weak {σ' : List (Option V)} (I : Inv X pins σ H s) (hl : σ'.length = σ.length) (w : ∀ (i : Nat) v, σ'[i]? = some (some v) → σ[i]? = some (some v)) : Inv X pins σ' H s :=
  ⟨I.ok, I.os, I.bare, I.base, let ⟨m, hn, hl'⟩ := I.loc; ⟨m, hn, fun i x v e1 e2 e3 => hl' i x v e1 (w i v e2) e3⟩, I.cell, I.free, I.freeC, I.pin, I.hok, hl.trans I.len⟩
theorem Inv.pins_of {pins' : List (Addr × Obj)} (I : Inv X pins σ H s) (h : ∀ p ∈ pins', s.heap.get? p.1 = some p.2 ∧ H p.1 = none ∧ p.1 ≠ X.env.locals ∧ p.1 ∉ X.fs ∧ ∀ v, p.2.data ≠ .cell v) : Inv X pins' σ H s :=
  ⟨I.ok, I.os, I.bare, I.base, I.loc, I.cell, I.free, I.freeC, fun p hp => (List.mem_append.mp hp).elim (fun z => I.pin p (List.mem_append_left _ z)) (h p), I.hok, I.len⟩

theorem nodup_ix {N : List Str} (hN : N.Nodup) {i j : Nat} {x : Str} (a : N[i]? = some x) (b : N[j]? = some x) : i = j := by
  obtain ⟨h1, e1⟩ := List.getElem?_eq_some_iff.mp a
  obtain ⟨h2, e2⟩ := List.getElem?_eq_some_iff.mp b
  exact (List.getElem_inj hN).mp (e1.trans e2.symm)

/-- a name is stored; what changed -/
theorem store_ok2 {M : Model} {A : Around} {E : Value → Shared → Prop} {i : Nat} {x : Str} {v : V} {u : Value} {Q : Unit → Shared → Prop} (I : Inv X pins σ H s) (hN : X.N.Nodup) (hi : X.N[i]? = some x) (hx : Loc X.env.scope x) (r : RelV v u)
    (h : ∀ s', Inv X pins (σ.set i (some v)) H s' → (∃ a, Heap.SameBut a s.heap s'.heap ∧ (a = X.env.locals ∨ X.env.cells.lookup x = some a)) → Q () s') (hf : X.fn x = true ∨ X.env.scope.names.lookup x = some .local := by first | exact .inl rfl | exact .inr rfl | assumption) : wpAny M A (storeName X.env x u) Q E s := by
  obtain ⟨m, hn, hl⟩ := id I.loc
  have hcls : (X.env.scope.kind == .class || (X.env.scope.kind == .module && X.env.locals != X.env.globals)) = false := by rw [I.ok.kind]; rfl
  have hiσ : i < σ.length := by rw [I.len]; exact (List.getElem?_eq_some_iff.mp hi).1
  have cne := I.cne
  have tracked : ∀ {a : Addr} {h' : Heap}, (∃ o, s.heap.get? a = some o ∧ H a = none) → Heap.SameBut a s.heap h' → HOk X.prog X.w H h' := fun {a h'} ha hs b ob e => by
    obtain ⟨_, _, hfree⟩ := ha
    refine (I.hok b ob e).stay (fun c w' hc q => (hs.2 c ?_).trans q) (fun _ q => q) fun _ _ q => q
    rintro rfl
    rcases hc with rfl | hc
    · rw [hfree] at e; cases e
    · rw [hfree] at hc; cases hc
  rcases hx with hk | hk
  · refine wpAny_storeName_local hk hn (fun h' hn' hs => ?_) hcls
    obtain ⟨oL, _, _, hoL, _⟩ := id hn
    refine h _ ⟨I.ok, I.os, I.bare, ⟨fun b o e n hb hx => ?_, fun b o e n hb hx => ?_, I.base.free, fun b o e hx => ?_, I.base.tups, I.base.frzs, I.base.tbls⟩, ⟨_, hn', fun j y v' e1 e2 e3 => ?_⟩, fun y c e => ?_, I.free, I.freeC, fun p hp => ?_, tracked ⟨oL, hoL, I.free⟩ hs, by simpa using I.len⟩ ⟨_, hs, .inl rfl⟩
    · exact (hs.2 b (Nat.ne_of_lt (Nat.lt_of_lt_of_le (Heap.lt_size e) I.ok.above))).trans (I.base.keep b o e n hb hx)
    · obtain ⟨sl, e1⟩ := I.base.slot b o e n hb hx
      exact ⟨sl, (hs.2 b (Nat.ne_of_lt (Nat.lt_of_lt_of_le (Heap.lt_size e) I.ok.above))).trans e1⟩
    · obtain ⟨o', e1⟩ := I.base.there b o e hx
      exact ⟨o', (hs.2 b (Nat.ne_of_lt (Nat.lt_of_lt_of_le (Heap.lt_size e) I.ok.above))).trans e1⟩
    · by_cases hj : j = i
      · subst hj
        rw [hi] at e1; cases e1
        rw [List.getElem?_set_self hiσ] at e2
        cases e2
        exact ⟨u, r, .inl ⟨hk, by simp⟩⟩
      · rw [List.getElem?_set_ne (Ne.symm hj)] at e2
        obtain ⟨u', r', q⟩ := hl j y v' e1 e2 e3
        refine ⟨u', r', ?_⟩
        rcases q with ⟨k, e⟩ | ⟨k, c, e, z⟩
        · refine .inl ⟨k, ?_⟩
          have : y ≠ x := fun e => hj (nodup_ix hN e1 (e ▸ hi))
          simp [this, e]
        · exact .inr ⟨k, c, e, z.sameBut hs (cne y c e)⟩
    · obtain ⟨w', z⟩ := I.cell y c e
      exact ⟨w', z.sameBut hs (cne y c e)⟩
    · obtain ⟨e, n, ne, nf, d⟩ := I.pin p hp
      exact ⟨(hs.2 p.1 ne).trans e, n, ne, nf, d⟩
  · have hfn : X.fn x = true := by
      rcases hf with z | z
      · exact z
      · rw [z] at hk; cases hk
    obtain ⟨c, hc⟩ := I.ok.has x (.inl hk)
    obtain ⟨w', z⟩ := I.cell x c hc
    refine wpAny_storeName_cell I.ok.kind hk hc z (fun h' hc' hs => ?_)
    obtain ⟨oc, hoc, hocd⟩ := id z
    refine h { s with heap := h' } ⟨I.ok, I.os, I.bare, ⟨fun b o e n hb hx => ?_, fun b o e n hb hx => ?_, I.base.free, fun b o e hx => ?_, I.base.tups, I.base.frzs, I.base.tbls⟩, ⟨m, hn.sameBut hs (Ne.symm (cne x c hc)), fun j y v' e1 e2 e3 => ?_⟩, fun y c' e => ?_, I.free, I.freeC, fun p hp => ?_, tracked ⟨oc, hoc, I.freeC x c hc⟩ hs, by simpa using I.len⟩ ⟨c, hs, .inr hc⟩
    · exact (hs.2 b (Nat.ne_of_lt (Nat.lt_of_lt_of_le (Heap.lt_size e) (I.ok.cab x c hfn hc)))).trans (I.base.keep b o e n hb hx)
    · obtain ⟨sl, e1⟩ := I.base.slot b o e n hb hx
      exact ⟨sl, (hs.2 b (Nat.ne_of_lt (Nat.lt_of_lt_of_le (Heap.lt_size e) (I.ok.cab x c hfn hc)))).trans e1⟩
    · obtain ⟨o', e1⟩ := I.base.there b o e hx
      exact ⟨o', (hs.2 b (Nat.ne_of_lt (Nat.lt_of_lt_of_le (Heap.lt_size e) (I.ok.cab x c hfn hc)))).trans e1⟩
    · by_cases hj : j = i
      · subst hj
        rw [hi] at e1; cases e1
        rw [List.getElem?_set_self hiσ] at e2
        cases e2
        exact ⟨u, r, .inr ⟨.inl hk, c, hc, hc'⟩⟩
      · rw [List.getElem?_set_ne (Ne.symm hj)] at e2
        obtain ⟨u', r', q⟩ := hl j y v' e1 e2 e3
        refine ⟨u', r', ?_⟩
        rcases q with q | ⟨k, c', e, z'⟩
        · exact .inl q
        · refine .inr ⟨k, c', e, z'.sameBut hs ?_⟩
          rintro rfl
          exact hj (nodup_ix hN e1 (I.ok.inj _ _ _ e hc ▸ hi))
    · by_cases hcc : c' = c
      · subst hcc; exact ⟨_, hc'⟩
      · obtain ⟨w2, z2⟩ := I.cell y c' e
        exact ⟨w2, z2.sameBut hs hcc⟩
    · obtain ⟨e, n, ne, nf, d⟩ := I.pin p hp
      refine ⟨(hs.2 p.1 ?_).trans e, n, ne, nf, d⟩
      intro q
      rw [q, hoc] at e
      have q' : oc = p.2 := Option.some.inj e
      exact d w' (by rw [← q']; exact hocd)
theorem store_ok {M : Model} {A : Around} {E : Value → Shared → Prop} {i : Nat} {x : Str} {v : V} {u : Value} {Q : Unit → Shared → Prop} (I : Inv X pins σ H s) (hN : X.N.Nodup) (hi : X.N[i]? = some x) (hx : Loc X.env.scope x) (r : RelV v u)
    (h : ∀ s', Inv X pins (σ.set i (some v)) H s' → Q () s') (hf : X.fn x = true ∨ X.env.scope.names.lookup x = some .local := by first | exact .inl rfl | exact .inr rfl | assumption) : wpAny M A (storeName X.env x u) Q E s :=
  store_ok2 I hN hi hx r (fun s' I' _ => h s' I') hf
/-- behind a call or a block, the state as it is -/
theorem Inv.call' {s' : Shared} {ch : List Addr} (I : Inv X pins σ H s) (ho : s'.os = s.os) (u : Un (frs X.stack) ch H H' s.heap s'.heap) (hok : HOk X.prog X.w H' s'.heap) (hg : AllBare s'.gens)
    (hch : ∀ b ∈ ch, (b ∈ X.ex ∨ X.s₀.heap.objs.size ≤ b) ∧ b ≠ X.env.locals ∧ (∀ x c, X.env.cells.lookup x = some c → c ≠ b) ∧ ∀ p ∈ X.pn ++ pins, p.1 ≠ b) : Inv X pins σ H' s' := by
  obtain ⟨h', g', d', t', o'⟩ := s'
  have e : o' = s.os := ho
  subst e
  exact I.call (g' := g') (t' := t') (d' := d') u hok hg hch
end

/-! ### the judgements -/
/-- an exception: its class, its own dict's address (where it has one), the abstract heap behind it -/
abbrev XK := Value → Option Addr → Hp → Prop
abbrev St := List (Option V)
abbrev VK := V → Hp → Prop
/-- an expression's reading; a test's; an argument list's -/
abbrev TE := St → Hp → VK → Prop
abbrev TT := St → Hp → (Bool → Hp → Prop) → Prop
abbrev TA := St → Hp → (List V → Hp → Prop) → Prop
/-- what is wanted behind a statement -/
structure Ends where
  nx : St → Hp → Prop
  rt : VK
  bk : St → Hp → Prop := fun _ _ => False
  ct : St → Hp → Prop := fun _ _ => False
abbrev TS := Ends → St → Hp → Prop

def EP (X : Cx) (pins : List (Addr × Obj)) (σ : St) (Q : VK) (u : Value) (s' : Shared) : Prop := ∃ v H', Inv X pins σ H' s' ∧ RelV v u ∧ Q v H'
def TP (X : Cx) (pins : List (Addr × Obj)) (σ : St) (Q : Bool → Hp → Prop) (b : Bool) (s' : Shared) : Prop := ∃ H', Inv X pins σ H' s' ∧ Q b H'
def AP (X : Cx) (pins : List (Addr × Obj)) (σ : St) (Q : List V → Hp → Prop) (us : List Value) (s' : Shared) : Prop := ∃ vs H', Inv X pins σ H' s' ∧ Vals vs us ∧ Q vs H'
def SP (X : Cx) (pins : List (Addr × Obj)) (D : Ends) (f : Flow) (s' : Shared) : Prop :=
  match f with
  | .next => ∃ σ' H', Inv X pins σ' H' s' ∧ D.nx σ' H'
  | .brk => ∃ σ' H', Inv X pins σ' H' s' ∧ D.bk σ' H'
  | .cont => ∃ σ' H', Inv X pins σ' H' s' ∧ D.ct σ' H'
  | .ret u => ∃ v σ' H', Inv X pins σ' H' s' ∧ RelV v u ∧ D.rt v H'

def PE (X : Cx) (e : Expr) (t : TE) : Prop :=
  ∀ (pins : List (Addr × Obj)) (s : Shared) (σ : St) (H : Hp) (Q : VK), Inv X pins σ H s → t σ H Q → wpAny (model X.prog X.w) X.A (eval e X.env) (EP X pins σ Q) X.xe s
def PT (X : Cx) (e : Expr) (t : TT) : Prop :=
  ∀ (pins : List (Addr × Obj)) (s : Shared) (σ : St) (H : Hp) (Q : Bool → Hp → Prop), Inv X pins σ H s → t σ H Q → wpAny (model X.prog X.w) X.A (isTrue e X.env (eval e X.env)) (TP X pins σ Q) X.xe s
/-- a test whatever its 'whole' is (and, or) -/
def PW (X : Cx) (e : Expr) (t : TT) : Prop :=
  ∀ (whole : Sem Value) (pins : List (Addr × Obj)) (s : Shared) (σ : St) (H : Hp) (Q : Bool → Hp → Prop), Inv X pins σ H s → t σ H Q → wpAny (model X.prog X.w) X.A (isTrue e X.env whole) (TP X pins σ Q) X.xe s
theorem PW.pt {X : Cx} {e : Expr} {t : TT} (h : PW X e t) : PT X e t := h _
/-- an argument list (no star), from the left -/
def PA (X : Cx) (es : List Expr) (t : TA) : Prop :=
  ∀ (pos : Pos) (pins : List (Addr × Obj)) (s : Shared) (σ : St) (H : Hp) (Q : List V → Hp → Prop), Inv X pins σ H s → t σ H Q → wpAny (model X.prog X.w) X.A (spliced (backTo pos (starEach es X.env))) (AP X pins σ Q) X.xe s
def PS (X : Cx) (st : Stmt) (t : TS) : Prop :=
  ∀ (pins : List (Addr × Obj)) (s : Shared) (σ : St) (H : Hp) (D : Ends), Inv X pins σ H s → t D σ H → wpAny (model X.prog X.w) X.A (exec st X.env) (SP X pins D) X.xe s
def PSs (X : Cx) (st : List Stmt) (t : TS) : Prop :=
  ∀ (pins : List (Addr × Obj)) (s : Shared) (σ : St) (H : Hp) (D : Ends), Inv X pins σ H s → t D σ H → wpAny (model X.prog X.w) X.A (execs st X.env) (SP X pins D) X.xe s
/-- weaken the end -/
theorem thn {α : Type} {t : Sem α} {Q Q' : α → Shared → Prop} {M : Model} {A : Around} {E : Value → Shared → Prop} {s : Shared} (h : wpAny M A t Q E s) (hQ : ∀ a s, Q a s → Q' a s) : wpAny M A t Q' E s := wpAny_mono h hQ fun _ _ x => x
end L2

namespace L2
open PySem PySem.Spec PyProof.Rows
section
variable {X : Cx}

/-! ### names and constants -/
def tVar (i : Nat) : TE := fun σ H Q => ∃ v, σ[i]? = some (some v) ∧ Q v H
def tC (v : V) : TE := fun _ H Q => Q v H
theorem pe_var {i : Nat} {x : Str} {pos : Pos} (hN : X.N[i]? = some x) (hv : Vis X.env.scope x) (hd : (x == ("__debug__" : Str)) = false := by decide) (hcd : (x == ("__classdict__" : Str)) = false := by decide) : PE X (.Name x pos) (tVar i) := by
  intro pins s σ H Q I h
  obtain ⟨v, e, h⟩ := h
  obtain ⟨m, hn, hl⟩ := I.loc
  obtain ⟨u, r, l⟩ := hl i x v hN e hv
  have fin : EP X pins σ Q u s := ⟨v, H, I, r, h⟩
  rcases l with ⟨hk, hm⟩ | ⟨hk, c, hc, hcell⟩
  · exact wpAny_Name (wpAny_loadName_local I.ok.kind hk hn hm fin) hd
  · rcases hk with hk | hk
    · exact wpAny_Name (wpAny_loadName_cell I.ok.kind hk hc hcell fin) hd
    · exact wpAny_Name (wpAny_loadName_free I.ok.kind hk hc hcell fin hcd) hd
theorem pe_int {i j pos} : PE X (.Constant (.int i) j pos) (tC (.int i)) := fun _ _ _ H _ I h => wpAny_Constant_int ⟨.int i, H, I.tok _, ⟨_, rfl⟩, h⟩
theorem pe_bl {b j pos} : PE X (.Constant (.bool b) j pos) (tC (.bl b)) := fun _ _ _ H _ I h => Constant_bool ⟨.bl b, H, I, rfl, h⟩
theorem pe_non {j pos} : PE X (.Constant .none j pos) (tC .non) := fun _ _ _ H _ I h => Constant_none ⟨.non, H, I, rfl, h⟩
theorem pe_str {x j pos} : PE X (.Constant (.str x) j pos) (tC (.str x)) := fun _ _ _ H _ I h => Calls.Constant_str ⟨.str x, H, I.tok _, ⟨_, rfl⟩, h⟩

/-- a global name of the def -/
def Gl (X : Cx) (x : Str) : Prop := X.env.kindOf x = some .globalImplicit
theorem ld_glob {E : Value → Shared → Prop} {pins : List (Addr × Obj)} {s : Shared} {σ : St} {H : Hp} {x : Str} {u : Value} {pos : Pos} {Q : Value → Shared → Prop} (I : Inv X pins σ H s) (hg : Gl X x) (hm : X.mg x = some u) (h : Q u s)
    (hd : (x == ("__debug__" : Str)) = false := by decide) : wpAny (model X.prog X.w) X.A (eval (.Name x pos) X.env) Q E s :=
  Calls.Name_function_global I.ok.kind hg (Calls.loadGlobal_global (by rw [I.ok.glob]; exact I.mod.glob.keeps I.bk) hm h) hd
theorem ld_blt {E : Value → Shared → Prop} {pins : List (Addr × Obj)} {s : Shared} {σ : St} {H : Hp} {x : Str} {u : Value} {pos : Pos} {Q : Value → Shared → Prop} (I : Inv X pins σ H s) (hg : Gl X x) (hm : X.mg x = none) (hv : bootBuiltins x = some u) (h : Q u s)
    (hn : x ≠ "__name__" := by decide) (hd : (x == ("__debug__" : Str)) = false := by decide) : wpAny (model X.prog X.w) X.A (eval (.Name x pos) X.env) Q E s := by
  obtain ⟨mb, h1, h2⟩ := I.mod.blt
  exact Calls.Name_function_global I.ok.kind hg (Calls.loadGlobal_builtin (by rw [I.ok.glob]; exact I.mod.glob.keeps I.bk) hm (by rw [I.ok.blt]; exact h1.keeps I.bk) ((h2 x hn).trans hv) h) hd
/-- a module's constant, a class, a function, as a value -/
theorem pe_glob {x : Str} {v : V} {u : Value} {pos : Pos} (hg : Gl X x) (hm : X.mg x = some u) (r : RelV v u) (hd : (x == ("__debug__" : Str)) = false := by decide) : PE X (.Name x pos) (tC v) :=
  fun _ _ _ H _ I h => ld_glob I hg hm ⟨v, H, I, r, h⟩ hd
theorem pe_bltn {x : Str} {v : V} {u : Value} {pos : Pos} (hg : Gl X x) (hm : X.mg x = none) (hv : bootBuiltins x = some u) (r : RelV v u) (hn : x ≠ "__name__" := by decide) (hd : (x == ("__debug__" : Str)) = false := by decide) : PE X (.Name x pos) (tC v) :=
  fun _ _ _ H _ I h => ld_blt I hg hm hv ⟨v, H, I, r, h⟩ hn hd

variable {a b : Expr} {ta tb : TE} {pos : Pos}
/-! ### and, or, not -/
variable {tA tB' : TT} {rest : List Expr}
def tAnd (t u : TT) : TT := fun σ H Q => t σ H fun c H1 => if c = true then u σ H1 Q else Q false H1
def tOr (t u : TT) : TT := fun σ H Q => t σ H fun c H1 => if c = true then Q true H1 else u σ H1 Q
def tNot (t : TT) : TT := fun σ H Q => t σ H fun c H1 => Q (!c) H1
theorem pw_and1 (ha : PT X a tA) : PW X (.BoolOp .And [a] pos) tA := by
  intro wh pins s σ H Q I h
  refine isTrue_and (thn (ha pins s σ H Q I h) fun c s1 e => ?_)
  cases c with
  | true => exact isTrue_and_nil e
  | false => exact e
theorem pw_or1 (ha : PT X a tA) : PW X (.BoolOp .Or [a] pos) tA := by
  intro wh pins s σ H Q I h
  refine isTrue_or (thn (ha pins s σ H Q I h) fun c s1 e => ?_)
  cases c with
  | false => exact isTrue_or_nil e
  | true => exact e
theorem pw_and (ha : PT X a tA) (hb : PW X (.BoolOp .And (b :: rest) pos) tB') : PW X (.BoolOp .And (a :: b :: rest) pos) (tAnd tA tB') := by
  intro wh pins s σ H Q I h
  refine isTrue_and (thn (ha pins s σ H _ I h) fun c s1 ⟨H1, I1, q1⟩ => ?_)
  cases c with
  | true => exact hb wh pins s1 σ H1 Q I1 q1
  | false => exact ⟨H1, I1, q1⟩
theorem pw_or (ha : PT X a tA) (hb : PW X (.BoolOp .Or (b :: rest) pos) tB') : PW X (.BoolOp .Or (a :: b :: rest) pos) (tOr tA tB') := by
  intro wh pins s σ H Q I h
  refine isTrue_or (thn (ha pins s σ H _ I h) fun c s1 ⟨H1, I1, q1⟩ => ?_)
  cases c with
  | true => exact ⟨H1, I1, q1⟩
  | false => exact hb wh pins s1 σ H1 Q I1 q1
theorem pt_not (ha : PT X a tA) : PT X (.UnaryOp .Not a pos) (tNot tA) := by
  intro pins s σ H Q I h
  exact isTrue_not (ha pins s σ H (fun c H1 => Q (!c) H1) I h)
/-- .. as values (bools) -/
def tAndV (ta tb : TE) : TE := fun σ H Q => ta σ H fun x H1 => ∃ c, x = .bl c ∧ if c = true then tb σ H1 Q else Q (.bl false) H1
def tOrV (ta tb : TE) : TE := fun σ H Q => ta σ H fun x H1 => ∃ c, x = .bl c ∧ if c = true then Q (.bl true) H1 else tb σ H1 Q
def tNotV (ta : TE) : TE := fun σ H Q => ta σ H fun x H1 => ∃ c, x = .bl c ∧ Q (.bl (!c)) H1
theorem pe_one {op} {t : TE} (h : PE X a t) : PE X (.BoolOp op [a] pos) t := fun pins s σ H Q I hw => BoolOp_one (h pins s σ H Q I hw)
theorem pe_and (ha : PE X a ta) (hb : PE X (.BoolOp .And (b :: rest) pos) tb) : PE X (.BoolOp .And (a :: b :: rest) pos) (tAndV ta tb) := by
  intro pins s σ H Q I h
  refine BoolOp_and (thn (ha pins s σ H _ I h) fun v s1 ⟨x, H1, I1, r1, q1⟩ => ?_)
  obtain ⟨c, rfl, q1⟩ := q1
  cases r1
  refine wpAny_truthy_bool ?_
  cases c with
  | true => exact hb pins s1 σ H1 Q I1 q1
  | false => exact ⟨.bl false, H1, I1, rfl, q1⟩
theorem pe_or (ha : PE X a ta) (hb : PE X (.BoolOp .Or (b :: rest) pos) tb) : PE X (.BoolOp .Or (a :: b :: rest) pos) (tOrV ta tb) := by
  intro pins s σ H Q I h
  refine BoolOp_or (thn (ha pins s σ H _ I h) fun v s1 ⟨x, H1, I1, r1, q1⟩ => ?_)
  obtain ⟨c, rfl, q1⟩ := q1
  cases r1
  refine wpAny_truthy_bool ?_
  cases c with
  | false => exact hb pins s1 σ H1 Q I1 q1
  | true => exact ⟨.bl true, H1, I1, rfl, q1⟩
theorem pe_not (ha : PE X a ta) : PE X (.UnaryOp .Not a pos) (tNotV ta) := by
  intro pins s σ H Q I h
  refine UnaryOp_ (thn (ha pins s σ H _ I h) fun v s1 ⟨x, H1, I1, r1, q1⟩ => ?_)
  obtain ⟨c, rfl, q1⟩ := q1
  cases r1
  exact not_of (wpAny_truthy_bool ⟨.bl (!c), H1, I1, rfl, q1⟩)
/-- a if t else b -/
def tIf (t : TT) (ta tb : TE) : TE := fun σ H Q => t σ H fun c H1 => if c = true then ta σ H1 Q else tb σ H1 Q
theorem pe_ifExp {c : Expr} (hc : PT X c tA) (ha : PE X a ta) (hb : PE X b tb) : PE X (.IfExp c a b pos) (tIf tA ta tb) := by
  intro pins s σ H Q I h
  refine wpAny_IfExp (thn (hc pins s σ H _ I h) fun d s1 ⟨H1, I1, q1⟩ => ?_)
  cases d with
  | true => exact ha pins s1 σ H1 Q I1 q1
  | false => exact hb pins s1 σ H1 Q I1 q1
end
end L2

namespace L2
open PySem PySem.Spec PyProof.Rows

/-! ### a list, a tuple that is read: tracked, frozen, or an object of the module -/
def SqL (K : PySem.W.Frag) (H : Hp) (a : Addr) (xs : List V) : Prop :=
  Rd H a (.lst xs) ∨
    ∃ (o : Obj) (its : Array Value) (n : Nat), K.lookup a = some o ∧ o.cls = .type "list" ∧ o.dict = none ∧ o.data = .seq its n ∧ its.size ≤ sizeLine ∧ Vals xs its.toList
def SqT (K : PySem.W.Frag) (H : Hp) (a : Addr) (xs : List V) : Prop :=
  Rd H a (.tup xs) ∨
    ∃ (o : Obj) (its : Array Value) (n : Nat), K.lookup a = some o ∧ o.cls = .type "tuple" ∧ o.dict = none ∧ o.data = .seq its n ∧ its.size ≤ sizeLine ∧ Vals xs its.toList
def absV : Value → Option V
  | .none => some .non
  | .bool b => some (.bl b)
  | .int i _ => some (.int i)
  | .str x _ => some (.str x)
  | .bytes b _ => some (.byt b)
  | .float b _ => some (.flt b)
  | .ref a => some (.ref a)
  | .type n => some (.ty n)
  | _ => none
theorem RelV.abs {x : V} {u : Value} (r : RelV x u) : absV u = some x := by
  cases x with
  | non => cases r; rfl
  | bl _ => cases r; rfl
  | int _ => obtain ⟨t, rfl⟩ := r; rfl
  | str _ => obtain ⟨t, rfl⟩ := r; rfl
  | byt _ => obtain ⟨t, rfl⟩ := r; rfl
  | flt _ => obtain ⟨t, rfl⟩ := r; rfl
  | ref _ => cases r; rfl
  | ty _ => cases r; rfl
theorem RelV.inj {x y : V} {u : Value} (r : RelV x u) (q : RelV y u) : x = y := Option.some.inj (r.abs.symm.trans q.abs)
theorem Vals.inj : ∀ {xs ys : List V} {us : List Value}, Vals xs us → Vals ys us → xs = ys
  | _, _, _, .nil, .nil => rfl
  | _, _, _, .cons r t, .cons r' t' => by rw [r.inj r', Vals.inj t t']
section
variable {X : Cx} {pins : List (Addr × Obj)} {σ : St} {H : Hp} {s : Shared} {a : Addr} {xs ys : List V}
theorem SqL.of {K : PySem.W.Frag} (h : H a = some (.lst xs)) : SqL K H a xs := .inl (.inl h)
theorem SqT.of {K : PySem.W.Frag} (h : H a = some (.tup xs)) : SqT K H a xs := .inl (.inl h)
theorem Inv.list (I : Inv X pins σ H s) (h : SqL X.K H a xs) : ∃ its : List Value, Vals xs its ∧ PlainL s.heap a its.toArray ∧ xs.length ≤ sizeLine := by
  rcases h with h | ⟨o, its, n, hk, hc, hd, hs, hz, r⟩
  · obtain ⟨z, its, n, r, e⟩ := h.ok I.hok
    exact ⟨its, r, ⟨_, n, e, rfl, rfl, rfl⟩, z⟩
  · refine ⟨its.toList, r, ⟨o, n, I.kIn a o hk, hc, hd, by simpa using hs⟩, ?_⟩
    have e := r.length
    simp only [Array.length_toList] at e
    omega
theorem Inv.tuple (I : Inv X pins σ H s) (h : SqT X.K H a xs) : ∃ its : List Value, Vals xs its ∧ IsTup s.heap a its.toArray ∧ xs.length ≤ sizeLine := by
  rcases h with h | ⟨o, its, n, hk, hc, _, hs, hz, r⟩
  · obtain ⟨z, its, r, p⟩ := h.ok I.hok
    exact ⟨its, r, p.tup, z⟩
  · refine ⟨its.toList, r, ⟨o, I.kIn a o hk, hc, n, by simpa using hs⟩, ?_⟩
    have e := r.length
    simp only [Array.length_toList] at e
    omega
theorem Inv.tupleD (I : Inv X pins σ H s) (h : SqT X.K H a xs) : ∃ o, s.heap.get? a = some o ∧ o.cls = .type "tuple" ∧ o.dict = none := by
  rcases h with h | ⟨o, its, n, hk, hc, hd, _⟩
  · obtain ⟨_, _, _, o, e, c, _, d⟩ := h.ok I.hok
    exact ⟨o, e, c, d⟩
  · exact ⟨o, I.kIn a o hk, hc, hd⟩
theorem Inv.list_inj (I : Inv X pins σ H s) (h : SqL X.K H a xs) (h' : SqL X.K H a ys) : xs = ys := by
  obtain ⟨its, r, ⟨o, n, e, _, _, d⟩, _⟩ := I.list h
  obtain ⟨its', r', ⟨o', n', e', _, _, d'⟩, _⟩ := I.list h'
  rw [e] at e'; cases e'
  rw [d] at d'
  injection d' with d1 _
  have : its = its' := by simpa using congrArg Array.toList d1
  subst this
  exact r.inj r'
theorem Inv.tuple_inj (I : Inv X pins σ H s) (h : SqT X.K H a xs) (h' : SqT X.K H a ys) : xs = ys := by
  obtain ⟨its, r, ⟨o, e, _, n, d⟩, _⟩ := I.tuple h
  obtain ⟨its', r', ⟨o', e', _, n', d'⟩, _⟩ := I.tuple h'
  rw [e] at e'; cases e'
  rw [d] at d'
  injection d' with d1 _
  have : its = its' := by simpa using congrArg Array.toList d1
  subst this
  exact r.inj r'
end

/-! ### another wish about exceptions -/
abbrev Cx.wish (X : Cx) (E : Value → Shared → Prop) : Cx := { X with xe := E }
/-- no exception leaves -/
abbrev Cx.nox (X : Cx) : Cx := X.wish fun _ _ => False
theorem Cx.Ok.wish {X : Cx} (ok : X.Ok) (E : Value → Shared → Prop) : (X.wish E).Ok :=
  ⟨ok.mod, ok.kind, ok.glob, ok.blt, ok.above, ok.inj, ok.has, ok.cab, ok.hd, ok.frames, ok.stk, ok.exf, ok.bs, ok.bsz, ok.noex, ok.exfs, ok.funs, ok.frf⟩
theorem Cx.Ok.unwish {X : Cx} {E : Value → Shared → Prop} (ok : (X.wish E).Ok) : X.Ok :=
  ⟨ok.mod, ok.kind, ok.glob, ok.blt, ok.above, ok.inj, ok.has, ok.cab, ok.hd, ok.frames, ok.stk, ok.exf, ok.bs, ok.bsz, ok.noex, ok.exfs, ok.funs, ok.frf⟩
section
variable {X : Cx} {pins : List (Addr × Obj)} {σ : St} {H : Hp} {s : Shared} {E : Value → Shared → Prop}
theorem Inv.wish (I : Inv X pins σ H s) (E : Value → Shared → Prop) : Inv (X.wish E) pins σ H s := ⟨I.ok.wish E, I.os, I.bare, I.base, I.loc, I.cell, I.free, I.freeC, I.pin, I.hok, I.len⟩
theorem Inv.unwish (I : Inv (X.wish E) pins σ H s) : Inv X pins σ H s := ⟨I.ok.unwish, I.os, I.bare, I.base, I.loc, I.cell, I.free, I.freeC, I.pin, I.hok, I.len⟩
theorem SP.unwish {D : Ends} {f : Flow} {s' : Shared} (h : SP (X.wish E) pins D f s') : SP X pins D f s' := by
  cases f with
  | next => obtain ⟨σ', H', I, q⟩ := h; exact ⟨σ', H', I.unwish, q⟩
  | brk => obtain ⟨σ', H', I, q⟩ := h; exact ⟨σ', H', I.unwish, q⟩
  | cont => obtain ⟨σ', H', I, q⟩ := h; exact ⟨σ', H', I.unwish, q⟩
  | ret u => obtain ⟨v, σ', H', I, r, q⟩ := h; exact ⟨v, σ', H', I.unwish, r, q⟩
theorem PE.nox {e : Expr} {t : TE} (h : PE X.nox e t) : PE X e t := fun pins s σ H Q I hw =>
  wpAny_mono (h pins s σ H Q (I.wish _) hw) (fun _ _ ⟨v, H', I', r, q⟩ => ⟨v, H', I'.unwish, r, q⟩) fun _ _ z => False.elim z
theorem PT.nox {e : Expr} {t : TT} (h : PT X.nox e t) : PT X e t := fun pins s σ H Q I hw =>
  wpAny_mono (h pins s σ H Q (I.wish _) hw) (fun _ _ ⟨H', I', q⟩ => ⟨H', I'.unwish, q⟩) fun _ _ z => False.elim z
theorem PSs.nox {st : List Stmt} {t : TS} (h : PSs X.nox st t) : PSs X st t := fun pins s σ H D I hw =>
  wpAny_mono (h pins s σ H D (I.wish _) hw) (fun _ _ q => q.unwish) fun _ _ z => False.elim z
end

/-! ### blocks and small statements -/
section
variable {X : Cx} {st : Stmt} {rest : List Stmt} {t u : TS} {e : Expr} {te : TE} {pos : Pos}
def tNext : TS := fun D σ H => D.nx σ H
def tSeq (t u : TS) : TS := fun D σ H => t { D with nx := u D } σ H
theorem pss_nil : PSs X [] tNext := fun _ _ σ H _ I h => wpAny_execs_nil ⟨σ, H, I, h⟩
theorem pss_cons (h1 : PS X st t) (h2 : PSs X rest u) : PSs X (st :: rest) (tSeq t u) := by
  intro pins s σ H D I h
  refine wpAny_execs_cons (thn (h1 pins s σ H { D with nx := u D } I h) fun f s1 q => ?_)
  cases f with
  | next =>
    obtain ⟨σ', H', I', q⟩ := q
    exact h2 pins s1 σ' H' D I' q
  | ret v => exact q
  | brk => exact q
  | cont => exact q
def tBreak : TS := fun D σ H => D.bk σ H
def tCont : TS := fun D σ H => D.ct σ H
theorem ps_pass : PS X (.Pass pos) tNext := fun _ _ σ H _ I h => wpAny_Pass ⟨σ, H, I, h⟩
theorem ps_break : PS X (.Break pos) tBreak := fun _ _ σ H _ I h => wpAny_Break ⟨σ, H, I, h⟩
theorem ps_continue : PS X (.Continue pos) tCont := fun _ _ σ H _ I h => wpAny_Continue ⟨σ, H, I, h⟩
/-- in a def's body nothing is shown -/
theorem Inv.quiet {pins : List (Addr × Obj)} {σ : St} {H : Hp} {s : Shared} (I : Inv X pins σ H s) : interactive X.env = false := by simp [interactive, I.ok.kind]
/-- a docstring -/
theorem ps_doc {x j pos pos'} : PS X (.Expr (.Constant (.str x) j pos) pos') tNext := fun _ s σ H _ I h => wpAny_Expr (Calls.Constant_str (show SP X _ _ .next { s with toks := s.toks + 1 } from ⟨σ, H, I.tok _, h⟩)) I.quiet
/-- an expression whose value is dropped -/
def tDrop (te : TE) : TS := fun D σ H => te σ H fun _ H1 => D.nx σ H1
theorem ps_expr (he : PE X e te) (hs : swapsWith e none pos.line X.env = pure false := by rfl) : PS X (.Expr e pos) (tDrop te) := by
  intro pins s σ H D I h
  exact wpAny_Expr_any (thn (he pins s σ H _ I h) fun v s1 ⟨x, H1, I1, r1, q1⟩ => ⟨σ, H1, I1, q1⟩) I.quiet hs
def tRet (te : TE) : TS := fun D σ H => te σ H D.rt
theorem ps_ret (he : PE X e te) : PS X (.Return (some e) pos) (tRet te) := by
  intro pins s σ H D I h
  exact wpAny_Return_some (thn (he pins s σ H _ I h) fun v s1 ⟨x, H1, I1, r1, q1⟩ => ⟨x, σ, H1, I1, r1, q1⟩)
def tIfS (c : TT) (t u : TS) : TS := fun D σ H => c σ H fun b H1 => if b = true then t D σ H1 else u D σ H1
theorem ps_if {c : Expr} {a b : List Stmt} {tc : TT} (hc : PT X c tc) (ha : PSs X a t) (hb : PSs X b u) : PS X (.If c a b pos) (tIfS tc t u) := by
  intro pins s σ H D I h
  refine wpAny_If (thn (hc pins s σ H _ I h) fun d s1 ⟨H1, I1, q1⟩ => ?_)
  cases d with
  | true => exact ha pins s1 σ H1 D I1 q1
  | false => exact hb pins s1 σ H1 D I1 q1
/-- code that the proof never comes to -/
def tNever : TS := fun _ _ _ => False
theorem ps_never : PS X st tNever := fun _ _ _ _ _ _ h => h.elim
theorem pss_never {sts : List Stmt} : PSs X sts tNever := fun _ _ _ _ _ _ h => h.elim
end

/-! ### targets -/
abbrev TG := V → St → Hp → (St → Hp → Prop) → Prop
abbrev TGs := List V → St → Hp → (St → Hp → Prop) → Prop
def PG (X : Cx) (target : Expr) (t : TG) : Prop :=
  ∀ (pins : List (Addr × Obj)) (s : Shared) (σ : St) (H : Hp) (v : V) (u : Value) (Q : St → Hp → Prop), Inv X pins σ H s → RelV v u → t v σ H Q →
    wpAny (model X.prog X.w) X.A (assign target X.env u) (fun _ s' => ∃ σ' H', Inv X pins σ' H' s' ∧ Q σ' H') X.xe s
/-- several targets, one after another -/
def PGs (X : Cx) (ts : List Expr) (t : TGs) : Prop :=
  ∀ (pins : List (Addr × Obj)) (s : Shared) (σ : St) (H : Hp) (vs : List V) (us : List Value) (Q : St → Hp → Prop), Inv X pins σ H s → Vals vs us → t vs σ H Q →
    wpAny (model X.prog X.w) X.A (assignInOrder ((assignEach ts X.env).map (·.2)) us) (fun _ s' => ∃ σ' H', Inv X pins σ' H' s' ∧ Q σ' H') X.xe s
/-- o[i] = v, by values -/
abbrev TSet := V → V → V → Hp → (Hp → Prop) → Prop
section
variable {X : Cx} {pos : Pos}
def gName (i : Nat) : TG := fun v σ H Q => Q (σ.set i (some v)) H
theorem pg_name {i : Nat} {x : Str} (hN : X.N.Nodup) (hi : X.N[i]? = some x) (hx : Loc X.env.scope x) (hf : X.fn x = true ∨ X.env.scope.names.lookup x = some .local := by first | exact .inl rfl | exact .inr rfl | assumption) : PG X (.Name x pos) (gName i) := by
  intro pins s σ H v u Q I r h
  exact wpAny_assign_Name (store_ok I hN hi hx r (fun s' I' => ⟨_, H, I', h⟩) hf)
def gNil : TGs := fun vs σ H Q => vs = [] ∧ Q σ H
def gCons (t : TG) (u : TGs) : TGs := fun vs σ H Q => ∃ v r, vs = v :: r ∧ t v σ H fun σ' H' => u r σ' H' Q
theorem pgs_nil : PGs X [] gNil := by
  intro pins s σ H vs us Q I r h
  obtain ⟨e, h⟩ := h
  subst e
  cases r
  exact assignInOrder_nil ⟨σ, H, I, h⟩
theorem pgs_cons {e : Expr} {es : List Expr} {t : TG} {u : TGs} (h1 : PG X e t) (h2 : PGs X es u)
    (hs : (assignEach (e :: es) X.env).map (·.2) = assign e X.env :: (assignEach es X.env).map (·.2) := by rfl) : PGs X (e :: es) (gCons t u) := by
  intro pins s σ H vs us Q I r h
  obtain ⟨v, vr, e1, h⟩ := h
  subst e1
  cases r with
  | cons r rr =>
    rw [hs]
    refine assignInOrder_cons (thn (h1 pins s σ H _ _ _ I r h) fun _ s1 ⟨σ1, H1, I1, q1⟩ => ?_)
    exact h2 pins s1 σ1 H1 _ _ Q I1 rr q1
/-- (a, b, ..) = a tuple of that length -/
def gTup (K : PySem.W.Frag) (n : Nat) (t : TGs) : TG := fun v σ H Q => ∃ a xs, v = .ref a ∧ SqT K H a xs ∧ xs.length = n ∧ t xs σ H Q
theorem pg_tup {es : List Expr} {k : Nat} {t : TGs} {n : Nat} (hc : X.calm = true) (h : PGs X es t)
    (hn : (assignEach es X.env).length = n := by rfl) (hst : (assignEach es X.env).findIdx? (·.1) = none := by rfl) : PG X (.Tuple es k pos) (gTup X.K n t) := by
  intro pins s σ H v u Q I r hw
  obtain ⟨a, xs, e1, hq, hl, hw⟩ := hw
  subst e1
  cases r
  obtain ⟨its, rv, ht, hz⟩ := I.tuple hq
  refine assign_Tuple_tuple (I.ok.hd hc) ht (by simp [hn, ← hl, rv.length]) hst fun h' hx => ?_
  have I1 : Inv X pins σ H { s with heap := h' } := I.kept (t' := s.toks) fun b o e => hx b o (Nat.ne_of_lt (Heap.lt_size e)) e
  exact h pins _ σ H xs _ Q I1 (by simpa using rv) hw
/-- o[i] = .. -/
def gSub (to ti : TE) (t : TSet) : TG := fun v σ H Q => to σ H fun o H1 => ti σ H1 fun i H2 => t o i v H2 fun H3 => Q σ H3
/-- target = value -/
def tAsg (te : TE) (g : TG) : TS := fun D σ H => te σ H fun x H1 => g x σ H1 D.nx
/-- name = value -/
theorem ps_set {i : Nat} {x : Str} {e : Expr} {te : TE} {pos' : Pos} (hN : X.N.Nodup) (hi : X.N[i]? = some x) (hx : Loc X.env.scope x) (he : PE X e te) (hs : swapsWith e (some (.Name x pos')) pos.line X.env = pure false := by rfl) (hf : X.fn x = true ∨ X.env.scope.names.lookup x = some .local := by first | exact .inl rfl | exact .inr rfl | assumption) :
    PS X (.Assign [.Name x pos'] e pos) (tAsg te (gName i)) := by
  intro pins s σ H D I h
  refine wpAny_Assign_Name (thn (he pins s σ H _ I h) fun v s1 ⟨y, H1, I1, r1, q1⟩ => ?_) hs
  exact store_ok I1 hN hi hx r1 (fun s2 I2 => ⟨_, H1, I2, q1⟩) hf
end

/-! ### while -/
section
variable {X : Cx} {pos : Pos}
end

/-! ### what a loop or a comprehension walks -/
/-- at turn i: it yields x (the heap may grow), or it stops -/
structure It where
  go : Nat → Hp → Prop
  yld : Nat → Hp → V → Hp → Prop
  stop : Nat → Hp → Prop
/-- the iterator's own objects may turn: they are not the frame's, not pinned, younger than the entry (or a comprehension's own) -/
def FpOk (X : Cx) (pins : List (Addr × Obj)) (H : Hp) (b : Addr) : Prop :=
  H b = none ∧ b ≠ X.env.locals ∧ b ∉ X.fs ∧ (b ∈ X.ex ∨ X.s₀.heap.objs.size ≤ b) ∧ (∀ x c, X.env.cells.lookup x = some c → c ≠ b) ∧ ∀ p ∈ X.pn ++ pins, p.1 ≠ b
theorem Inv.fpOk {X : Cx} {pins : List (Addr × Obj)} {σ : St} {H H' : Hp} {s : Shared} {b : Addr} (I : Inv X pins σ H s) (hb : s.heap.objs.size ≤ b) (hn : H' b = none) : FpOk X pins H' b := by
  refine ⟨hn, Nat.ne_of_gt (Nat.lt_of_lt_of_le I.lt hb), I.nofs hb, .inr (Nat.le_trans I.sz hb), fun x c e z => ?_, fun p hp z => ?_⟩
  · obtain ⟨v, q⟩ := I.cell x c e
    exact absurd (Nat.lt_of_lt_of_le q.lt (by rw [z]; exact hb)) (Nat.lt_irrefl _)
  · exact absurd (Nat.lt_of_lt_of_le (Heap.lt_size (I.pin p hp).1) (by rw [z]; exact hb)) (Nat.lt_irrefl _)
structure Turn (P : Program) (w : World) (K : PySem.W.Frag) (tg : Expr) (J : It) (fp : List Addr) (it : Addr) (tn : Nat → Heap → Prop) : Prop where
  mem : it ∈ fp
  obj : ∀ i h, tn i h → ∀ b ∈ fp, ∃ o, h.get? b = some o ∧ ∀ v, o.data ≠ .cell v
  keep : ∀ i h h', tn i h → (∀ b ∈ fp, ∀ o, h.get? b = some o → h'.get? b = some o) → tn i h'
  item : ∀ (X : Cx), X.prog = P → X.w = w → X.K = K → X.calm = true → ∀ (i : Nat) (pins : List (Addr × Obj)) (s : Shared) (σ : St) (H : Hp) (E : Value → Shared → Prop), Inv X pins σ H s → (∀ b ∈ fp, FpOk X pins H b) → tn i s.heap → J.go i H →
    wpAny (model P w) X.A (pyNext (.ref it)) (fun r s1 => ∃ u, r = some u ∧
      wpAny (model P w) X.A (letOwnedTupleGo tg (.ref it) u) (fun _ s2 => ∃ x H', Inv X pins σ H' s2 ∧ RelV x u ∧ J.yld i H x H' ∧ tn (i + 1) s2.heap ∧ ∀ b ∈ fp, H' b = none) E s1) E s
  done : ∀ (X : Cx), X.prog = P → X.w = w → X.K = K → X.calm = true → ∀ (i : Nat) (pins : List (Addr × Obj)) (s : Shared) (σ : St) (H : Hp) (E : Value → Shared → Prop), Inv X pins σ H s → (∀ b ∈ fp, FpOk X pins H b) → tn i s.heap → J.stop i H →
    wpAny (model P w) X.A (pyNext (.ref it)) (fun r s1 => r = none ∧ Inv X pins σ H s1) E s
  self : ∀ (A : Around) (i : Nat) (s : Shared) (Q : Value → Shared → Prop) (E : Value → Shared → Prop), tn i s.heap → Q (.ref it) s → wpAny (model P w) A (pyIter (.ref it)) Q E s
abbrev TI := St → Hp → (It → Hp → Prop) → Prop
/-- an iterator has come -/
def PIE (X : Cx) (pins : List (Addr × Obj)) (σ : St) (tg : Expr) (R : It → Hp → Prop) (itv : Value) (s2 : Shared) : Prop :=
  ∃ (it : Addr) (fp : List Addr) (tn : Nat → Heap → Prop) (J : It) (H' : Hp), itv = .ref it ∧ Inv X pins σ H' s2 ∧ Turn X.prog X.w X.K tg J fp it tn ∧ tn 0 s2.heap ∧ (∀ b ∈ fp, FpOk X pins H' b) ∧ R J H'
def PI (X : Cx) (tg iter : Expr) (wi : TI) : Prop :=
  ∀ (pins : List (Addr × Obj)) (s : Shared) (σ : St) (H : Hp) (R : It → Hp → Prop), Inv X pins σ H s → wi σ H R →
    wpAny (model X.prog X.w) X.A (eval iter X.env) (fun v s1 => wpAny (model X.prog X.w) X.A (pyIter v) (PIE X pins σ tg R) X.xe s1) X.xe s

/-- the step ahead of the store is nothing for an iterator that keeps no tuple -/
theorem go_of {M : Model} {A : Around} {E : Value → Shared → Prop} {s : Shared} {tg : Expr} {it : Addr} {u : Value} {o : Obj} {n : String} {vs : Array Value} {Q : Unit → Shared → Prop} (ho : s.heap.get? it = some o) (hc : o.cls = .type n) (hd : o.data = .fields vs)
    (hn : ["enumerate", "zip", "dict_itemiterator", "dict_reverseitemiterator", "odict_iterator", "itertools.zip_longest", "itertools.pairwise"].contains n = false) (hQ : Q () s) : wpAny M A (letOwnedTupleGo tg (.ref it) u) Q E s := by
  unfold letOwnedTupleGo
  cases tg <;> first
    | exact wpAny_pure hQ
    | (cases u <;> first
        | exact wpAny_pure hQ
        | (refine wpAny_bind (wpAny_load ho ?_)
           rw [hc, hd]
           show wpAny M A (if (["enumerate", "zip", "dict_itemiterator", "dict_reverseitemiterator", "odict_iterator", "itertools.zip_longest", "itertools.pairwise"].contains n && vs[0]? == some (rawInt _)) = true then _ else _) Q E s
           rw [if_neg (by intro h; rw [hn, Bool.false_and] at h; cases h)]
           exact wpAny_pure hQ))

/-- the list at a, as it stands at each turn (a loop may append to it) -/
def Itl (K : PySem.W.Frag) (a : Addr) : It :=
  ⟨fun i H => ∃ xs x, SqL K H a xs ∧ xs[i]? = some x, fun i H x H' => H' = H ∧ ∀ xs, SqL K H a xs → xs[i]? = some x, fun i H => ∃ xs, SqL K H a xs ∧ xs.length ≤ i⟩
def Itt (K : PySem.W.Frag) (a : Addr) : It :=
  ⟨fun i H => ∃ xs x, SqT K H a xs ∧ xs[i]? = some x, fun i H x H' => H' = H ∧ ∀ xs, SqT K H a xs → xs[i]? = some x, fun i H => ∃ xs, SqT K H a xs ∧ xs.length ≤ i⟩
/-- lo, lo + 1, .. (n of them) -/
def Itr (lo : Int) (n : Nat) : It := ⟨fun i _ => i < n, fun i H x H' => H' = H ∧ x = .int (lo + i), fun i _ => n ≤ i⟩
theorem turn_list {P : Program} {w : World} {K : PySem.W.Frag} {tg : Expr} (a it : Addr) : Turn P w K tg (Itl K a) [it] it (fun i h => h.IsListIter it a i) where
  mem := by simp
  obj := fun i h st b hb => by
    have e : b = it := by simpa using hb
    subst e
    obtain ⟨o, e, c, d⟩ := st
    exact ⟨o, e, fun v z => by rw [d] at z; cases z⟩
  keep := fun i h h' st k => st.at fun o e => k it (by simp) o e
  item := by
    intro X hP hw hK hc i pins s σ H E I hf st hg
    subst hP hw hK
    obtain ⟨xs, x, hq, hx⟩ := hg
    obtain ⟨its, rv, p, hz⟩ := I.list hq
    obtain ⟨u, hu, ru⟩ := rv.get hx
    obtain ⟨f0, f1, f2, f3, f4, f5⟩ := hf it (by simp)
    refine wpAny_pyNext_list_item st p.isList (x := u) (by simpa using hu) fun h' st' sb => ?_
    have I1 : Inv X pins σ H { s with heap := h' } := I.turned (t' := s.toks) (fun b o hb e => (sb.2 b hb).trans e) f0 f1 f3 f4 f5
    obtain ⟨o, e, c, d⟩ := id st'
    exact ⟨u, rfl, go_of (s := { s with heap := h' }) e c d (by decide) ⟨x, H, I1, ru, ⟨rfl, fun ys hy => by rw [I.list_inj hy hq]; exact hx⟩, st', fun b hb => (hf b hb).1⟩⟩
  done := by
    intro X hP hw hK hc i pins s σ H E I hf st hg
    subst hP hw hK
    obtain ⟨xs, hq, hx⟩ := hg
    obtain ⟨its, rv, p, hz⟩ := I.list hq
    obtain ⟨f0, f1, f2, f3, f4, f5⟩ := hf it (by simp)
    have hl := rv.length
    exact wpAny_pyNext_list_end (I.ok.hd hc) st p.isList (by simp; omega) fun h' eb => ⟨rfl, I.turned (t' := s.toks) (fun b o hb e => eb b o hb e) f0 f1 f3 f4 f5⟩
  self := fun _ _ _ _ _ st h => wpAny_pyIter_listiter st h
theorem turn_tuple {P : Program} {w : World} {K : PySem.W.Frag} {tg : Expr} (a it : Addr) : Turn P w K tg (Itt K a) [it] it (fun i h => h.IsTupleIter it a i) where
  mem := by simp
  obj := fun i h st b hb => by
    have e : b = it := by simpa using hb
    subst e
    obtain ⟨o, e, c, d⟩ := st
    exact ⟨o, e, fun v z => by rw [d] at z; cases z⟩
  keep := fun i h h' st k => st.at fun o e => k it (by simp) o e
  item := by
    intro X hP hw hK hc i pins s σ H E I hf st hg
    subst hP hw hK
    obtain ⟨xs, x, hq, hx⟩ := hg
    obtain ⟨its, rv, p, hz⟩ := I.tuple hq
    obtain ⟨u, hu, ru⟩ := rv.get hx
    obtain ⟨f0, f1, f2, f3, f4, f5⟩ := hf it (by simp)
    refine wpAny_pyNext_tuple_item st (show s.heap.IsTuple a its.toArray from p) (x := u) (by simpa using hu) fun h' st' sb => ?_
    have I1 : Inv X pins σ H { s with heap := h' } := I.turned (t' := s.toks) (fun b o hb e => (sb.2 b hb).trans e) f0 f1 f3 f4 f5
    obtain ⟨o, e, c, d⟩ := id st'
    exact ⟨u, rfl, go_of (s := { s with heap := h' }) e c d (by decide) ⟨x, H, I1, ru, ⟨rfl, fun ys hy => by rw [I.tuple_inj hy hq]; exact hx⟩, st', fun b hb => (hf b hb).1⟩⟩
  done := by
    intro X hP hw hK hc i pins s σ H E I hf st hg
    subst hP hw hK
    obtain ⟨xs, hq, hx⟩ := hg
    obtain ⟨its, rv, p, hz⟩ := I.tuple hq
    obtain ⟨f0, f1, f2, f3, f4, f5⟩ := hf it (by simp)
    have hl := rv.length
    exact wpAny_pyNext_tuple_end (I.ok.hd hc) st (show s.heap.IsTuple a its.toArray from p) (by simp; omega) fun h' eb => ⟨rfl, I.turned (t' := s.toks) (fun b o hb e => eb b o hb e) f0 f1 f3 f4 f5⟩
  self := fun _ _ _ _ _ st h => wpAny_pyIter_tupleiter st h
theorem turn_range {P : Program} {w : World} {K : PySem.W.Frag} {tg : Expr} (it : Addr) (lo : Int) (n : Nat) : Turn P w K tg (Itr lo n) [it] it (fun i h => IsRangeIter h it (lo + (i : Nat) * 1) ((n : Int) - (i : Nat)) 1) where
  mem := by simp
  obj := fun i h st b hb => by
    have e : b = it := by simpa using hb
    subst e
    exact ⟨_, st, fun v z => by
      have z' : Data.fields _ = Data.cell v := z
      cases z'⟩
  keep := fun i h h' st k => k it (by simp) _ st
  item := by
    intro X hP hw hK hc i pins s σ H E I hf st hg
    subst hP hw hK
    obtain ⟨f0, f1, f2, f3, f4, f5⟩ := hf it (by simp)
    have W := Walks.range (prog := X.prog) (w := X.w) (I.ok.hd hc) it lo 1 n
    refine W.item i s _ _ hg st fun v h' tk hv st' kk => ?_
    obtain ⟨t, rfl⟩ := hv
    have I1 : Inv X pins σ H { s with heap := h', toks := tk } := I.turned (fun b o hb e => kk b o (by simpa using hb) e) f0 f1 f3 f4 f5
    refine ⟨_, rfl, go_of (s := { s with heap := h', toks := tk }) (n := "range_iterator") st' rfl rfl (by decide) ⟨.int (lo + i), H, I1, ⟨t, ?_⟩, ⟨rfl, rfl⟩, st', fun b hb => (hf b hb).1⟩⟩
    rw [Int.mul_one]
  done := by
    intro X hP hw hK hc i pins s σ H E I hf st hg
    subst hP hw hK
    obtain ⟨f0, f1, f2, f3, f4, f5⟩ := hf it (by simp)
    exact wpAny_pyNext_range_end (I.ok.hd hc) st (by have : n ≤ i := hg; omega) fun h' eb => ⟨rfl, I.turned (t' := s.toks) (fun b o hb e => eb b o hb e) f0 f1 f3 f4 f5⟩
  self := fun _ _ _ _ _ st h => wpAny_pyIter_rangeiter st h
end L2

namespace L2
open PySem PySem.Spec PyProof.Rows
section
variable {X : Cx} {tg : Expr}
/-- a range object just made, walked -/
theorem range_it {pins : List (Addr × Obj)} {σ : St} {H : Hp} {s : Shared} {R : It → Hp → Prop} {E : Value → Shared → Prop} {lo hi : Int} {t u v : Tok} {tk : Nat} (I : Inv X pins σ H s) (h1 : -(2 ^ 62) ≤ lo) (h2 : lo < 2 ^ 62) (h3 : -(2 ^ 62) ≤ hi) (h4 : hi < 2 ^ 62)
    (q : R (Itr lo (hi - lo).toNat) H) : wpAny (model X.prog X.w) X.A (pyIter (.ref s.heap.objs.size)) (PIE X pins σ tg R) E { s with heap := s.heap.push { cls := .type "range", data := .fields #[.int lo t, .int hi u, .int 1 v] }, toks := tk } := by
  refine wpAny_pyIter_range (IsRange.new ..) (small_one h1 h2 h3 h4) ?_
  have I1 : Inv X pins σ H { s with heap := s.heap.push { cls := .type "range", data := .fields #[.int lo t, .int hi u, .int 1 v] }, toks := tk } := I.kept fun b o e => Heap.get?_push_of_some _ e
  refine ⟨(s.heap.push { cls := .type "range", data := .fields #[.int lo t, .int hi u, .int 1 v] }).objs.size, [(s.heap.push { cls := .type "range", data := .fields #[.int lo t, .int hi u, .int 1 v] }).objs.size], _, _, H, rfl,
    I1.kept (t' := tk) fun b o e => Heap.get?_push_of_some _ e, turn_range _ lo (hi - lo).toNat, ?_, fun b hb => ?_, q⟩
  · have e1 : lo + ((0 : Nat) : Int) * 1 = lo := by simp
    have e2 : (((hi - lo).toNat : Nat) : Int) - ((0 : Nat) : Int) = Builtin.Range.rangeSize lo hi 1 := by rw [rangeSize_one]; split <;> omega
    show IsRangeIter _ _ (lo + ((0 : Nat) : Int) * 1) ((((hi - lo).toNat : Nat) : Int) - ((0 : Nat) : Int)) 1
    rw [e1, e2]
    exact Heap.get?_push_size _ rfl
  · have e : b = (s.heap.push { cls := .type "range", data := .fields #[.int lo t, .int hi u, .int 1 v] }).objs.size := by simpa using hb
    subst e
    exact I1.fpOk (Nat.le_refl _) (I1.hok.fresh (Nat.le_refl _))
def iRng1 (ta : TA) : TI := fun σ H R => ta σ H fun vs H1 => ∃ j : Int, vs = [.int j] ∧ -(2 ^ 62) ≤ j ∧ j < 2 ^ 62 ∧ R (Itr 0 j.toNat) H1
def iRng2 (ta : TA) : TI := fun σ H R => ta σ H fun vs H1 => ∃ i j : Int, vs = [.int i, .int j] ∧ (-(2 ^ 62) ≤ i ∧ i < 2 ^ 62 ∧ -(2 ^ 62) ≤ j ∧ j < 2 ^ 62) ∧ R (Itr i (j - i).toNat) H1
theorem pi_range1 {a : Expr} {ta : TA} {p pos : Pos} (hg : Gl X "range") (hm : X.mg "range" = none) (ha : PA X [a] ta) (hs : starEach [a] X.env = [(false, eval a X.env)] := by rfl) : PI X tg (.Call (.Name "range" p) [a] [] pos) (iRng1 ta) := by
  intro pins s σ H R I h
  refine Call_ (ld_blt I hg hm boot_range (PyProof.Rows.callWith_type1 (thn (ha pos pins s σ H _ I h) fun us s1 ⟨vs, H1, I1, r1, q1⟩ => ?_) hs rfl))
  obtain ⟨j, e, q1, q2, q⟩ := q1
  subst e
  cases r1 with
  | cons r rr =>
    cases rr
    obtain ⟨t, rfl⟩ := r
    exact call_range_1 (range_it I1 (by omega) (by omega) q1 q2 (by simpa using q))
theorem pi_range2 {a b : Expr} {ta : TA} {p pos : Pos} (hg : Gl X "range") (hm : X.mg "range" = none) (ha : PA X [a, b] ta) (hs : starEach [a, b] X.env = [(false, eval a X.env), (false, eval b X.env)] := by rfl) (hs2 : starEach [b] X.env = [(false, eval b X.env)] := by rfl) :
    PI X tg (.Call (.Name "range" p) [a, b] [] pos) (iRng2 ta) := by
  intro pins s σ H R I h
  refine Call_ (ld_blt I hg hm boot_range (PyProof.Rows.callWith_type1 (thn (ha pos pins s σ H _ I h) fun us s1 ⟨vs, H1, I1, r1, q1⟩ => ?_) (by rw [hs, hs2]) (by rw [hs2]; rfl)))
  obtain ⟨i, j, e, ⟨q1, q2, q3, q4⟩, q⟩ := q1
  subst e
  cases r1 with
  | cons r rr =>
    cases rr with
    | cons r' rr =>
      cases rr
      obtain ⟨t, rfl⟩ := r
      obtain ⟨t', rfl⟩ := r'
      exact call_range_2 (range_it I1 q1 q2 q3 q4 q)

/-! ### for -/
/-- W: the invariant by the turn and a measure; N: what the body is to reach -/
def tFor (wi : TI) (g : TG) (tb : TS) : TS := fun D σ H => wi σ H fun J H1 => ∃ W : Nat → Nat → St → Hp → Prop, (∃ m, W 0 m σ H1) ∧ ∀ i m σ H, W i m σ H →
  (J.stop i H ∧ D.nx σ H) ∨ (J.go i H ∧ ∃ N : St → Hp → Prop, (∀ σ' H', N σ' H' → ∃ m', m' < m ∧ W (i + 1) m' σ' H') ∧ ∀ x H', J.yld i H x H' → g x σ H' fun σ2 H2 => tb { D with nx := N, ct := N, bk := D.nx } σ2 H2)
/-- the records at fp as they stand -/
def pinsAt (fp : List Addr) (h : Heap) : List (Addr × Obj) := fp.filterMap fun b => (h.get? b).map fun o => (b, o)
theorem mem_pinsAt {fp : List Addr} {h : Heap} {b : Addr} {o : Obj} (hb : b ∈ fp) (e : h.get? b = some o) : (b, o) ∈ pinsAt fp h := List.mem_filterMap.mpr ⟨b, hb, by rw [e]; rfl⟩
theorem of_pinsAt {fp : List Addr} {h : Heap} {p : Addr × Obj} (hp : p ∈ pinsAt fp h) : p.1 ∈ fp ∧ h.get? p.1 = some p.2 := by
  obtain ⟨b, hb, e⟩ := List.mem_filterMap.mp hp
  cases q : h.get? b with
  | none => rw [q] at e; cases e
  | some o =>
    rw [q] at e
    have e' : (b, o) = p := Option.some.inj e
    subst e'
    exact ⟨hb, q⟩
theorem Inv.pinned {pins : List (Addr × Obj)} {σ : St} {H : Hp} {s : Shared} {fp : List Addr} (I : Inv X pins σ H s) (hf : ∀ b ∈ fp, FpOk X pins H b) (ho : ∀ b ∈ fp, ∃ o, s.heap.get? b = some o ∧ ∀ v, o.data ≠ .cell v) : Inv X (pins ++ pinsAt fp s.heap) σ H s :=
  I.pins_of fun p hp => (List.mem_append.mp hp).elim (fun z => I.pin p (List.mem_append_right _ z)) fun z => by
    obtain ⟨hb, e⟩ := of_pinsAt z
    obtain ⟨f0, f1, f2, _⟩ := hf p.1 hb
    obtain ⟨o, e', d⟩ := ho p.1 hb
    rw [e] at e'; cases e'
    exact ⟨e, f0, f1, f2, d⟩
theorem Inv.unpinned {pins pl : List (Addr × Obj)} {σ : St} {H : Hp} {s : Shared} (I : Inv X (pins ++ pl) σ H s) : Inv X pins σ H s := I.pins_of fun p hp => I.pin p (List.mem_append_right _ (List.mem_append_left _ hp))
theorem ps_for {iter : Expr} {body : List Stmt} {wi : TI} {g : TG} {tb : TS} {pos : Pos} (hp : PassesOwn (model X.prog X.w) X.A X.env X.xe) (hc : X.calm = true) (hi : PI X tg iter wi) (hg : PG X tg g) (hb : PSs X body tb)
    (hs : ∀ x, foldedSetIterable iter X.env x = pure x := by intro _; rfl) : PS X (.For tg iter body [] pos) (tFor wi g tb) := by
  intro pins s σ H D I h
  refine wpAny_For (thn (hi pins s σ H _ I h) fun v s1 h1 => thn h1 fun itv s2 h2 => ?_) hs
  obtain ⟨it, fp, tn, J, H2, e, I2, T, st2, f2, W, ⟨m0, w0⟩, turn⟩ := h2
  subst e
  -- what stays true of the iterator's objects through the loop
  have stat : ∀ {H' : Hp}, (∀ b ∈ fp, H' b = none) → ∀ b ∈ fp, FpOk X pins H' b := fun hn b hb => ⟨hn b hb, (f2 b hb).2⟩
  refine codeAny_forLoop_any (fun n s' => ∃ i σ' H', Inv X pins σ' H' s' ∧ tn i s'.heap ∧ (∀ b ∈ fp, H' b = none) ∧ W i n σ' H') ?_ m0 ⟨0, σ, H2, I2, st2, fun b hb => (f2 b hb).1, w0⟩
  rintro n s3 ⟨i, σ3, H3, I3, st3, fr3, w3⟩
  rcases turn i n σ3 H3 w3 with ⟨stop, qn⟩ | ⟨go, N, hN, step⟩
  · refine wpAny_passesOwn hp (thn (T.done X rfl rfl rfl hc i pins s3 σ3 H3 X.xe I3 (stat fr3) st3 stop) fun r s4 ⟨hr, I4⟩ => ?_)
    subst hr
    exact wpAny_execs_nil ⟨σ3, H3, I4, qn⟩
  · refine wpAny_passesOwn hp (thn (T.item X rfl rfl rfl hc i pins s3 σ3 H3 X.xe I3 (stat fr3) st3 go) fun r s4 ⟨u, hr, h4⟩ => ?_)
    subst hr
    refine wpAny_passesOwn hp (thn h4 fun _ s5 ⟨x, H5, I5, r5, y5, st5, fr5⟩ => ?_)
    have I5' := I5.pinned (stat fr5) (T.obj _ _ st5)
    refine wpAny_passesOwn hp (thn (hg _ s5 σ3 H5 x u _ I5' r5 (step x H5 y5)) fun _ s6 ⟨σ6, H6, I6, q6⟩ => ?_)
    refine wpAny_passesOwn hp (thn (hb _ s6 σ6 H6 _ I6 q6) fun f s7 q7 => ?_)
    have again : ∀ {σ7 : St} {H7 : Hp}, Inv X (pins ++ pinsAt fp s5.heap) σ7 H7 s7 → N σ7 H7 → ∃ m, m < n ∧ ∃ i σ' H', Inv X pins σ' H' s7 ∧ tn i s7.heap ∧ (∀ b ∈ fp, H' b = none) ∧ W i m σ' H' := fun {σ7 H7} I7 n7 => by
      obtain ⟨m', hm, w7⟩ := hN σ7 H7 n7
      refine ⟨m', hm, i + 1, σ7, H7, I7.unpinned, T.keep _ _ _ st5 fun b hb o e => (I7.pin (b, o) (List.mem_append_right _ (List.mem_append_right _ (mem_pinsAt hb e)))).1, fun b hb => ?_, w7⟩
      obtain ⟨o, e, d⟩ := T.obj _ _ st5 b hb
      exact (I7.pin (b, o) (List.mem_append_right _ (List.mem_append_right _ (mem_pinsAt hb e)))).2.1
    cases f with
    | next => obtain ⟨σ7, H7, I7, n7⟩ := q7; exact again I7 n7
    | cont => obtain ⟨σ7, H7, I7, n7⟩ := q7; exact again I7 n7
    | brk => obtain ⟨σ7, H7, I7, q7⟩ := q7; exact ⟨σ7, H7, I7.unpinned, q7⟩
    | ret v => obtain ⟨x7, σ7, H7, I7, r7, q7⟩ := q7; exact ⟨x7, σ7, H7, I7.unpinned, r7, q7⟩
end

end L2

namespace L2
open PySem PySem.Spec PyProof.Rows

abbrev R2 := V → V → Hp → VK → Prop
/-- a two-place operation on values: f is binaryOp op, inplaceOp op or compareOp op -/
def OpR (X : Cx) (f : Value → Value → Sem Value) (r : R2) : Prop :=
  ∀ (pins : List (Addr × Obj)) (s : Shared) (σ : St) (H : Hp) (x y : V) (v u : Value) (Q : VK), Inv X pins σ H s → RelV x v → RelV y u → r x y H Q →
    wpAny (model X.prog X.w) X.A (f v u) (EP X pins σ Q) X.xe s
/-- a call of a value that is known (a builtin, a type) with values -/
def CallR (X : Cx) (f : Value) (r : List V → Hp → VK → Prop) : Prop :=
  ∀ (pins : List (Addr × Obj)) (s : Shared) (σ : St) (H : Hp) (xs : List V) (us : List Value) (Q : VK), Inv X pins σ H s → Vals xs us → r xs H Q →
    wpAny (model X.prog X.w) X.A (call f us) (EP X pins σ Q) X.xe s
/-- a value's truth -/
def TruR (X : Cx) (r : V → Hp → (Bool → Hp → Prop) → Prop) : Prop :=
  ∀ (pins : List (Addr × Obj)) (s : Shared) (σ : St) (H : Hp) (x : V) (v : Value) (Q : Bool → Hp → Prop), Inv X pins σ H s → RelV x v → r x H Q →
    wpAny (model X.prog X.w) X.A (truthy v) (TP X pins σ Q) X.xe s

def tOp (r : R2) (ta tb : TE) : TE := fun σ H Q => ta σ H fun x H1 => tb σ H1 fun y H2 => r x y H2 Q
/-- ints in, under C, and a value out -/
def rI (C : Int → Int → Prop) (g : Int → Int → V) : R2 := fun x y H Q => ∃ i j, x = .int i ∧ y = .int j ∧ C i j ∧ Q (g i j) H
def rI0 (g : Int → Int → V) : R2 := fun x y H Q => ∃ i j, x = .int i ∧ y = .int j ∧ Q (g i j) H
section
variable {X : Cx} {a b c : Expr} {ta tb tc : TE} {pos : Pos}

theorem binT (ha : PE X a ta) (hb : PE X b tb) {pins : List (Addr × Obj)} {s : Shared} {σ : St} {H : Hp} {R : V → V → Hp → Prop} (I : Inv X pins σ H s)
    (h : ta σ H fun x H1 => tb σ H1 fun y H2 => R x y H2) {Q : Value → Shared → Prop} {f : Value → Value → Sem Value}
    (hf : ∀ v u s2 x y H2, Inv X pins σ H2 s2 → RelV x v → RelV y u → R x y H2 → wpAny (model X.prog X.w) X.A (f v u) Q X.xe s2) :
    wpAny (model X.prog X.w) X.A (eval a X.env) (fun v s₁ => wpAny (model X.prog X.w) X.A (eval b X.env) (fun u s₂ => wpAny (model X.prog X.w) X.A (f v u) Q X.xe s₂) X.xe s₁) X.xe s := by
  refine thn (ha pins s σ H _ I h) fun v s1 ⟨x, H1, I1, r1, q1⟩ => ?_
  refine thn (hb pins s1 σ H1 _ I1 q1) fun u s2 ⟨y, H2, I2, r2, q2⟩ => ?_
  exact hf v u s2 x y H2 I2 r1 r2 q2

theorem pe_op {op : Operator} {r : R2} (ho : OpR X (binaryOp op) r) (ha : PE X a ta) (hb : PE X b tb) : PE X (.BinOp a op b pos) (tOp r ta tb) := by
  intro pins s σ H Q I h
  exact wpAny_BinOp (binT ha hb I h fun v u s2 x y H2 I2 rx ry q => ho pins s2 σ H2 x y v u Q I2 rx ry q)
/-! ### ints -/
theorem opI {f : Value → Value → Sem Value} {C : Int → Int → Prop} {g : Int → Int → Int}
    (rule : ∀ (i j : Int) (t u : Tok) (s : Shared) (Q : Value → Shared → Prop) (E : Value → Shared → Prop), C i j → Q (.int (g i j) s.toks) { s with toks := s.toks + 1 } → wpAny (model X.prog X.w) X.A (f (.int i t) (.int j u)) Q E s) :
    OpR X f (rI C fun i j => .int (g i j)) := by
  intro pins s σ H x y v u Q I rx ry h
  obtain ⟨i, j, rfl, rfl, hc, q⟩ := h
  obtain ⟨t, rfl⟩ := rx
  obtain ⟨t', rfl⟩ := ry
  exact rule i j t t' s _ _ hc ⟨.int (g i j), H, I.tok _, ⟨_, rfl⟩, q⟩
theorem opI0 {f : Value → Value → Sem Value} {g : Int → Int → Int}
    (rule : ∀ (i j : Int) (t u : Tok) (s : Shared) (Q : Value → Shared → Prop) (E : Value → Shared → Prop), Q (.int (g i j) s.toks) { s with toks := s.toks + 1 } → wpAny (model X.prog X.w) X.A (f (.int i t) (.int j u)) Q E s) :
    OpR X f (rI0 fun i j => .int (g i j)) := by
  intro pins s σ H x y v u Q I rx ry h
  obtain ⟨i, j, rfl, rfl, q⟩ := h
  obtain ⟨t, rfl⟩ := rx
  obtain ⟨t', rfl⟩ := ry
  exact rule i j t t' s _ _ ⟨.int (g i j), H, I.tok _, ⟨_, rfl⟩, q⟩
theorem opB0 {f : Value → Value → Sem Value} {g : Int → Int → Bool}
    (rule : ∀ (i j : Int) (t u : Tok) (s : Shared) (Q : Value → Shared → Prop) (E : Value → Shared → Prop), Q (.bool (g i j)) s → wpAny (model X.prog X.w) X.A (f (.int i t) (.int j u)) Q E s) :
    OpR X f (rI0 fun i j => .bl (g i j)) := by
  intro pins s σ H x y v u Q I rx ry h
  obtain ⟨i, j, rfl, rfl, q⟩ := h
  obtain ⟨t, rfl⟩ := rx
  obtain ⟨t', rfl⟩ := ry
  exact rule i j t t' s _ _ ⟨.bl (g i j), H, I, rfl, q⟩

def CDiv (i j : Int) : Prop := 0 < j ∧ j < 1073741824
def CPow (i j : Int) : Prop := 0 ≤ j ∧ j ≤ 1000000 ∧ i.natAbs < 2 ^ 64
def CMul (i j : Int) : Prop := (-(2 ^ 64) < i ∧ i < 2 ^ 64) ∨ (-(2 ^ 64) < j ∧ j < 2 ^ 64)
theorem CMul.ok {i j : Int} (h : CMul i j) : IntMulOk i j := by
  rcases h with ⟨h1, h2⟩ | ⟨h1, h2⟩
  · exact .of_left (intBits_le_64 h1 h2)
  · exact .of_right (intBits_le_64 h1 h2)
theorem op_add : OpR X (binaryOp .Add) (rI0 fun i j => .int (i + j)) := opI0 fun _ _ _ _ _ _ _ q => add_int q
theorem op_sub : OpR X (binaryOp .Sub) (rI0 fun i j => .int (i - j)) := opI0 fun _ _ _ _ _ _ _ q => sub_int q
/-- // by a positive divisor -/
theorem op_fdiv : OpR X (binaryOp .FloorDiv) (rI CDiv fun i j => .int (i / j)) := opI fun i j _ _ _ _ _ hc q => by
  have h1 : (0 : Int) < j := hc.1
  have h2 : j < 1073741824 := hc.2
  exact floordiv_int (by omega) (by rw [Int.fdiv_eq_ediv_of_nonneg i (by omega)]; exact q) (.inl (PyProof.noPylong_small (by omega)))
/-- % by a positive divisor of any size -/
theorem op_mod : OpR X (binaryOp .Mod) (rI (fun _ j => 0 < j) fun i j => .int (i % j)) := opI fun i j _ _ _ _ _ hc q => by
  have h1 : (0 : Int) < j := hc
  exact mod_int' (by omega) (by rw [Int.fmod_eq_emod_of_nonneg i (by omega)]; exact q)
theorem op_pow : OpR X (binaryOp .Pow) (rI CPow fun i j => .int (i ^ j.toNat)) := opI fun _ _ _ _ _ _ _ hc q => pow_int_small hc.1 hc.2.1 hc.2.2 q
end

/-! ### comparisons -/
/-- the scalars that == tells apart as data does -/
def scal : V → V → Bool
  | .non, .non => true | .non, .int _ => true | .int _, .non => true | .non, .bl _ => true | .bl _, .non => true | .non, .str _ => true | .str _, .non => true
  | .int _, .int _ => true | .bl _, .bl _ => true | .str _, .str _ => true | .byt _, .byt _ => true
  | .int _, .str _ => true | .str _, .int _ => true | .bl _, .str _ => true | .str _, .bl _ => true
  | _, _ => false
def rEq : R2 := fun x y H Q => scal x y = true ∧ Q (.bl (decide (x = y))) H
def rNe : R2 := fun x y H Q => scal x y = true ∧ Q (.bl (!decide (x = y))) H

theorem dec_int {i j : Int} : decide (V.int i = V.int j) = (i == j) := by
  rw [Bool.eq_iff_iff]
  simp
theorem dec_bl {i j : Bool} : decide (V.bl i = V.bl j) = (i == j) := by
  rw [Bool.eq_iff_iff]
  simp
theorem dec_str {i j : Str} : decide (V.str i = V.str j) = (i == j) := by
  rw [Bool.eq_iff_iff]
  simp
theorem dec_byt {i j : Array UInt8} : decide (V.byt i = V.byt j) = (i.toList == j.toList) := by
  rw [Bool.eq_iff_iff]
  cases i
  cases j
  simp

section
variable {X : Cx} {a b c : Expr} {ta tb tc : TE} {pos : Pos}
theorem fin_bl {pins : List (Addr × Obj)} {σ : St} {H : Hp} {s : Shared} {Q : VK} {k k' : Bool} (I : Inv X pins σ H s) (q : Q (.bl k) H) (e : k = k') : EP X pins σ Q (.bool k') s := by
  subst e
  exact ⟨.bl k, H, I, rfl, q⟩
theorem op_eq : OpR X (compareOp .Eq) rEq := by
  intro pins s σ H x y v u Q I rx ry h
  obtain ⟨hs, q⟩ := h
  cases x with
  | non =>
    cases rx
    cases y with
    | non => cases ry; exact PySem.EqNone.eq_none_none (fin_bl I q (by simp))
    | bl j => cases ry; exact PySem.EqNone.eq_none_bool (fin_bl I q (by simp))
    | int j => obtain ⟨t', rfl⟩ := ry; exact PySem.EqNone.eq_none_int (fin_bl I q (by simp))
    | str j => obtain ⟨t', rfl⟩ := ry; exact PySem.EqNone.eq_none_str (fin_bl I q (by simp))
    | _ => exact absurd (show false = true from hs) Bool.false_ne_true
  | bl i =>
    cases rx
    cases y with
    | non => cases ry; exact PySem.EqNone.eq_bool_none (fin_bl I q (by simp))
    | bl j => cases ry; exact eq_bool (fin_bl I q dec_bl)
    | str j => obtain ⟨t', rfl⟩ := ry; exact PySem.EqMixed.eq_bool_str (fin_bl I q (by simp))
    | _ => exact absurd (show false = true from hs) Bool.false_ne_true
  | int i =>
    obtain ⟨t, rfl⟩ := rx
    cases y with
    | non => cases ry; exact PySem.EqNone.eq_int_none (fin_bl I q (by simp))
    | int j => obtain ⟨t', rfl⟩ := ry; exact eq_int (fin_bl I q dec_int)
    | str j => obtain ⟨t', rfl⟩ := ry; exact PySem.EqMixed.eq_int_str (fin_bl I q (by simp))
    | _ => exact absurd (show false = true from hs) Bool.false_ne_true
  | str i =>
    obtain ⟨t, rfl⟩ := rx
    cases y with
    | non => cases ry; exact PySem.EqNone.eq_str_none (fin_bl I q (by simp))
    | bl j => cases ry; exact PySem.EqMixed.eq_str_bool (fin_bl I q (by simp))
    | int j => obtain ⟨t', rfl⟩ := ry; exact PySem.EqMixed.eq_str_int (fin_bl I q (by simp))
    | str j => obtain ⟨t', rfl⟩ := ry; exact eq_str (fin_bl I q dec_str)
    | _ => exact absurd (show false = true from hs) Bool.false_ne_true
  | byt i =>
    obtain ⟨t, rfl⟩ := rx
    cases y with
    | byt j => obtain ⟨t', rfl⟩ := ry; exact PySem.W.eq_bytes (fin_bl I q dec_byt)
    | _ => exact absurd (show false = true from hs) Bool.false_ne_true
  | _ => cases y <;> exact absurd (show false = true from hs) Bool.false_ne_true
theorem op_ne : OpR X (compareOp .NotEq) rNe := by
  intro pins s σ H x y v u Q I rx ry h
  obtain ⟨hs, q⟩ := h
  cases x with
  | non =>
    cases rx
    cases y with
    | non => cases ry; exact PySem.EqNone.ne_none_none (fin_bl I q (by simp))
    | bl j => cases ry; exact PySem.EqNone.ne_none_bool (fin_bl I q (by simp))
    | int j => obtain ⟨t', rfl⟩ := ry; exact PySem.EqNone.ne_none_int (fin_bl I q (by simp))
    | str j => obtain ⟨t', rfl⟩ := ry; exact PySem.EqNone.ne_none_str (fin_bl I q (by simp))
    | _ => exact absurd (show false = true from hs) Bool.false_ne_true
  | bl i =>
    cases rx
    cases y with
    | non => cases ry; exact PySem.EqNone.ne_bool_none (fin_bl I q (by simp))
    | bl j => cases ry; exact ne_bool (fin_bl I q (congrArg not dec_bl))
    | str j => obtain ⟨t', rfl⟩ := ry; exact PySem.EqMixed.ne_bool_str (fin_bl I q (by simp))
    | _ => exact absurd (show false = true from hs) Bool.false_ne_true
  | int i =>
    obtain ⟨t, rfl⟩ := rx
    cases y with
    | non => cases ry; exact PySem.EqNone.ne_int_none (fin_bl I q (by simp))
    | int j => obtain ⟨t', rfl⟩ := ry; exact ne_int (fin_bl I q (congrArg not dec_int))
    | str j => obtain ⟨t', rfl⟩ := ry; exact PySem.EqMixed.ne_int_str (fin_bl I q (by simp))
    | _ => exact absurd (show false = true from hs) Bool.false_ne_true
  | str i =>
    obtain ⟨t, rfl⟩ := rx
    cases y with
    | non => cases ry; exact PySem.EqNone.ne_str_none (fin_bl I q (by simp))
    | bl j => cases ry; exact PySem.EqMixed.ne_str_bool (fin_bl I q (by simp))
    | int j => obtain ⟨t', rfl⟩ := ry; exact PySem.EqMixed.ne_str_int (fin_bl I q (by simp))
    | str j => obtain ⟨t', rfl⟩ := ry; exact ne_str (fin_bl I q (congrArg not dec_str))
    | _ => exact absurd (show false = true from hs) Bool.false_ne_true
  | byt i =>
    obtain ⟨t, rfl⟩ := rx
    cases y with
    | byt j => obtain ⟨t', rfl⟩ := ry; exact PySem.W.ne_bytes (fin_bl I q (congrArg not dec_byt))
    | _ => exact absurd (show false = true from hs) Bool.false_ne_true
  | _ => cases y <;> exact absurd (show false = true from hs) Bool.false_ne_true

theorem op_lt : OpR X (compareOp .Lt) (rI0 fun i j => .bl (decide (i < j))) := opB0 fun _ _ _ _ _ _ _ q => lt_int q
theorem op_le : OpR X (compareOp .LtE) (rI0 fun i j => .bl (decide (i ≤ j))) := opB0 fun _ _ _ _ _ _ _ q => le_int q
theorem op_gt : OpR X (compareOp .Gt) (rI0 fun i j => .bl (decide (j < i))) := opB0 fun _ _ _ _ _ _ _ q => gt_int q
theorem op_ge : OpR X (compareOp .GtE) (rI0 fun i j => .bl (decide (j ≤ i))) := opB0 fun _ _ _ _ _ _ _ q => ge_int q
/-- is None, is not None: the right side a value none -/
theorem op_isN : OpR X (compareOp .Is) (fun x y H Q => y = .non ∧ Q (.bl (decide (x = .non))) H) := by
  intro pins s σ H x y v u Q I rx ry h
  obtain ⟨rfl, q⟩ := h
  cases ry
  refine is_none_gen (fin_bl I q ?_)
  cases x <;> first
    | (cases rx; rfl)
    | (obtain ⟨t, rfl⟩ := rx; rfl)
theorem op_notN : OpR X (compareOp .IsNot) (fun x y H Q => y = .non ∧ Q (.bl (!decide (x = .non))) H) := by
  intro pins s σ H x y v u Q I rx ry h
  obtain ⟨rfl, q⟩ := h
  cases ry
  refine isnot_none_gen (fin_bl I q ?_)
  cases x <;> first
    | (cases rx; rfl)
    | (obtain ⟨t, rfl⟩ := rx; rfl)

/-- two rules for one operation: by cases -/
theorem OpR.or {f : Value → Value → Sem Value} {r r' : R2} (h : OpR X f r) (h' : OpR X f r') : OpR X f (fun x y H Q => r x y H Q ∨ r' x y H Q) := by
  intro pins s σ H x y v u Q I rx ry q
  rcases q with q | q
  · exact h pins s σ H x y v u Q I rx ry q
  · exact h' pins s σ H x y v u Q I rx ry q

theorem nomark (b : Expr) {op : CmpOp} (h : op ≠ .In := by decide) (h2 : op ≠ .NotIn := by decide) : behindInMarks op b = false := by
  have e1 : (op == CmpOp.In) = false := by cases op <;> first | rfl | exact absurd rfl h
  have e2 : (op == CmpOp.NotIn) = false := by cases op <;> first | rfl | exact absurd rfl h2
  cases b <;> simp [behindInMarks, e1, e2]
/-- a comparison as a value; hm: nomark b, or (for in, not in) by with_unfolding_all rfl -/
theorem pe_cmpR {op : CmpOp} {r : R2} (ho : OpR X (compareOp op) r) (ha : PE X a ta) (hb : PE X b tb) (hm : behindInMarks op b = false) : PE X (.Compare a [op] [b] pos) (tOp r ta tb) := by
  intro pins s σ H Q I h
  exact wpAny_Compare1 (binT ha hb I h fun v u s2 x y H2 I2 rx ry q => ho pins s2 σ H2 x y v u Q I2 rx ry q) hm
/-- a reading of a value as a test -/
def tTest (t : TE) : TT := fun σ H Q => t σ H fun x H' => ∃ k, x = .bl k ∧ Q k H'
theorem pt_cmpR {op : CmpOp} {r : R2} (ho : OpR X (compareOp op) r) (ha : PE X a ta) (hb : PE X b tb) (hm : behindInMarks op b = false) : PT X (.Compare a [op] [b] pos) (tTest (tOp r ta tb)) := by
  intro pins s σ H Q I h
  refine wpAny_isTrue_Compare1 (thn (ha pins s σ H _ I h) fun v s1 ⟨x, H1, I1, r1, q1⟩ => thn (hb pins s1 σ H1 _ I1 q1) fun u s2 ⟨y, H2, I2, r2, q2⟩ =>
    thn (ho pins s2 σ H2 x y v u _ I2 r1 r2 q2) fun c s3 ⟨z, H3, I3, r3, k, e, q3⟩ => ?_) hm
  subst e
  cases r3
  exact wpAny_truthy_bool ⟨H3, I3, q3⟩
/-! ### truth -/
/-- a value's truth by the abstract heap -/
def TruV (K : PySem.W.Frag) (x : V) (H : Hp) (k : Bool) : Prop :=
  match x with
  | .non => k = false
  | .bl b => k = b
  | .int i => k = (i != 0)
  | .str y => y.length ≤ sizeLine ∧ k = ((y.length : Int) != 0)
  | .byt y => y.size ≤ sizeLine ∧ k = ((y.size : Int) != 0)
  | .ref p => (∃ xs, SqL K H p xs ∧ k = !xs.isEmpty) ∨ (∃ xs, SqT K H p xs ∧ k = !xs.isEmpty) ∨ ∃ kvs, H p = some (.dK kvs) ∧ k = !kvs.isEmpty
  | _ => False
theorem isEmpty_kv {κ : Type} {kvs : List (κ × V)} {vs : List (κ × Value)} (r : KV kvs vs) : (!vs.isEmpty) = !kvs.isEmpty := by
  cases r <;> rfl
theorem isEmpty_of {xs : List V} {its : List Value} (r : Vals xs its) : (!its.toArray.isEmpty) = !xs.isEmpty := by
  cases r <;> simp
theorem line63 : (sizeLine : Nat) < 2 ^ 63 := by rw [sizeLine_eq]; decide
theorem tru_ok : TruR X (fun x H Q => ∃ k, TruV X.K x H k ∧ Q k H) := by
  intro pins s σ H x v Q I rx h
  obtain ⟨k, e, q⟩ := h
  have hl := line63
  have hs : sizeLine = 16777216 := sizeLine_eq
  cases x with
  | non =>
    cases rx
    have e' : k = false := e
    subst e'
    exact truthy_none ⟨H, I, q⟩
  | bl b =>
    cases rx
    have e' : k = b := e
    subst e'
    exact wpAny_truthy_bool ⟨H, I, q⟩
  | int i =>
    obtain ⟨t, rfl⟩ := rx
    have e' : k = (i != 0) := e
    subst e'
    exact PySem.P.truthy_int ⟨H, I, q⟩
  | str y =>
    obtain ⟨t, rfl⟩ := rx
    obtain ⟨hy, e'⟩ : y.length ≤ sizeLine ∧ k = ((y.length : Int) != 0) := e
    subst e'
    exact PySem.P.truthy_str (by omega) ⟨H, I.tok _, q⟩
  | byt y =>
    obtain ⟨t, rfl⟩ := rx
    obtain ⟨hy, e'⟩ : y.size ≤ sizeLine ∧ k = ((y.size : Int) != 0) := e
    subst e'
    exact PySem.W.truthy_bytes (by omega) ⟨H, I.tok _, q⟩
  | ref p =>
    cases rx
    have e' : (∃ xs, SqL X.K H p xs ∧ k = !xs.isEmpty) ∨ (∃ xs, SqT X.K H p xs ∧ k = !xs.isEmpty) ∨ ∃ kvs, H p = some (.dK kvs) ∧ k = !kvs.isEmpty := e
    rcases e' with ⟨xs, hx, e'⟩ | ⟨xs, hx, e'⟩ | ⟨kvs, hx, e'⟩
    · subst e'
      obtain ⟨its, r, pl, hz⟩ := I.list hx
      have hlen := r.length
      exact wpAny_truthy_list pl.isList (by simp only [List.size_toArray]; omega) ⟨H, I.tok _, by rw [isEmpty_of r]; exact q⟩
    · subst e'
      obtain ⟨its, r, pl, hz⟩ := I.tuple hx
      have hlen := r.length
      exact truthy_tuple pl (by simp only [List.size_toArray]; omega) ⟨H, I.tok _, by rw [isEmpty_of r]; exact q⟩
    · subst e'
      obtain ⟨hz, hS, vs, r, m⟩ : kvs.length ≤ sizeLine ∧ (p == sysModules) = false ∧ ∃ vs, KV kvs vs ∧ s.heap.DictOf (mixKind X.prog X.w) p vs := I.hok p _ hx
      have hlen : kvs.length = vs.length := Paired.length r
      exact wpAny_truthy_dict hS m (by omega) ⟨H, I.tok _, by rw [isEmpty_kv r]; exact q⟩
  | _ => exact (show False from e).elim
/-- any expression whose test is its value's truth (a name, a call, a subscript, a field ..: he by fun _ => rfl) -/
theorem pt_truth (ha : PE X a ta) (he : ∀ whole, isTrue a X.env whole = (do let v ← whole; standAt a.pos; holding [v] (truthy v))) :
    PT X a (fun σ H Q => ta σ H fun x H' => ∃ k, TruV X.K x H' k ∧ Q k H') := by
  intro pins s σ H Q I h
  exact isTrue_plain (thn (ha pins s σ H _ I h) fun v s1 ⟨x, H1, I1, r1, q1⟩ => tru_ok pins s1 σ H1 x v Q I1 r1 q1) (he _)

theorem op_add_str : OpR X (binaryOp .Add) (fun x y H Q => ∃ i j, x = .str i ∧ y = .str j ∧ i.length + j.length ≤ sizeLine ∧ Q (.str (i ++ j)) H) := by
  intro pins s σ H x y v u Q I rx ry h
  obtain ⟨i, j, rfl, rfl, hz, q⟩ := h
  obtain ⟨t, rfl⟩ := rx
  obtain ⟨t', rfl⟩ := ry
  exact add_str (fun t' tk => ⟨.str (i ++ j), H, I.tok _, ⟨_, rfl⟩, q⟩) hz
/-! ### scalar builtins, by CallR -/
theorem vals1 {x : V} {us : List Value} (r : Vals [x] us) : ∃ u, us = [u] ∧ RelV x u := by
  cases r with
  | cons r1 r2 => cases r2; exact ⟨_, rfl, r1⟩
theorem vals2 {x y : V} {us : List Value} (r : Vals [x, y] us) : ∃ u w', us = [u, w'] ∧ RelV x u ∧ RelV y w' := by
  cases r with
  | cons r1 r2 =>
    cases r2 with
    | cons r3 r4 => cases r4; exact ⟨_, _, rfl, r1, r3⟩
theorem call_min2 (hc : X.calm = true) : CallR X (.builtin "min") (fun xs H Q => ∃ i j, xs = [.int i, .int j] ∧ Q (.int (if j < i then j else i)) H) := by
  intro pins s σ H xs us Q I r h
  obtain ⟨i, j, rfl, q⟩ := h
  obtain ⟨u, w', rfl, ⟨t, rfl⟩, ⟨t', rfl⟩⟩ := vals2 r
  refine min_two_ints (I.ok.hd hc) fun h' tk k => ⟨_, H, I.kept k, ?_, q⟩
  by_cases hj : j < i
  · rw [if_pos hj, if_pos hj]; exact ⟨_, rfl⟩
  · rw [if_neg hj, if_neg hj]; exact ⟨_, rfl⟩
end
end L2

namespace L2
open PySem PySem.Spec PyProof.Rows

/-! ### an instance, its attributes a map -/
structure ObjM (h : Heap) (x dx C : Addr) (mA : Str → Option Value) : Prop where
  obj : h.get? x = some (PySem.W.instObj C dx)
  ns : h.Ns1 dx mA
  ne : dx ≠ x

theorem lookIn_ns {h : Heap} {dx : Addr} {mA : Str → Option Value} (n : h.Ns1 dx mA) : ∃ od, h.get? dx = some od ∧ ∀ name, PySem.W.lookIn name od = some (mA name) := by
  obtain ⟨o, es, ep, ho, hd, hk, _, hm⟩ := n
  refine ⟨o, ho, fun name => ?_⟩
  have e := hm name
  unfold nsFind findBy at e
  rw [← Array.find?_toList] at e
  unfold PySem.W.lookIn
  rw [hd]
  dsimp only
  split
  · rename_i y q
    rw [q] at e
    exact congrArg some e
  · rename_i q
    rw [q] at e
    have a : es.toList.any (·.refKey) = false := by
      rw [List.any_eq_false]
      intro y hy
      obtain ⟨z, t, hkey⟩ := hk y (Array.mem_toList_iff.mp hy)
      simp [DictEntry.refKey, hkey]
    have a' : ¬ es.toList.any (·.refKey) = true := by rw [a]; exact Bool.false_ne_true
    rw [if_neg a']
    exact congrArg some e

theorem ObjM.look {h : Heap} {x dx C : Addr} {mA : Str → Option Value} (I : ObjM h x dx C mA) : ∃ od, PySem.W.InstAt h x (PySem.W.instObj C dx) C (some od) ∧ ∀ name, PySem.W.lookIn name od = some (mA name) :=
  let ⟨od, ho, hl⟩ := lookIn_ns I.ns
  ⟨od, ⟨I.obj, rfl, rfl, ho⟩, hl⟩

section
variable {prog : Program} {w : World} {A : Around} {E : Value → Shared → Prop} {s : Shared} {K : PySem.W.Frag} {x dx C f : Addr} {mA : Str → Option Value} {name : Str} {v : Value}

theorem get_map {expr : Bool} {Q : Value → Shared → Prop} (X : K.In s.heap) (I : ObjM s.heap x dx C mA) (hg : PySem.W.plainGet K C name = true) (hh : PySem.W.hasDictIn K C = true)
    (ha : PySem.W.findIn K (.ref C) name = some none) (hv : mA name = some v) (hv' : PySem.W.handedIn v = true) (h : Q v { s with toks := s.toks + 1 }) :
    wpAny (model prog w) A (getAttr (.ref x) name expr) Q E s := by
  obtain ⟨od, J, hl⟩ := I.look
  exact PySem.W.get_value X J (PySem.W.plainGet_of hg).1 (PySem.W.findObj_own hh ha rfl (by rw [hl, hv])) hv' h

theorem get_meth {pl : Sem Bool} {Q : Value × List Value → Shared → Prop} (X : K.In s.heap) (I : ObjM s.heap x dx C mA) (hg : PySem.W.plainGet K C name = true)
    (hf : PySem.W.findIn K (.ref C) name = some (some (.ref f))) (ht : PySem.W.isFn K (.ref f) = true) (hv : mA name = none) (h : Q (.ref f, [.ref x]) s) :
    wpAny (model prog w) A (getMethod (.ref x) name pl) Q E s := by
  obtain ⟨od, J, hl⟩ := I.look
  exact PySem.W.method_fn X J (PySem.W.plainGet_of hg).1 (PySem.W.plainGet_of hg).2 hf (beq_iff_eq.mp ht) (by show (PySem.W.lookIn name od).map (·.isSome) = some false; rw [hl, hv]; rfl) h

theorem set_map {ns : List Str} {Q : Unit → Shared → Prop} (X : K.In s.heap) (I : ObjM s.heap x dx C mA)
    (hs : PySem.W.findIn K (.ref C) "__setattr__" = some (some (.builtin "object.__setattr__"))) (hp : PySem.W.plainOver K C = true) (ht : PySem.W.takerIn K C name = some none) (hh : PySem.W.hasDictIn K C = true)
    (hw : PySem.Within mA ns) (hsz : ns.length ≤ sizeLine)
    (h : ∀ h', ObjM h' x dx C (fun y => if y = name then some v else mA y) → Heap.SameBut dx s.heap h' → Q () { s with heap := h', toks := s.toks + 2 }) :
    wpAny (model prog w) A (setAttr (.ref x) name v) Q E s := by
  obtain ⟨od, J, hl⟩ := I.look
  refine PySem.W.set_plain X J hs (PySem.W.osa_open (s := { s with toks := s.toks + 1 }) (r := none) X J hp ht fun b => ?_)
  obtain ⟨cd, hc, hd'⟩ := PySem.W.any_some hh
  have hx : s.heap.get? x = some ⟨.ref C, some dx, .plain, #[]⟩ := I.obj
  refine wpAny_bind (wpAny_pure (wpAny_bind (wpAny_bind (wpAny_loadPart hx (wpAny_bind (PySem.W.Looks.here (s := { s with toks := s.toks + 1 }) (PySem.W.looks_clsIn X hc) ?_))))))
  rw [hd']
  refine wpAny_pure (a := some dx) (wpAny_bind (wpAny_pure (wpAny_bind ?_)))
  refine wpAny_nsSet1 (s := { s with toks := s.toks + 1 }) I.ns fun h' hn2 hs2 => ?_
  obtain ⟨oD, esD, epD, hoD, hdD, hcD⟩ := hn2.count (PySem.Within.cons name v hw)
  refine wpAny_bind (wpAny_lookBehind hoD (by rw [hdD]; exact pastItsLine_dict (Nat.le_trans hcD (by rw [List.length_cons]; omega))) ?_)
  exact wpAny_pure (h _ ⟨(hs2.2 _ (Ne.symm I.ne)).trans I.obj, hn2, I.ne⟩ hs2)

/-- C(..): the dict at the heap's end, the instance behind it; then its __init__ -/
theorem make_map {R : Result → Shared → Prop} {vs : List Value} {kw : List (Str × Value)} (X : K.In s.heap) (hm : PySem.W.makesIn K C = true)
    (hi : PySem.W.findIn K (.ref C) "__init__" = some (some (.ref f))) (hf : PySem.W.typeIn K (.ref f) = some (.type "function"))
    (h : codeAny (model prog w) (A.under (.builtin "type.__call__" ⟨.ref C :: vs, kw⟩)) (.call (.ref f) ⟨.ref (s.heap.objs.size + 1) :: vs, kw⟩) (PySem.W.InitBack (s.heap.objs.size + 1) R)
      { s with heap := (s.heap.push PySem.W.emptyDict).push (PySem.W.instObj C s.heap.objs.size) }) :
    codeAny (model prog w) A (.call (.ref C) ⟨vs, kw⟩) R s := by
  obtain ⟨hh, g, d, t, os⟩ := s
  exact PySem.W.make_core (PySem.W.makes_of X hm) (PySem.W.looks_findIn X hi) (fun self => PySem.W.bind_fn X self hf) (.inl rfl) h
end

/-! ### the attributes as a list of pairs -/
def putF (f : Str) (v : V) : List (Str × V) → List (Str × V)
  | [] => [(f, v)]
  | (g, x) :: r => if g = f then (g, v) :: r else (g, x) :: putF f v r
theorem lookup_putF (f g : Str) (v : V) : ∀ fs : List (Str × V), (putF f v fs).lookup g = if g = f then some v else fs.lookup g
  | [] => by
    show List.lookup g [(f, v)] = _
    by_cases h : g = f
    · have hb : (g == f) = true := beq_iff_eq.mpr h
      simp only [List.lookup, hb, if_pos h]
    · have hb : (g == f) = false := beq_eq_false_iff_ne.mpr h
      simp only [List.lookup, hb, if_neg h]
  | (k, x) :: r => by
    have ih := lookup_putF f g v r
    rw [show putF f v ((k, x) :: r) = (if k = f then (k, v) :: r else (k, x) :: putF f v r) from rfl]
    by_cases hk : k = f
    · rw [if_pos hk]
      by_cases h : g = k
      · have hb : (g == k) = true := beq_iff_eq.mpr h
        simp only [List.lookup, hb, if_pos (h.trans hk)]
      · have hb : (g == k) = false := beq_eq_false_iff_ne.mpr h
        simp only [List.lookup, hb, if_neg (fun e : g = f => h (e.trans hk.symm))]
    · rw [if_neg hk]
      by_cases h : g = k
      · have hb : (g == k) = true := beq_iff_eq.mpr h
        simp only [List.lookup, hb, if_neg (fun e : g = f => hk (h.symm.trans e))]
      · have hb : (g == k) = false := beq_eq_false_iff_ne.mpr h
        simp only [List.lookup, hb]
        exact ih
theorem keys_putF (f : Str) (v : V) : ∀ fs : List (Str × V), f ∈ (putF f v fs).map (·.1) ∧ ∀ g, g ∈ fs.map (·.1) → g ∈ (putF f v fs).map (·.1)
  | [] => ⟨by simp [putF], fun g h => by simp at h⟩
  | (k, x) :: r => by
    obtain ⟨i1, i2⟩ := keys_putF f v r
    rw [show putF f v ((k, x) :: r) = (if k = f then (k, v) :: r else (k, x) :: putF f v r) from rfl]
    by_cases hk : k = f
    · rw [if_pos hk]
      subst hk
      exact ⟨by simp, fun g h => by simpa using h⟩
    · rw [if_neg hk]
      refine ⟨?_, fun g h => ?_⟩
      · rw [List.map_cons]
        exact List.mem_cons_of_mem _ i1
      · rw [List.map_cons] at h ⊢
        rcases List.mem_cons.mp h with e | e
        · exact List.mem_cons.mpr (.inl e)
        · exact List.mem_cons_of_mem _ (i2 g e)
theorem length_putF (f : Str) (v : V) : ∀ fs : List (Str × V), (putF f v fs).length ≤ fs.length + 1
  | [] => by simp [putF]
  | (k, x) :: r => by
    have ih := length_putF f v r
    rw [show putF f v ((k, x) :: r) = (if k = f then (k, v) :: r else (k, x) :: putF f v r) from rfl]
    by_cases hk : k = f
    · rw [if_pos hk, List.length_cons, List.length_cons]; omega
    · rw [if_neg hk, List.length_cons, List.length_cons]; omega

theorem RelO.some_of {v : V} {o : Option Value} (r : RelO (some v) o) : ∃ u, o = some u ∧ RelV v u := by
  cases o with
  | none => exact (show False from r).elim
  | some u => exact ⟨u, rfl, r⟩
theorem RelO.none_of {o : Option Value} (r : RelO none o) : o = none := by
  cases o with
  | none => rfl
  | some u => exact (show False from r).elim
theorem handed_of {v : V} {u : Value} (r : RelV v u) : PySem.W.handedIn u = true := by
  cases v with
  | non => cases (show u = Value.none from r); rfl
  | bl b => cases (show u = Value.bool b from r); rfl
  | int i => obtain ⟨t, e⟩ := (show ∃ t, u = Value.int i t from r); cases e; rfl
  | str x => obtain ⟨t, e⟩ := (show ∃ t, u = Value.str x t from r); cases e; rfl
  | byt b => obtain ⟨t, e⟩ := (show ∃ t, u = Value.bytes b t from r); cases e; rfl
  | flt b => obtain ⟨t, e⟩ := (show ∃ t, u = Value.float b t from r); cases e; rfl
  | ref a => cases (show u = Value.ref a from r); rfl
  | ty n => cases (show u = Value.type n from r); rfl

section
variable {P : Program} {w : World} {H H' : Hp} {h h' : Heap} {a C dx : Addr} {fs fs' : List (Str × V)}
theorem ins_get (hok : HOk P w H h) (e : H a = some (.ins C dx fs)) : ∃ mA, ObjM h a dx C mA ∧ (∀ f, RelO (fs.lookup f) (mA f)) ∧ PySem.Within mA (fs.map (·.1)) ∧ fs.length ≤ 1000 ∧ H dx = some (.own a) := by
  obtain ⟨d, z, ne, ob, mA, n, r, q⟩ := (show ObjOk P w H h a (.ins C dx fs) from hok a _ e)
  exact ⟨mA, ⟨ob, n, ne⟩, r, q, z, d⟩
end

/-! ### what of the text a class must have -/
structure Cls (K : PySem.W.Frag) (C : Addr) : Prop where
  pg : PySem.W.plainGet K C Str.empty = true
  hd : PySem.W.hasDictIn K C = true
  po : PySem.W.plainOver K C = true
  sa : PySem.W.findIn K (.ref C) "__setattr__" = some (some (.builtin "object.__setattr__"))
theorem Cls.get {K : PySem.W.Frag} {C : Addr} (c : Cls K C) (f : Str) : PySem.W.plainGet K C f = true := c.pg
/-- no class of it has the name -/
def NoAttr (K : PySem.W.Frag) (C : Addr) (f : Str) : Prop := PySem.W.findIn K (.ref C) f = some none
theorem NoAttr.taker {K : PySem.W.Frag} {C : Addr} {f : Str} (n : NoAttr K C f) : PySem.W.takerIn K C f = some none := by
  unfold PySem.W.takerIn
  rw [show PySem.W.findIn K (.ref C) f = some none from n]
  rfl
/-- a method: a plain def of the class or of one above it -/
structure Meth (K : PySem.W.Frag) (C : Addr) (m : Str) (f : Addr) : Prop where
  at_ : PySem.W.findIn K (.ref C) m = some (some (.ref f))
  fn : PySem.W.isFn K (.ref f) = true
  kp : PySem.W.keepIn K (.ref f) = true

section
variable {X : Cx} {pins : List (Addr × Obj)} {σ : St} {H : Hp} {s : Shared} {a C dx : Addr} {fs : List (Str × V)} {f : Str} {v : V} {A : Around} {E : Value → Shared → Prop}

theorem getattr_ok {b : Bool} {Q : Value → Shared → Prop} (I : Inv X pins σ H s) (e : H a = some (.ins C dx fs)) (c : Cls X.K C) (n : NoAttr X.K C f) (l : fs.lookup f = some v)
    (h : ∀ u s', Inv X pins σ H s' → RelV v u → Q u s') : wpAny (model X.prog X.w) A (getAttr (.ref a) f b) Q E s := by
  obtain ⟨mA, O, r, _, _, _⟩ := ins_get I.hok e
  obtain ⟨u, hu, ru⟩ := RelO.some_of (v := v) (o := mA f) (by rw [← l]; exact r f)
  exact get_map I.kIn O (c.get f) c.hd n hu (handed_of ru) (h u _ (I.tok _) ru)

theorem getmeth_ok {m : Str} {g : Addr} {pl : Sem Bool} {Q : Value × List Value → Shared → Prop} (I : Inv X pins σ H s) (e : H a = some (.ins C dx fs)) (c : Cls X.K C) (k : Meth X.K C m g) (l : fs.lookup m = none)
    (h : Q (.ref g, [.ref a]) s) : wpAny (model X.prog X.w) A (getMethod (.ref a) m pl) Q E s := by
  obtain ⟨mA, O, r, _, _, _⟩ := ins_get I.hok e
  have hn : mA m = none := RelO.none_of (by rw [← l]; exact r m)
  exact get_meth I.kIn O (c.get m) k.at_ k.fn hn h

theorem setattr_ok {y : V} {u : Value} {Q : Unit → Shared → Prop} (I : Inv X pins σ H s) (e : H a = some (.ins C dx fs)) (c : Cls X.K C) (n : NoAttr X.K C f) (hl : fs.length < 1000) (ry : RelV y u)
    (h : ∀ s', Inv X pins σ (upd H a (.ins C dx (putF f y fs))) s' → Q () s') : wpAny (model X.prog X.w) A (setAttr (.ref a) f u) Q E s := by
  obtain ⟨mA, O, r, wi, _, ho⟩ := ins_get I.hok e
  have hz : (fs.map (·.1)).length ≤ sizeLine := by rw [List.length_map, sizeLine_eq]; omega
  refine set_map I.kIn O c.sa c.po n.taker c.hd wi hz fun h' O' sb => h _ ?_
  have hd : ∃ o, h'.get? dx = some o := let ⟨o, _, _, e', _⟩ := O'.ns; ⟨o, e'⟩
  refine I.write (x := a) (e := dx) (by rw [e]; exact True.intro) (.inr ho) (fun b q hb z => (sb.2 b hb).trans z) hd ?_
  refine ⟨by rw [upd_ne O.ne]; exact ho, ?_, O.ne, O'.obj, _, O'.ns, fun g => ?_, fun g hg => ?_⟩
  · have := length_putF f y fs; omega
  · show RelO ((putF f y fs).lookup g) (if g = f then some u else mA g)
    rw [lookup_putF]
    by_cases q : g = f
    · rw [if_pos q, if_pos q]; exact ry
    · rw [if_neg q, if_neg q]; exact r g
  · by_cases q : g = f
    · rw [q]; exact (keys_putF f y fs).1
    · refine (keys_putF f y fs).2 g (wi g fun z => hg ?_)
      show (if g = f then some u else mA g) = none
      rw [if_neg q]; exact z

/-- a new instance, tracked, without attributes -/
theorem Inv.made (I : Inv X pins σ H s) : Inv X pins σ (upd (upd H s.heap.objs.size (.own (s.heap.objs.size + 1))) (s.heap.objs.size + 1) (.ins C s.heap.objs.size []))
    { s with heap := (s.heap.push PySem.W.emptyDict).push (PySem.W.instObj C s.heap.objs.size) } := by
  have e1 : (s.heap.push PySem.W.emptyDict).get? s.heap.objs.size = some PySem.W.emptyDict := Heap.get?_push_size s.heap rfl
  have e2 : ((s.heap.push PySem.W.emptyDict).push (PySem.W.instObj C s.heap.objs.size)).get? (s.heap.objs.size + 1) = some (PySem.W.instObj C s.heap.objs.size) := by
    have := Heap.get?_push_size (s.heap.push PySem.W.emptyDict) (o := PySem.W.instObj C s.heap.objs.size) rfl
    rwa [Heap.size_push] at this
  have e3 : (s.heap.push PySem.W.emptyDict).Ns s.heap.objs.size (fun _ => none) := ⟨PySem.W.emptyDict, #[], _, e1, rfl, (fun e he => absurd he (by simp)), fun _ => rfl⟩
  have I1 := I.laid (a := s.heap.objs.size) (o := .own (s.heap.objs.size + 1)) (h' := s.heap.push PySem.W.emptyDict) (t' := s.toks) (fun b u q => Heap.get?_push_of_some _ q) (Nat.le_refl _) ⟨_, e1⟩
  refine I1.laid (a := s.heap.objs.size + 1) (o := .ins C s.heap.objs.size []) (t' := s.toks) (fun b u q => Heap.get?_push_of_some _ q) (Nat.le_of_eq (Heap.size_push _ _)) ?_
  have ne : s.heap.objs.size ≠ s.heap.objs.size + 1 := Nat.ne_of_lt (Nat.lt_succ_self _)
  refine ⟨by rw [upd_ne ne, upd_same], Nat.zero_le _, ne, e2, fun _ => none, (Heap.Ns1.of_empty e3).at fun o q => Heap.get?_push_of_some _ q, fun _ => True.intro, fun y hy => absurd rfl hy⟩

/-- e.f where nothing but the object is asked: through attributeBase (super) and the last hold -/
theorem attr_of {prog : Program} {w : World} {env : Env} {e : Expr} {f : Str} {pos : Pos} {s : Shared} {Q : Value → Shared → Prop} (hb : attributeBase e f env (eval e env) = eval e env)
    (h : wpAny (model prog w) A (eval e env) (fun o s₁ => wpAny (model prog w) A (getAttr o f true) Q E s₁) E s) : wpAny (model prog w) A (eval (.Attribute e f pos) env) Q E s :=
  Attribute_any_ h (by rw [arm_eval_Attribute, hb])
end

/-! ### readings and rules -/
/-- e.f, an attribute of the instance -/
def tFld (K : PySem.W.Frag) (ta : TE) (f : Str) : TE := fun σ H Q => ta σ H fun x H1 => ∃ a C dx fs v, x = .ref a ∧ H1 a = some (.ins C dx fs) ∧ Cls K C ∧ NoAttr K C f ∧ fs.lookup f = some v ∧ Q v H1
/-- e.f = value -/
def sFld (K : PySem.W.Frag) (ta tv : TE) (f : Str) : TS := fun D σ H => tv σ H fun y H1 => ta σ H1 fun x H2 => ∃ a C dx fs, x = .ref a ∧ H2 a = some (.ins C dx fs) ∧ Cls K C ∧ NoAttr K C f ∧ fs.length < 1000 ∧
  D.nx σ (upd H2 a (.ins C dx (putF f y fs)))
section
variable {X : Cx} {o e value : Expr} {f : Str} {pos pos' tpos : Pos} {ta tv : TE}
theorem pe_fld (he : PE X e ta) (hb : attributeBase e f X.env (eval e X.env) = eval e X.env) : PE X (.Attribute e f pos) (tFld X.K ta f) := by
  intro pins s σ H Q I h
  refine attr_of hb (thn (he pins s σ H _ I h) fun u s1 ⟨x, H1, I1, rx, a, C, dx, fs, v, ex, ea, c, n, l, q⟩ => ?_)
  subst ex
  obtain rfl : u = Value.ref a := rx
  exact getattr_ok I1 ea c n l fun u' s2 I2 ru => ⟨v, H1, I2, ru, q⟩
theorem ps_fld (ha : PE X o ta) (hv : PE X value tv) (hs : swapsWith value (some (.Attribute o f pos')) pos.line X.env = pure false) : PS X (.Assign [.Attribute o f pos'] value pos) (sFld X.K ta tv f) := by
  intro pins s σ H D I h
  refine plainObj_wpAny_Assign_Attribute (thn (hv pins s σ H _ I h) fun u s1 ⟨y, H1, I1, ry, q⟩ => thn (ha pins s1 σ H1 _ I1 q) fun ov s2 ⟨x, H2, I2, rx, a, C, dx, fs, ex, ea, c, n, l, q2⟩ => ?_) hs
  subst ex
  obtain rfl : ov = Value.ref a := rx
  exact setattr_ok I2 ea c n l ry fun s3 I3 => ⟨σ, _, I3, q2⟩
end

/-! ### isinstance -/
section
variable {X : Cx} {pins : List (Addr × Obj)} {σ : St} {H : Hp} {s : Shared} {A : Around} {E : Value → Shared → Prop} {Q : Value → Shared → Prop} {c : Value} {b : Bool}
end
end L2

namespace L2
open PySem PySem.Spec PyProof.Rows

/-! ### room -/
structure Room (k : Nat) (A : Around) : Prop where
  hd : A.handled = none
  dp : A.depth + 3 * k + 5 < recursionLimit
  un : A.units + 16 * k + 200 < cLine
theorem Room.mono {j k : Nat} {A : Around} (r : Room k A) (h : j ≤ k) : Room j A := ⟨r.hd, by have := r.dp; omega, by have := r.un; omega⟩
theorem Room.deeper {k : Nat} {A : Around} (r : Room (k + 1) A) (env : Env) : Room k (A.deeper env) :=
  ⟨r.hd, by have := r.dp; show A.depth + 1 + 3 * k + 5 < _; omega, by have := r.un; show A.units + 3 + 16 * k + 200 < _; omega⟩
theorem Room.in1 {k : Nat} {A : Around} (r : Room (k + 1) A) : Room k A.in1 :=
  ⟨r.hd, by have := r.dp; show A.depth + 3 * k + 5 < _; omega, by have := r.un; show A.units + 1 + 16 * k + 200 < _; omega⟩
theorem make_depth {A : Around} {C : Addr} {us : List Value} {kw : List (Str × Value)} : (A.under (.builtin "type.__call__" ⟨.ref C :: us, kw⟩)).depth = A.depth + 1 := by
  first | rfl | simp [Around.under, Code.weight, Code.isCreation, Code.isGuard, Code.isCaller, Code.frames, Code.isFrame, guardIds]
theorem make_units {A : Around} {C : Addr} {us : List Value} {kw : List (Str × Value)} : (A.under (.builtin "type.__call__" ⟨.ref C :: us, kw⟩)).units = A.units + 1 := by
  first | rfl | simp [Around.under, Code.cUnits, Code.frames, Code.isFrame]
theorem Room.make {k : Nat} {A : Around} (r : Room (k + 1) A) (C : Addr) (us : List Value) (kw : List (Str × Value)) : Room k (A.under (.builtin "type.__call__" ⟨.ref C :: us, kw⟩)) :=
  ⟨r.hd, by have := r.dp; rw [make_depth]; omega, by have := r.un; rw [make_units]; omega⟩
theorem Room.depth {k : Nat} {A : Around} (r : Room k A) : A.depth < recursionLimit := by have := r.dp; omega
theorem Room.units {k : Nat} {A : Around} (r : Room k A) : A.units + 64 < cLine := by have := r.un; omega
theorem Room.units0 {k : Nat} {A : Around} (r : Room k A) : A.units < cLine := by have := r.un; omega

/-! ### argument lists and displays -/
def tNil : TA := fun _ H Q => Q [] H
def tCons (ta : TE) (tr : TA) : TA := fun σ H Q => ta σ H fun x H1 => tr σ H1 fun xs H2 => Q (x :: xs) H2
section
variable {X : Cx} {e : Expr} {es : List Expr} {te : TE} {t : TA} {pos : Pos}
theorem pa_nil : PA X [] tNil := fun _ _ _ _ H Q I h => Calls.spliced_nil ⟨[], H, I, .nil, h⟩
theorem pa_cons (ha : PE X e te) (hr : PA X es t) (hs : starEach (e :: es) X.env = (false, eval e X.env) :: starEach es X.env := by rfl) : PA X (e :: es) (tCons te t) := by
  intro pos pins s σ H Q I h
  rw [hs]
  show wpAny _ _ (spliced ((false, eval e X.env) :: backTo pos (starEach es X.env))) _ _ s
  refine Calls.spliced_cons (thn (ha pins s σ H _ I h) fun u s1 ⟨x, H1, I1, r1, q1⟩ => ?_)
  exact thn (hr pos pins s1 σ H1 _ I1 q1) fun us s2 ⟨xs, H2, I2, r2, q2⟩ => ⟨x :: xs, H2, I2, .cons r1 r2, q2⟩

/-- a tuple, a list of written items -/
def tTup (t : TA) : TE := fun σ H Q => t σ H fun xs H1 => xs.length ≤ sizeLine ∧ ∀ p, H1 p = none → Q (.ref p) (upd H1 p (.tup xs))
def tLst (t : TA) : TE := fun σ H Q => t σ H fun xs H1 => xs.length ≤ sizeLine ∧ ∀ p, H1 p = none → Q (.ref p) (upd H1 p (.lst xs))
theorem pe_tup {x1} (h : PA X es t) : PE X (.Tuple es x1 pos) (tTup t) := by
  intro pins s σ H Q I hq
  refine wpAny_Tuple_spliced (thn (h pos pins s σ H _ I hq) fun us s1 ⟨xs, H1, I1, r, z, q⟩ => ⟨by rw [← r.length]; exact z, ?_⟩)
  have hf : H1 s1.heap.objs.size = none := I1.hok.fresh (Nat.le_refl _)
  refine ⟨.ref s1.heap.objs.size, upd H1 s1.heap.objs.size (.tup xs), I1.laid (t' := s1.toks) (fun b u e => Heap.get?_push_of_some _ e) (Nat.le_refl _) ?_, rfl, q _ hf⟩
  exact ⟨z, us, r, ⟨_, Heap.get?_push_size _ rfl, rfl, ⟨_, rfl⟩, rfl⟩⟩
theorem pe_lst (h : PA X es t) : PE X (.List es pos) (tLst t) := by
  intro pins s σ H Q I hq
  refine wpAny_List_spliced (thn (h pos pins s σ H _ I hq) fun us s1 ⟨xs, H1, I1, r, z, q⟩ => ⟨by rw [← r.length]; exact z, ?_⟩)
  have hf : H1 s1.heap.objs.size = none := I1.hok.fresh (Nat.le_refl _)
  refine ⟨.ref s1.heap.objs.size, upd H1 s1.heap.objs.size (.lst xs), I1.laid (t' := s1.toks) (fun b u e => Heap.get?_push_of_some _ e) (Nat.le_refl _) ?_, rfl, q _ hf⟩
  exact ⟨z, us, 0, r, Heap.get?_push_size _ rfl⟩
end

/-! ### what a def promises -/
/-- a def's promise: the bound arguments in the parameters' order, the heap, the wanted end, the wanted exception -/
abbrev Sp := List V → Hp → VK → XK → Prop
/-- how an exception lies behind a call (file 08 gives it): the callers' frames, abstract heap and state ahead of the call, the wish, the exception, the state -/
abbrev CXT := List Env → Hp → Shared → XK → Value → Shared → Prop

/-- the state at a call -/
structure Env0 (P : Program) (w : World) (K : PySem.W.Frag) (mg : Str → Option Value) (base : Heap) (A : Around) (outer : List Env) (s : Shared) (H : Hp) : Prop where
  frames : A.frames = some outer
  mod : Mod K mg base
  bs : ∀ b o, base.get? b = some o → s.heap.get? b = some o ∧ H b = none
  bsz : base.objs.size ≤ s.heap.objs.size
  funs : s.heap.FunFrames base outer
  frf : ∀ b ∈ frs outer, H b = none
  hok : HOk P w H s.heap
  bare : AllBare s.gens
/-- a call's end -/
def CE (outer : List Env) (P : Program) (w : World) (H : Hp) (s : Shared) (Q : VK) (u : Value) (s' : Shared) : Prop :=
  ∃ v H', s'.os = s.os ∧ AllBare s'.gens ∧ Un (frs outer) [] H H' s.heap s'.heap ∧ HOk P w H' s'.heap ∧ RelV v u ∧ Q v H'
def CR (CX : CXT) (outer : List Env) (P : Program) (w : World) (H : Hp) (s : Shared) (Q : VK) (E : XK) (r : Result) (s' : Shared) : Prop :=
  match r with
  | .ok (.ret u) => CE outer P w H s Q u s'
  | .ok _ => False
  | .error e => CX outer H s E e s'
structure FnOk (P : Program) (w : World) (K : PySem.W.Frag) (mg : Str → Option Value) (base : Heap) (CX : CXT) (k : Nat) (f : Addr) (fd : FuncData) (ps : List Str) (sp : Sp) : Prop where
  len : ∀ vs H Q E, sp vs H Q E → vs.length = ps.length
  run : ∀ (A : Around) (outer : List Env) (s : Shared) (H : Hp) (args : Args) (us : List Value) (vs : List V) (Q : VK) (E : XK), Room k A → Env0 P w K mg base A outer s H → BindsTo s fd args (ps.zip us) → Vals vs us → sp vs H Q E →
    codeAny (model P w) A (.call (.ref f) args) (CR CX outer P w H s Q E) s
theorem FnOk.mono {P : Program} {w : World} {K : PySem.W.Frag} {mg : Str → Option Value} {base : Heap} {CX : CXT} {j k : Nat} {f : Addr} {fd : FuncData} {ps : List Str} {sp : Sp} (F : FnOk P w K mg base CX j f fd ps sp) (h : j ≤ k) :
    FnOk P w K mg base CX k f fd ps sp := ⟨F.len, fun A outer s H args us vs Q E hr => F.run A outer s H args us vs Q E (hr.mono h)⟩
/-- a weaker promise -/
theorem FnOk.imp {P : Program} {w : World} {K : PySem.W.Frag} {mg : Str → Option Value} {base : Heap} {CX : CXT} {k : Nat} {f : Addr} {fd : FuncData} {ps : List Str} {sp sp' : Sp} (F : FnOk P w K mg base CX k f fd ps sp)
    (h : ∀ vs H Q E, sp' vs H Q E → sp vs H Q E) : FnOk P w K mg base CX k f fd ps sp' :=
  ⟨fun vs H Q E q => F.len vs H Q E (h _ _ _ _ q), fun A outer s H args us vs Q E hr he hb hv hs => F.run A outer s H args us vs Q E hr he hb hv (h _ _ _ _ hs)⟩

theorem Env0.make {P : Program} {w : World} {K : PySem.W.Frag} {mg : Str → Option Value} {base : Heap} {A : Around} {outer : List Env} {s : Shared} {H : Hp} (e : Env0 P w K mg base A outer s H) (C : Addr) (us : List Value) (kw : List (Str × Value)) :
    Env0 P w K mg base (A.under (.builtin "type.__call__" ⟨.ref C :: us, kw⟩)) outer s H := ⟨by first | exact e.frames | (simpa [Around.under, Code.envs, Code.isFrame, pushEnvs] using e.frames), e.mod, e.bs, e.bsz, e.funs, e.frf, e.hok, e.bare⟩
theorem Env0.in1 {P : Program} {w : World} {K : PySem.W.Frag} {mg : Str → Option Value} {base : Heap} {A : Around} {outer : List Env} {s : Shared} {H : Hp} (e : Env0 P w K mg base A outer s H) :
    Env0 P w K mg base A.in1 outer s H := ⟨e.frames, e.mod, e.bs, e.bsz, e.funs, e.frf, e.hok, e.bare⟩

section
variable {X : Cx} {pins : List (Addr × Obj)} {σ : St} {H : Hp} {s s' : Shared}
/-- from a body: what a callee wants -/
theorem Inv.env0 (I : Inv X pins σ H s) : Env0 X.prog X.w X.K X.mg X.base X.A X.stack s H :=
  ⟨I.ok.frames, I.ok.mod, I.bs, Nat.le_trans I.ok.bsz I.sz, I.stack, I.stkFree, I.hok, I.bare⟩
/-- behind a call -/
theorem Inv.after {Q : VK} {u : Value} (I : Inv X pins σ H s) (h : CE X.stack X.prog X.w H s Q u s') : EP X pins σ Q u s' := by
  obtain ⟨v, H', os, bare, un, hok, r, q⟩ := h
  obtain ⟨hh, g, d, t, os'⟩ := s'
  obtain rfl : os' = s.os := os
  exact ⟨v, H', I.call (h' := hh) (g' := g) (d' := d) (t' := t) (ch := []) un hok bare (fun b z => absurd z (by simp)), r, q⟩
end

/-! ### calls -/
/-- how the parameters are bound: us the positional arguments, kw the keywords' values by name, ds the defaults that fill up -/
def Binds (K : PySem.W.Frag) (fd : FuncData) (ps : List Str) (ds : List Value) : Prop :=
  ∀ (s : Shared) (us : List Value), K.In s.heap → (us ++ ds).length = ps.length → BindsTo s fd ⟨us, []⟩ (ps.zip (us ++ ds))
/-- every parameter is given -/
theorem Binds.all {K : PySem.W.Frag} {fd : FuncData} {ps : List Str} (h : ∀ us : List Value, us.length = ps.length → bindArgs fd ⟨us, []⟩ = pure (ps.zip us)) : Binds K fd ps [] := fun s us _ hl => by
  rw [List.append_nil] at hl ⊢
  exact .of_eq (h us hl)

section
variable {X : Cx} {CX : CXT} {k : Nat} {f C : Addr} {fd : FuncData} {ps : List Str} {sp : Sp} {dvs : List V} {ds : List Value} {E : XK} {x m : Str} {p pos apos : Pos} {e o : Expr} {es : List Expr} {ta : TE} {t : TA}

/-- what a class must have to be made -/
structure Mk (K : PySem.W.Frag) (C f : Addr) : Prop where
  makes : PySem.W.makesIn K C = true
  init : PySem.W.findIn K (.ref C) "__init__" = some (some (.ref f))
  fn : PySem.W.isFn K (.ref f) = true
  kp : PySem.W.keepIn K (.ref C) = true

end

/-! ### keywords -/
section
variable {X : Cx} {CX : CXT} {k : Nat} {f C : Addr} {fd : FuncData} {ps ks : List Str} {sp : Sp} {E : XK} {x m : Str} {p pos apos kpos : Pos} {e o : Expr} {es : List Expr} {kws : List Keyword} {te ta : TE} {t tk : TA} {nm : Option Str}
variable {g : List Value → List Value → List Value} {gV : List V → List V → List V}
end

/-! ### a def's body keeps its promise -/
/-- names: the parameters first -/
structure FnScope (N P : List Str) (sc : Scope) : Prop where
  kind : sc.kind = .function
  co : sc.isCoroutine = false
  gen : sc.isGenerator = false
  nd : N.Nodup
  pre : N.take P.length = P
  par : ∀ x ∈ P, sc.names.lookup x = some .local ∨ sc.names.lookup x = some .cell
  nofree : ∀ y ∈ sc.names, y.2 ≠ .free

theorem bindL_out {kindOf : Str → Option NameKind} {x : Str} : ∀ {binds : List (Str × Value)} {m : Str → Option Value}, (∀ v, (x, v) ∉ binds) → bindL kindOf binds m x = m x
  | [], _, _ => rfl
  | (n, v) :: r, m, h => by
    unfold bindL
    rw [bindL_out fun w hw => h w (List.mem_cons_of_mem _ hw)]
    split
    · have : x ≠ n := by rintro rfl; exact h v List.mem_cons_self
      simp [this]
    · rfl
theorem bindC_out {kindOf : Str → Option NameKind} {x : Str} : ∀ {binds : List (Str × Value)} {m : Str → Option Value}, (∀ v, (x, v) ∉ binds) → bindC kindOf binds m x = m x
  | [], _, _ => rfl
  | (n, v) :: r, m, h => by
    unfold bindC
    rw [bindC_out fun w hw => h w (List.mem_cons_of_mem _ hw)]
    split
    · rfl
    · have : x ≠ n := by rintro rfl; exact h v List.mem_cons_self
      simp [this]
theorem bindL_get {kindOf : Str → Option NameKind} {x : Str} {v : Value} : ∀ {P : List Str} {vs : List Value} {i : Nat} {m : Str → Option Value}, P.Nodup → P[i]? = some x → vs[i]? = some v → kindOf x = some .local →
    bindL kindOf (P.zip vs) m x = some v
  | [], _, _, _, _, h, _, _ => by simp at h
  | _ :: _, [], _, _, _, _, h, _ => by simp at h
  | p :: P, w :: vs, 0, m, nd, h1, h2, hk => by
    simp at h1 h2; subst h1; subst h2
    show bindL kindOf ((p, w) :: P.zip vs) m p = _
    unfold bindL
    rw [bindL_out fun v hv => (List.nodup_cons.mp nd).1 (List.of_mem_zip hv).1, if_pos hk]
    simp
  | p :: P, w :: vs, i + 1, m, nd, h1, h2, hk => by
    show bindL kindOf ((p, w) :: P.zip vs) m x = _
    unfold bindL
    exact bindL_get (i := i) (List.nodup_cons.mp nd).2 (by simpa using h1) (by simpa using h2) hk
theorem bindC_get {kindOf : Str → Option NameKind} {x : Str} {v : Value} : ∀ {P : List Str} {vs : List Value} {i : Nat} {m : Str → Option Value}, P.Nodup → P[i]? = some x → vs[i]? = some v → kindOf x ≠ some .local →
    bindC kindOf (P.zip vs) m x = some v
  | [], _, _, _, _, h, _, _ => by simp at h
  | _ :: _, [], _, _, _, _, h, _ => by simp at h
  | p :: P, w :: vs, 0, m, nd, h1, h2, hk => by
    simp at h1 h2; subst h1; subst h2
    show bindC kindOf ((p, w) :: P.zip vs) m p = _
    unfold bindC
    rw [bindC_out fun v hv => (List.nodup_cons.mp nd).1 (List.of_mem_zip hv).1, if_neg hk]
    simp
  | p :: P, w :: vs, i + 1, m, nd, h1, h2, hk => by
    show bindC kindOf ((p, w) :: P.zip vs) m x = _
    unfold bindC
    exact bindC_get (i := i) (List.nodup_cons.mp nd).2 (by simpa using h1) (by simpa using h2) hk

/-- the names' values at the entry -/
def start (N : List Str) (vs : List V) : St := vs.map some ++ List.replicate (N.length - vs.length) none

/-- the context of a def's body, at its entry; an exception leaves the frame, then lies as CX says -/
def cxOf (CX : CXT) (P : Program) (w : World) (K : PySem.W.Frag) (mg : Str → Option Value) (base : Heap) (N : List Str) (qual : Str) (scope : Scope) (f : Addr) (cd : Value) (A : Around) (outer : List Env) (s : Shared) (H : Hp) (E : XK) : Cx where
  prog := P
  w := w
  K := K
  mg := mg
  base := base
  A := A.deeper (envOfC qual scope s.heap.objs.size f cd)
  N := N
  s₀ := s
  H₀ := H
  env := envOfC qual scope s.heap.objs.size f cd
  outer := outer
  stack := envOfC qual scope s.heap.objs.size f cd :: outer
  ex := []
  calm := true
  fn := fun _ => true
  pn := []
  xe := fun e s' => wpAny (model P w) (A.deeper (envOfC qual scope s.heap.objs.size f cd)) (leaving (envOfC qual scope s.heap.objs.size f cd) e) (fun _ s'' => CX outer H s E e s'') (fun e' s'' => CX outer H s E e' s'') s'

theorem cell_has {sc : Scope} {n : Nat} {x : Str} (h : sc.names.lookup x = some .cell) : ∃ c, (cellsFrom n sc.names []).lookup x = some c := by
  have q := PySem.W.cellsFrom_some sc.names n [] (.inl h)
  exact Option.isSome_iff_exists.mp q

theorem inv_start {CX : CXT} {P : Program} {w : World} {K : PySem.W.Frag} {mg : Str → Option Value} {base : Heap} {N ps : List Str} {qual : Str} {scope : Scope} {f : Addr} {cd : Value} {A : Around} {outer : List Env} {s s1 : Shared} {H : Hp} {E : XK} {us : List Value} {vs : List V}
    (S : FnScope N ps scope) (hd : A.handled = none) (e0 : Env0 P w K mg base A outer s H) (hl : vs.length = ps.length) (r : Vals vs us)
    (x : InCallC s s.heap.objs.size (bindL (envOfC qual scope s.heap.objs.size f cd).kindOf (ps.zip us) fun _ => none) (cellsFrom (s.heap.objs.size + 1) scope.names []) (bindC (envOfC qual scope s.heap.objs.size f cd).kindOf (ps.zip us) fun _ => none) s1) :
    Inv (cxOf CX P w K mg base N qual scope f cd A outer s H E) [] (start N vs) H s1 := by
  have hpl : ps.length ≤ N.length := by have := congrArg List.length S.pre; rw [List.length_take] at this; omega
  obtain ⟨h1, tk, rfl, hk⟩ := x.done
  have noA : ∀ b : Addr, b ∉ (cxOf CX P w K mg base N qual scope f cd A outer s H E).ex := fun b z => absurd (show b ∈ ([] : List Addr) from z) (by simp)
  refine ⟨⟨e0.mod, S.kind, rfl, rfl, Nat.le_refl _, fun y z c h1 h2 => ?_, fun y hy => ?_, fun y c _ h => ?_, fun _ => hd, Around.frames_deeper e0.frames, .inr ⟨rfl, rfl⟩, fun b z => absurd z (noA b), e0.bs, e0.bsz, fun b _ _ => noA b, fun b z => absurd z (noA b), e0.funs, e0.frf⟩,
    rfl, e0.bare, Un.kept hk, ⟨_, x.toInCall.ns, fun i y v h1 h2 h3 => ?_⟩, fun y c h => ⟨_, x.cell y c h⟩, e0.hok.fresh (Nat.le_refl _), fun y c h => ?_, fun p hp => absurd (show p ∈ ([] : List (Addr × Obj)) from hp) (by simp), e0.hok.kept hk, ?_⟩
  · exact name_of_addr x.apart (PySem.mem_of_lookup h1) (PySem.mem_of_lookup h2)
  · have hy : scope.names.lookup y = some .cell ∨ scope.names.lookup y = some .free := hy
    rcases hy with hy | hy
    · exact cell_has hy
    · exact absurd rfl (S.nofree _ (PySem.mem_of_lookup hy))
  · exact Nat.le_of_lt (x.above y c (PySem.mem_of_lookup h))
  · have hi : i < vs.length := by
      unfold start at h2
      by_cases hi : i < vs.length
      · exact hi
      · rw [List.getElem?_append_right (by simpa using hi)] at h2
        rw [List.getElem?_replicate] at h2
        split at h2 <;> cases h2
    have ha : vs[i]? = some v := by
      unfold start at h2
      rw [List.getElem?_append_left (by simpa using hi), List.getElem?_map] at h2
      cases e : vs[i]? with
      | none => rw [e] at h2; cases h2
      | some a => rw [e] at h2; cases h2; rfl
    obtain ⟨u, hu, rv⟩ := r.get ha
    have hp : ps[i]? = some y := by
      rw [← S.pre, List.getElem?_take_of_lt (by omega)]; exact h1
    have ndP : ps.Nodup := by rw [← S.pre]; exact S.nd.sublist (List.take_sublist _ _)
    refine ⟨u, rv, ?_⟩
    rcases S.par y (List.mem_of_getElem? hp) with k | k
    · exact .inl ⟨k, bindL_get ndP hp hu k⟩
    · obtain ⟨c, e⟩ := cell_has (n := s.heap.objs.size + 1) k
      refine .inr ⟨.inl k, c, e, ?_⟩
      have q := x.cell y c e
      rw [bindC_get ndP hp hu (by show scope.names.lookup y ≠ _; rw [k]; decide)] at q
      exact q
  · exact e0.hok.fresh (Nat.le_of_lt (x.above y c (PySem.mem_of_lookup h)))
  · unfold start
    show _ = N.length
    rw [List.length_append, List.length_map, List.length_replicate]
    omega

/-- THE RULE: a def (or a method) of the text, by its body. The body's reading t is chosen for each entry; it is run at the parameters' values -/
theorem fn_of {CX : CXT} {P : Program} {w : World} {K : PySem.W.Frag} {mg : Str → Option Value} {base : Heap} {k : Nat} {f : Addr} {name qual : Str} {params : Arguments} {body : List Stmt} {scope : Scope} {dV kV doc pm cdv ct oc : Value} {an od : Option Addr}
    {osl : Array (Option Value)} {N ps : List Str} {sp : Sp} (lk : K.lookup f = some ⟨oc, od, .func (PySem.W.fnOf name qual params body scope dV kV doc pm an cdv ct), osl⟩) (hcd : PySem.W.codeIn K cdv qual = true) (S : FnScope N ps scope)
    (len : ∀ vs H Q E, sp vs H Q E → vs.length = ps.length)
    (hbody : ∀ (A : Around) (outer : List Env) (s : Shared) (H : Hp) (vs : List V) (Q : VK) (E : XK), Room k (A.deeper (envOfC qual scope s.heap.objs.size f cdv)) → sp vs H Q E →
      ∃ t, PSs (cxOf CX P w K mg base N qual scope f cdv A outer s H E) body t ∧ t { nx := fun _ H' => Q .non H', rt := Q } (start N vs) H) :
    FnOk P w K mg base CX (k + 1) f (PySem.W.fnOf name qual params body scope dV kV doc pm an cdv ct) ps sp := by
  refine ⟨len, fun A outer s H args us vs Q E hr e0 hb r hsp => ?_⟩
  have hl := len _ _ _ _ hsp
  have KX : K.In s.heap := e0.mod.kin.keeps fun b o e => (e0.bs b o e).1
  have lim : s.heap.NoLimit := e0.mod.nolimit.keeps fun b o e => (e0.bs b o e).1
  have hkind : ∀ y ∈ ps.zip us, scope.names.lookup y.1 = some .local ∨ (scope.names.lookup y.1 = some .cell ∧ ((cellsFrom (s.heap.objs.size + 1) scope.names []).lookup y.1).isSome = true) := fun ⟨n, v⟩ hy => by
    rcases S.par n (List.of_mem_zip hy).1 with q | q
    · exact .inl q
    · exact .inr ⟨q, PySem.W.cellsFrom_some _ _ _ (.inl q)⟩
  refine codeAny_call_function hr.depth (KX _ _ lk) rfl S.co S.gen rfl (PySem.W.codeRec_of KX hcd) (hb _ _ _ _ ?_)
  refine wpAny_newFunctionEnv_cells S.kind hkind fun env he s1 x => ?_
  subst he
  refine ⟨lim.keeps x.toInCall.keep, codeAny_func ?_⟩
  obtain ⟨t, ht, hq⟩ := hbody A outer s H vs Q E (hr.deeper _) hsp
  have I : Inv (cxOf CX P w K mg base N qual scope f cdv A outer s H E) [] (start N vs) H s1 := inv_start S hr.hd e0 hl r x
  refine wpAny_mono (ht [] s1 (start N vs) H _ I hq) (fun fl s' hs => ?_) fun e s' hs => hs
  have fin : ∀ {σ' : St} {H' : Hp} {v : V} {u : Value}, Inv (cxOf CX P w K mg base N qual scope f cdv A outer s H E) [] σ' H' s' → RelV v u → Q v H' → CE outer P w H s Q u s' :=
    fun {σ' H' v u} J rv q => ⟨v, H', J.os, J.bare, J.base, J.hok, rv, q⟩
  cases fl with
  | ret u =>
    obtain ⟨v, σ', H', J, rv, q⟩ := hs
    exact fin J rv q
  | next =>
    obtain ⟨σ', H', J, q⟩ := hs
    exact fin (v := V.non) (u := Value.none) J rfl q
  | brk =>
    obtain ⟨_, _, _, q⟩ := hs
    exact False.elim q
  | cont =>
    obtain ⟨_, _, _, q⟩ := hs
    exact False.elim q
end L2

namespace L2
open PySem PySem.Spec PyProof.Rows
section
variable {X : Cx} {x : Str} {p pos : Pos} {e : Expr} {es : List Expr} {t : TA} {id T : String} {r : List V → Hp → VK → Prop}

def tCB (r : List V → Hp → VK → Prop) (t : TA) : TE := fun σ H Q => t σ H fun vs H1 => r vs H1 Q
/-- f(e, ..), f a built-in function -/
theorem pe_callB (hc : CallR X (.builtin id) r) (hg : Gl X x) (hm : X.mg x = none) (hv : bootBuiltins x = some (.builtin id)) (ha : PA X (e :: es) t) (hn : x ≠ "__name__" := by decide) (hdb : (x == ("__debug__" : Str)) = false := by decide)
    (he : starEach (e :: es) X.env = (false, eval e X.env) :: starEach es X.env := by rfl) (hpl : (backTo pos (starEach es X.env)).any (·.1) = false := by rfl) : PE X (.Call (.Name x p) (e :: es) [] pos) (tCB r t) := by
  intro pins s σ H Q I h
  refine wpAny_Call_Name_kw (ld_blt I hg hm hv ?_ hn hdb)
  exact PyProof.Rows.callWith_builtin1 (thn (ha pos pins s σ H _ I h) fun us s1 ⟨vs, H1, I1, r1, q1⟩ => hc pins s1 σ H1 vs us Q I1 r1 q1) he hpl
/-- T(e, ..), T a built-in type -/
theorem pe_callTy (hc : CallR X (.type T) r) (hg : Gl X x) (hm : X.mg x = none) (hv : bootBuiltins x = some (.type T)) (ha : PA X (e :: es) t) (hn : x ≠ "__name__" := by decide) (hdb : (x == ("__debug__" : Str)) = false := by decide)
    (he : starEach (e :: es) X.env = (false, eval e X.env) :: starEach es X.env := by rfl) (hpl : (backTo pos (starEach es X.env)).any (·.1) = false := by rfl) : PE X (.Call (.Name x p) (e :: es) [] pos) (tCB r t) := by
  intro pins s σ H Q I h
  refine wpAny_Call_Name_kw (ld_blt I hg hm hv ?_ hn hdb)
  exact PyProof.Rows.callWith_type1 (thn (ha pos pins s σ H _ I h) fun us s1 ⟨vs, H1, I1, r1, q1⟩ => hc pins s1 σ H1 vs us Q I1 r1 q1) he hpl
end
end L2

namespace HT
open PySem PyProof.Rows

section
open PySem.SeqAt
open PySem.AutoSeq1 (wpAny_loadPart')
open PySem.MeetsSeq PySem.MeetsSeq2 PySem.MeetsSeq3

end

section
variable {prog : Program} {w : World} {A : Around} {E : Value → Shared → Prop} {s : Shared}

/-- t + u, t not empty -/
theorem cat_tup {t b : Addr} {vs ws : List Value} {Q : Value → Shared → Prop} (ht : IsTup s.heap t vs.toArray) (hb : IsTup s.heap b ws.toArray) (hv : vs ≠ [])
    (h1 : ws = [] → Q (.ref t) s) (h2 : ws ≠ [] → Q (.ref s.heap.objs.size) { s with heap := s.heap.push { cls := .type "tuple", data := .seq (vs ++ ws).toArray } })
    (hsz : vs.length + ws.length ≤ sizeLine) : wpAny (model prog w) A (binaryOp .Add (.ref t) (.ref b)) Q E s := by
  obtain ⟨⟨cls, dd, data, sl⟩, ho, hc, n, hd⟩ := id ht
  obtain ⟨⟨cls2, dd2, data2, sl2⟩, ho2, hc2, n2, hd2⟩ := id hb
  simp only at hc hd hc2 hd2
  subst hc hd hc2 hd2
  have e : vs.toArray ++ ws.toArray = (vs ++ ws).toArray := by simp
  by_cases hw : ws = []
  · exact concat_meets ⟨_, ho, rfl⟩ ⟨_, ho2, rfl⟩ noFill_tuple_add seq_tuple_add PySem.F.slot_tuple_add PySem.F.entry_tuple_add (PySem.F.args_tuple_add_2 _ _)
      (tuple_addW1 t b vs.toArray ws.toArray n n2 dd dd2 sl sl2 (by simpa using hv) (by simp [hw])) ⟨ho, ho2, h1 hw⟩
  · refine concat_meets ⟨_, ho, rfl⟩ ⟨_, ho2, rfl⟩ noFill_tuple_add seq_tuple_add PySem.F.slot_tuple_add PySem.F.entry_tuple_add (PySem.F.args_tuple_add_2 _ _)
      (tuple_addW2 t b vs.toArray ws.toArray n n2 dd dd2 sl sl2 (by simpa using hv) (by simpa using hw) (by rw [List.size_toArray, List.size_toArray]; exact hsz)) ⟨ho, ho2, ?_⟩
    rw [e]
    exact h2 hw

/-! ### t[a:b], not the whole -/
/-- a slice's bound as a place among n (d where it is left out) -/
def sIx (n d : Nat) : Option Int → Nat
  | none => d
  | some v => if v < 0 then (v + (n : Int)).toNat else min v.toNat n
theorem sIx_none (n d : Nat) : sIx n d none = d := rfl
theorem sIx_nat (n d k : Nat) : sIx n d (some (k : Int)) = min k n := by
  show (if (k : Int) < 0 then ((k : Int) + (n : Int)).toNat else min (k : Int).toNat n) = min k n
  rw [if_neg (by omega), Int.toNat_natCast]
theorem sIx_le (n d : Nat) (hd : d ≤ n) (o : Option Int) : sIx n d o ≤ n := by
  cases o with
  | none => exact hd
  | some v =>
    show (if v < 0 then (v + (n : Int)).toNat else min v.toNat n) ≤ n
    by_cases hv : v < 0
    · rw [if_pos hv]; omega
    · rw [if_neg hv]; exact Nat.min_le_right _ _
theorem clip_eq (v : Int) (n d : Nat) : (if v < 0 then max (v + (n : Int)) 0 else min v (n : Int)) = ((sIx n d (some v) : Nat) : Int) := by
  show (if v < 0 then max (v + (n : Int)) 0 else min v (n : Int)) = (((if v < 0 then (v + (n : Int)).toNat else min v.toNat n) : Nat) : Int)
  by_cases hv : v < 0
  · simp only [if_pos hv]; omega
  · simp only [if_neg hv]; omega
theorem adjust_gen (lo hi : Option Int) (n : Nat) : Builtin.Slice.sliceAdjust lo hi 1 (n : Int) = (((sIx n 0 lo : Nat) : Int), ((sIx n n hi : Nat) : Int)) := by
  have h1 : ¬ ((1 : Int) < 0) := by omega
  unfold Builtin.Slice.sliceAdjust
  simp only [h1, if_false]
  refine Prod.ext ?_ ?_
  · cases lo with
    | none => rfl
    | some v => exact clip_eq v n 0
  · cases hi with
    | none => rfl
    | some v => exact clip_eq v n n
theorem places_gen (i j : Nat) : Builtin.Slice.slicePlaces (i : Int) (j : Int) 1 = j - i := by
  unfold Builtin.Slice.slicePlaces
  have h1 : (1 : Int) > 0 := by omega
  simp only [h1, if_true, Int.ediv_one]
  split <;> omega
theorem slicePart_ {v : Value} {o : Option Int} {Q : Option Int → Shared → Prop} (p : IsPart v o) (h : Q o s) : wpAny (model prog w) A (Builtin.Slice.slicePartIndex v) Q E s := by
  cases p with
  | none => exact slicePart_none h
  | int i t => exact slicePart_int h
theorem sliceApplied_gen {sl : Addr} {vl vu : Value} {lo hi : Option Int} {n : Nat} {Q : Int × Int × Nat → Shared → Prop} (hs : s.heap.IsSliceOf sl vl vu .none) (pl : IsPart vl lo) (pu : IsPart vu hi)
    (h : Q (((sIx n 0 lo : Nat) : Int), 1, sIx n n hi - sIx n 0 lo) s) : wpAny (model prog w) A (Builtin.Slice.sliceApplied (.ref sl) (pure (n : Int))) Q E s := by
  obtain ⟨os, hos, hcs, hds⟩ := id hs
  unfold Builtin.Slice.sliceApplied Builtin.Slice.sliceFields
  refine wpAny_bind (wpAny_bind (wpAny_field hos hds (x := vl) rfl (wpAny_bind (wpAny_field hos hds (x := vu) rfl (wpAny_bind (wpAny_field hos hds (x := .none) rfl (wpAny_pure ?_)))))))
  refine wpAny_bind (slicePart_none ?_)
  show wpAny _ _ (if ((1 : Int) == 0) = true then _ else _) _ _ s
  rw [if_neg (by decide)]
  refine wpAny_bind (slicePart_ pl (wpAny_bind (slicePart_ pu (wpAny_bind (wpAny_pure ?_)))))
  show wpAny _ _ (match Builtin.Slice.sliceAdjust lo hi 1 (n : Int) with | (lo, hi) => pure (lo, (1 : Int), Builtin.Slice.slicePlaces lo hi 1)) _ _ s
  rw [adjust_gen lo hi n]
  show wpAny _ _ (pure (((sIx n 0 lo : Nat) : Int), (1 : Int), Builtin.Slice.slicePlaces ((sIx n 0 lo : Nat) : Int) ((sIx n n hi : Nat) : Int) 1)) _ _ s
  rw [places_gen]
  exact wpAny_pure h
theorem pick_gen (xs : Array Value) (i k : Nat) : ((List.range k).filterMap fun (m : Nat) => xs[((i : Int) + (m : Int) * 1).toNat]?).toArray = ((xs.toList.drop i).take k).toArray := by
  have e : (fun (m : Nat) => xs[((i : Int) + (m : Int) * 1).toNat]?) = fun m => xs[i + m]? := by
    funext m
    have : ((i : Int) + (m : Int) * 1).toNat = i + m := by omega
    rw [this]
  rw [e]
  have := pick_run xs i k
  rw [List.filterMap_map] at this
  have e2 : ((fun x => xs[x]?) ∘ fun x => i + x) = fun m => xs[i + m]? := rfl
  rw [e2] at this
  rw [this]

theorem getItem_tuple_cut {t sl : Addr} {items : Array Value} {vl vu : Value} {lo hi : Option Int} {Q : Value → Shared → Prop} (ht : IsTup s.heap t items) (hs : s.heap.IsSliceOf sl vl vu .none) (pl : IsPart vl lo) (pu : IsPart vu hi)
    (hw : ¬ (sIx items.size 0 lo = 0 ∧ sIx items.size items.size hi = items.size))
    (h : Q (.ref s.heap.objs.size) { s with heap := s.heap.push { cls := .type "tuple", data := .seq ((items.toList.drop (sIx items.size 0 lo)).take (sIx items.size items.size hi - sIx items.size 0 lo)).toArray } })
    (hsz : items.size ≤ sizeLine) : wpAny (model prog w) A (getItem (.ref t) (.ref sl)) Q E s := by
  have htake : sizeOk (.seq ((items.toList.drop (sIx items.size 0 lo)).take (sIx items.size items.size hi - sIx items.size 0 lo)).toArray) := by
    show ((items.toList.drop (sIx items.size 0 lo)).take (sIx items.size items.size hi - sIx items.size 0 lo)).toArray.size ≤ sizeLine
    rw [List.size_toArray, List.length_take, List.length_drop, Array.length_toList]
    omega
  have hj : sIx items.size items.size hi ≤ items.size := sIx_le _ _ (Nat.le_refl _) hi
  obtain ⟨os, hos, hcs, hds⟩ := id hs
  have hTs : s.TypeIs (.ref sl) "slice" := ⟨os, hos, hcs⟩
  unfold getItem
  try with_reducible refine wpAny_holding ?_
  first | refine wpAny_bind (wpAny_pure ?_) | skip
  refine wpAny_bind (wpAny_sequenceKey ht.typeIs (by decide) ?_)
  refine wpAny_bind (wpAny_callSpecial?_slot (name := Str.ofString "__getitem__") ht.typeIs PyProof.Rows.slot_tuple_getitem
    (wpAny_call_entry PyProof.Rows.slot_tuple_getitem ht.typeIs entry_tuple_getitem ?_ (args_tuple_getitem _ _)))
  show wpAny _ _ (Builtin.Tuple.tupleItemsOf (.ref t) >>= _) _ _ s
  refine wpAny_bind (tupleItemsOf_ ht ?_)
  refine wpAny_bind (wpAny_typeOf hTs ?_)
  rw [if_pos (by decide)]
  refine wpAny_bind (sliceApplied_gen hs pl pu ?_)
  have hno : ¬ ((((sIx items.size 0 lo : Nat) : Int) == 0 && (1 : Int) == 1 && (sIx items.size items.size hi - sIx items.size 0 lo) == items.size) = true) := by
    intro q
    rw [Bool.and_eq_true, Bool.and_eq_true] at q
    have q1 : ((sIx items.size 0 lo : Nat) : Int) = 0 := eq_of_beq q.1.1
    have q2 : sIx items.size items.size hi - sIx items.size 0 lo = items.size := eq_of_beq q.2
    exact hw ⟨by omega, by omega⟩
  show wpAny _ _ (if (((sIx items.size 0 lo : Nat) : Int) == 0 && (1 : Int) == 1 && (sIx items.size items.size hi - sIx items.size 0 lo) == items.size) = true then _ else _) _ _ s
  rw [if_neg hno, pick_gen]
  first
    | exact wpAny_bind (m := Builtin.Tuple.tupleExact _) (wpAny_newObj_type (wpAny_pure ⟨_, rfl, wpAny_pure h⟩) htake)
    | exact wpAny_bind (m := Builtin.Tuple.tupleExact _) (wpAny_newObj_type (wpAny_bind (wpAny_pure (wpAny_pure ⟨_, rfl, wpAny_pure h⟩))) htake)
    | exact wpAny_bind (wpAny_bind (m := Builtin.Tuple.tupleExact _) (wpAny_newObj_type (wpAny_pure (wpAny_pure ⟨_, rfl, wpAny_pure h⟩)) htake))
    | exact wpAny_bind (wpAny_bind (m := Builtin.Tuple.tupleExact _) (wpAny_newObj_type (wpAny_pure ⟨_, rfl, wpAny_pure h⟩) htake))
end
end HT

namespace L2
open PySem PySem.Spec PyProof.Rows

/-! ### the parts of a slice -/
abbrev TO := St → Hp → (Option Int → Hp → Prop) → Prop
/-- a slice's part (left out, or an int) -/
def PO (X : Cx) (e : Option Expr) (t : TO) : Prop :=
  ∀ (pins : List (Addr × Obj)) (s : Shared) (σ : St) (H : Hp) (Q : Option Int → Hp → Prop), Inv X pins σ H s → t σ H Q →
    wpAny (model X.prog X.w) X.A (evalPart e X.env) (fun u s' => ∃ o H', Inv X pins σ H' s' ∧ IsPart u o ∧ Q o H') X.xe s
def tNoPart : TO := fun _ H Q => Q none H
def tPart (t : TE) : TO := fun σ H Q => t σ H fun x H1 => ∃ i, x = .int i ∧ Q (some i) H1

section
variable {X : Cx} {e : Expr} {te : TE} {lo hi : Option Expr} {tl th : TO} {pos p2 : Pos}

theorem po_none : PO X none tNoPart := by
  intro pins s σ H Q I h
  rw [evalPart_none]
  exact wpAny_pure ⟨none, H, I, .none, h⟩
theorem po_some (h : PE X e te) : PO X (some e) (tPart te) := by
  intro pins s σ H Q I hw
  rw [evalPart_some]
  refine thn (h pins s σ H _ I hw) fun u s1 ⟨x, H1, I1, r1, q1⟩ => ?_
  obtain ⟨i, rfl, q⟩ := q1
  obtain ⟨t, rfl⟩ := r1
  exact ⟨some i, H1, I1, .int i t, q⟩

/-- what a slice of a value is, by values: the slice object stands at sl -/
def SlR (X : Cx) (r : V → Option Int → Option Int → Hp → VK → Prop) : Prop :=
  ∀ (pins : List (Addr × Obj)) (s : Shared) (σ : St) (H : Hp) (x : V) (v vl vu : Value) (lo hi : Option Int) (sl : Addr) (Q : VK), Inv X pins σ H s → RelV x v → s.heap.IsSliceOf sl vl vu .none → IsPart vl lo → IsPart vu hi → r x lo hi H Q →
    ∃ T id, typeLookup (.type T) "__getitem__" = pure (some (.builtin id)) ∧ s.TypeIs v T ∧ wpAny (model X.prog X.w) X.A (getItem v (.ref sl)) (EP X pins σ Q) X.xe s
theorem SlR.or {r r' : V → Option Int → Option Int → Hp → VK → Prop} (h : SlR X r) (h' : SlR X r') : SlR X (fun x lo hi H Q => r x lo hi H Q ∨ r' x lo hi H Q) := by
  intro pins s σ H x v vl vu lo hi sl Q I rx hs pl pu q
  rcases q with q | q
  · exact h pins s σ H x v vl vu lo hi sl Q I rx hs pl pu q
  · exact h' pins s σ H x v vl vu lo hi sl Q I rx hs pl pu q
def tSl (r : V → Option Int → Option Int → Hp → VK → Prop) (te : TE) (tl th : TO) : TE := fun σ H Q => te σ H fun x H1 => tl σ H1 fun l H2 => th σ H2 fun u H3 => r x l u H3 Q
/-- a[lo:hi], any a -/
theorem pe_slice {r : V → Option Int → Option Int → Hp → VK → Prop} (hr : SlR X r) (he : PE X e te) (hl : PO X lo tl) (hu : PO X hi th) : PE X (.Subscript e (.Slice lo hi none p2) pos) (tSl r te tl th) := by
  intro pins s σ H Q I h
  refine Subscript_ (thn (he pins s σ H _ I h) fun v s1 ⟨x, H1, I1, r1, q1⟩ => ?_)
  refine wpAny_Slice (thn (hl pins s1 σ H1 _ I1 q1) fun vl s2 ⟨l, H2, I2, pl, q2⟩ => thn (hu pins s2 σ H2 _ I2 q2) fun vu s3 ⟨u, H3, I3, pu, q3⟩ => ?_)
  rw [evalPart_none]
  refine wpAny_pure ?_
  have I4 : Inv X pins σ H3 { s3 with heap := s3.heap.push { cls := .type "slice", data := .fields #[vl, vu, .none] } } := I3.kept (t' := s3.toks) fun b ob q => Heap.get?_push_of_some _ q
  obtain ⟨T, id, hT, ht, hg⟩ := hr pins { s3 with heap := s3.heap.push { cls := .type "slice", data := .fields #[vl, vu, .none] } } σ H3 x v vl vu l u s3.heap.objs.size Q I4 r1 (Heap.IsSliceOf.new ..) pl pu q3
  show wpAny (model X.prog X.w) X.A (subscriptTail e (.Slice lo hi none p2) v (.ref s3.heap.objs.size)) (EP X pins σ Q) X.xe { s3 with heap := s3.heap.push { cls := .type "slice", data := .fields #[vl, vu, .none] } }
  exact tail_any (ops := [.ref s3.heap.objs.size, v]) ht hT hg (by with_unfolding_all rfl)

/-- the items of xs[lo:hi] -/
def cutV (xs : List V) (lo hi : Option Int) : List V := (xs.drop (HT.sIx xs.length 0 lo)).take (HT.sIx xs.length xs.length hi - HT.sIx xs.length 0 lo)
theorem cutV_length (xs : List V) (lo hi : Option Int) : (cutV xs lo hi).length ≤ xs.length := by
  unfold cutV
  rw [List.length_take, List.length_drop]
  omega
/-- t[lo:hi], not the whole of it (the whole would be t itself) -/
def rSlT (K : PySem.W.Frag) : V → Option Int → Option Int → Hp → VK → Prop := fun x lo hi H Q => ∃ a xs, x = .ref a ∧ SqT K H a xs ∧
  ¬ (HT.sIx xs.length 0 lo = 0 ∧ HT.sIx xs.length xs.length hi = xs.length) ∧ ∀ p, H p = none → Q (.ref p) (upd H p (.tup (cutV xs lo hi)))
theorem sl_tup : SlR X (rSlT X.K) := by
  intro pins s σ H x v vl vu lo hi sl Q I rx hs pl pu h
  obtain ⟨a, xs, rfl, hx, hw, q⟩ := h
  cases rx
  obtain ⟨its, r, ht, hz⟩ := I.tuple hx
  have hlen : its.toArray.size = xs.length := by rw [List.size_toArray]; exact r.length.symm
  refine ⟨"tuple", _, PyProof.Rows.slot_tuple_getitem.lookup, ht.typeIs, ?_⟩
  refine HT.getItem_tuple_cut ht hs pl pu (by rw [hlen]; exact hw) ?_ (by rw [hlen]; exact hz)
  rw [hlen]
  refine ⟨.ref s.heap.objs.size, _, I.laid (t' := s.toks) (o := .tup (cutV xs lo hi)) (fun b ob q => Heap.get?_push_of_some _ q) (Nat.le_refl _) ?_, rfl, q _ (I.hok.fresh (Nat.le_refl _))⟩
  exact ⟨Nat.le_trans (cutV_length xs lo hi) hz, _, (r.drop (HT.sIx xs.length 0 lo)).take (HT.sIx xs.length xs.length hi - HT.sIx xs.length 0 lo), TupD.new _ _⟩

/-- t + u, t not empty: u empty gives t itself -/
def rCatT (K : PySem.W.Frag) : R2 := fun x y H Q => ∃ a b xs ys, x = .ref a ∧ y = .ref b ∧ SqT K H a xs ∧ SqT K H b ys ∧ xs ≠ [] ∧ xs.length + ys.length ≤ sizeLine ∧
  (ys = [] → Q (.ref a) H) ∧ (ys ≠ [] → ∀ p, H p = none → Q (.ref p) (upd H p (.tup (xs ++ ys))))
theorem Vals.nil_iff {xs : List V} {us : List Value} (r : Vals xs us) : us = [] ↔ xs = [] := by
  cases r with
  | nil => simp
  | cons _ _ => simp
theorem op_catT : OpR X (binaryOp .Add) (rCatT X.K) := by
  intro pins s σ H x y v u Q I rx ry h
  obtain ⟨a, b, xs, ys, rfl, rfl, ha, hb, hx, hz, q1, q2⟩ := h
  cases rx
  cases ry
  obtain ⟨its, r1, p1, _⟩ := I.tuple ha
  obtain ⟨its2, r2, p2, _⟩ := I.tuple hb
  refine HT.cat_tup p1 p2 (fun z => hx (r1.nil_iff.mp z)) (fun z => ⟨.ref a, H, I, rfl, q1 (r2.nil_iff.mp z)⟩) (fun z => ?_) (by rw [← r1.length, ← r2.length]; exact hz)
  refine ⟨.ref s.heap.objs.size, _, I.laid (t' := s.toks) (o := .tup (xs ++ ys)) (fun b ob q => Heap.get?_push_of_some _ q) (Nat.le_refl _) ?_, rfl, q2 (fun w => z (r2.nil_iff.mpr w)) _ (I.hok.fresh (Nat.le_refl _))⟩
  exact ⟨by rw [List.length_append]; exact hz, _, r1.append r2, TupD.new _ _⟩
end
end L2

namespace L2
open PySem PySem.Spec PyProof.Rows

/-! ### places -/
/-- the place that an index of any sign means -/
def ixN (n : Nat) (i : Int) : Option Nat := if 0 ≤ i then (if i < n then some i.toNat else none) else if -(n : Int) ≤ i then some (i + n).toNat else none
def atI {α : Type} (xs : List α) (i : Int) : Option α := (ixN xs.length i).bind fun j => xs[j]?
theorem ixN_seq {n : Nat} {i : Int} {j : Nat} (h : ixN n i = some j) : seqIndex? i n = some j ∧ j < n ∧ -(n : Int) ≤ i ∧ i < n := by
  unfold ixN at h
  by_cases h0 : 0 ≤ i
  · rw [if_pos h0] at h
    by_cases h1 : i < n
    · rw [if_pos h1] at h
      have e : i.toNat = j := Option.some.inj h
      exact ⟨by rw [seqIndex_of h0 h1, e], by omega, by omega, h1⟩
    · rw [if_neg h1] at h; cases h
  · rw [if_neg h0] at h
    by_cases h1 : -(n : Int) ≤ i
    · rw [if_pos h1] at h
      have e : (i + n).toNat = j := Option.some.inj h
      exact ⟨by rw [seqIndex_neg (by omega) h1, e], by omega, h1, by omega⟩
    · rw [if_neg h1] at h; cases h
theorem atI_get {α : Type} {xs : List α} {i : Int} {v : α} (h : atI xs i = some v) : ∃ j, seqIndex? i xs.length = some j ∧ xs[j]? = some v ∧ j < xs.length ∧ -(xs.length : Int) ≤ i ∧ i < xs.length := by
  unfold atI at h
  cases e : ixN xs.length i with
  | none => rw [e] at h; cases h
  | some j =>
    rw [e] at h
    obtain ⟨h1, h2, h3, h4⟩ := ixN_seq e
    exact ⟨j, h1, h, h2, h3, h4⟩
theorem atI_nat {α : Type} {xs : List α} {j : Nat} {v : α} (h : xs[j]? = some v) : atI xs (j : Int) = some v := by
  have hj : j < xs.length := (List.getElem?_eq_some_iff.mp h).1
  have e : ixN xs.length (j : Int) = some j := by
    unfold ixN
    rw [if_pos (by omega), if_pos (by omega)]; simp
  unfold atI; rw [e]; exact h
/-! ### what may be subscripted -/
/-- what stands as an index of a plain subscript -/
def PlainIx (b : Expr) : Prop := ∀ o i, subscripted b false o i = operate [o, i] (getItem o i)
/-- a subscript by values -/
def IxR (X : Cx) (r : R2) : Prop :=
  ∀ (value slice : Expr) (pins : List (Addr × Obj)) (s : Shared) (σ : St) (H : Hp) (x y : V) (v u : Value) (Q : VK), Inv X pins σ H s → RelV x v → RelV y u → r x y H Q →
    subscripted slice false v u = operate [v, u] (getItem v u) → wpAny (model X.prog X.w) X.A (subscriptTail value slice v u) (EP X pins σ Q) X.xe s
/-- a call of a builtin's method by values: the receiver, the arguments -/
def MtR (X : Cx) (id : String) (r : V → List V → Hp → VK → Prop) : Prop :=
  ∀ (pins : List (Addr × Obj)) (s : Shared) (σ : St) (H : Hp) (x : V) (xs : List V) (v : Value) (us : List Value) (Q : VK), Inv X pins σ H s → RelV x v → Vals xs us → r x xs H Q →
    wpAny (model X.prog X.w) X.A (call (.builtin id) (v :: us)) (EP X pins σ Q) X.xe s
section
variable {X : Cx} {a b : Expr} {ta tb : TE} {pos : Pos}
theorem IxR.or {r r' : R2} (h : IxR X r) (h' : IxR X r') : IxR X (fun x y H Q => r x y H Q ∨ r' x y H Q) := by
  intro value slice pins s σ H x y v u Q I rx ry q hs
  rcases q with q | q
  · exact h value slice pins s σ H x y v u Q I rx ry q hs
  · exact h' value slice pins s σ H x y v u Q I rx ry q hs
theorem MtR.or {id : String} {r r' : V → List V → Hp → VK → Prop} (h : MtR X id r) (h' : MtR X id r') : MtR X id (fun x xs H Q => r x xs H Q ∨ r' x xs H Q) := by
  intro pins s σ H x xs v us Q I rx rs q
  rcases q with q | q
  · exact h pins s σ H x xs v us Q I rx rs q
  · exact h' pins s σ H x xs v us Q I rx rs q
/-- a[b] -/
theorem pe_ix {r : R2} (hr : IxR X r) (ha : PE X a ta) (hb : PE X b tb) (hs : PlainIx b) : PE X (.Subscript a b pos) (tOp r ta tb) := by
  intro pins s σ H Q I h
  exact Subscript_ (binT ha hb I h fun v u s2 x y H2 I2 rx ry q => hr a b pins s2 σ H2 x y v u Q I2 rx ry q (hs _ _))

def rIxL (K : PySem.W.Frag) : R2 := fun x y H Q => ∃ p xs i v, x = .ref p ∧ y = .int i ∧ SqL K H p xs ∧ atI xs i = some v ∧ Q v H
def rIxT (K : PySem.W.Frag) : R2 := fun x y H Q => ∃ p xs i v, x = .ref p ∧ y = .int i ∧ SqT K H p xs ∧ atI xs i = some v ∧ Q v H
def rIxS : R2 := fun x y H Q => ∃ z i c, x = .str z ∧ y = .int i ∧ z.length ≤ sizeLine ∧ atI z.cps.toList i = some c ∧ Q (.str ⟨#[c]⟩) H
theorem ix_list : IxR X (rIxL X.K) := by
  intro value slice pins s σ H x y v u Q I rx ry h hs
  obtain ⟨p, xs, i, z, rfl, rfl, hq, he, q⟩ := h
  cases rx
  obtain ⟨t, rfl⟩ := ry
  obtain ⟨its, r, pl, hz⟩ := I.list hq
  obtain ⟨j, h1, h2, h3, h4, h5⟩ := atI_get he
  obtain ⟨w, ew, rw'⟩ := r.get h2
  have hl := r.length
  have hn := line63
  have fin : EP X pins σ Q w s := ⟨z, H, I, rw', q⟩
  by_cases h0 : 0 ≤ i
  · have hj : i.toNat = j := by
      rw [seqIndex_of h0 h5] at h1
      exact Option.some.inj h1
    exact item_listR pl.isList h0 (by omega) (by rw [hj]; simpa using ew) fin hs
  · have hj : (i + (its.toArray.size : Int)).toNat = j := by
      rw [seqIndex_neg (by omega) h4] at h1
      rw [List.size_toArray, ← hl]
      exact Option.some.inj h1
    exact subscriptTail_builtinR (x := w) pl.isList.typeIs slot_list_getitem.lookup
      (wpAny_getItem_list_neg (Q := fun r s' => r = w ∧ EP X pins σ Q r s') pl.isList (by omega) (by rw [List.size_toArray] <;> omega) (by omega) (by rw [hj]; simpa using ew) ⟨rfl, fin⟩) hs
theorem ix_tup : IxR X (rIxT X.K) := by
  intro value slice pins s σ H x y v u Q I rx ry h hs
  obtain ⟨p, xs, i, z, rfl, rfl, hq, he, q⟩ := h
  cases rx
  obtain ⟨t, rfl⟩ := ry
  obtain ⟨its, r, pl, hz⟩ := I.tuple hq
  obtain ⟨j, h1, h2, h3, h4, h5⟩ := atI_get he
  obtain ⟨w, ew, rw'⟩ := r.get h2
  have hl := r.length
  have hn := line63
  have fin : EP X pins σ Q w s := ⟨z, H, I, rw', q⟩
  exact subscriptTail_builtinR (x := w) pl.typeIs slot_tuple_getitem.lookup
    (getItem_tuple (j := j) (Q := fun r s' => r = w ∧ EP X pins σ Q r s') pl (by omega) (by omega) (by rw [List.size_toArray, ← hl]; exact h1) (by simpa using ew) ⟨rfl, fin⟩) hs
theorem ix_str : IxR X rIxS := by
  intro value slice pins s σ H x y v u Q I rx ry h hs
  obtain ⟨z, i, c, rfl, rfl, hz, he, q⟩ := h
  obtain ⟨t, rfl⟩ := rx
  obtain ⟨t', rfl⟩ := ry
  obtain ⟨j, h1, h2, h3, h4, h5⟩ := atI_get he
  have hl : z.cps.toList.length = z.length := by simp [Str.length]
  rw [hl] at h1 h4 h5
  have hn := line63
  exact tail_any (typeIs_str s z t) slot_str_getitem.lookup (getItem_str (c := c) (by
    have e1 : decide (i < -(2 ^ 63 : Int)) = false := decide_eq_false (by omega)
    have e2 : decide (i ≥ 2 ^ 63) = false := decide_eq_false (by omega)
    rw [e1, e2, Bool.or_false]) (by rw [h1]; simpa using h2) ⟨.str ⟨#[c]⟩, H, I.tok _, ⟨_, rfl⟩, q⟩) hs
/-- list, tuple or str -/
def rIx (K : PySem.W.Frag) : R2 := fun x y H Q => rIxL K x y H Q ∨ rIxT K x y H Q ∨ rIxS x y H Q
theorem ix_seq : IxR X (rIx X.K) := ix_list.or (ix_tup.or ix_str)

/-! ### xs[i] = v, any sign -/
theorem Inv.lst {pins : List (Addr × Obj)} {σ : St} {H : Hp} {s : Shared} {p : Addr} {xs : List V} (I : Inv X pins σ H s) (h : H p = some (.lst xs)) :
    ∃ (its : List Value) (n : Nat), Vals xs its ∧ s.heap.get? p = some { cls := .type "list", data := .seq its.toArray n } ∧ xs.length ≤ sizeLine := by
  obtain ⟨z, its, n, r, e⟩ := I.hok p _ h
  exact ⟨its, n, r, e, z⟩
/-! ### slices -/
theorem slice_bounds (lo hi : Option Int) (n : Nat) : (sliceBounds lo hi none n).1 = ((HT.sIx n 0 lo : Nat) : Int) ∧ (sliceBounds lo hi none n).2.1 = ((HT.sIx n n hi : Nat) : Int) ∧ (sliceBounds lo hi none n).2.2 = 1 := by
  refine ⟨?_, ?_, rfl⟩
  · cases lo with
    | none => simp [sliceBounds, HT.sIx]
    | some i =>
      simp only [sliceBounds, HT.sIx, Option.getD_none, show (1 : Int) > 0 by decide, if_true]
      by_cases h : i < 0
      · simp only [h, if_true] <;> omega
      · simp only [h, if_false] <;> omega
  · cases hi with
    | none => simp [sliceBounds, HT.sIx]
    | some i =>
      simp only [sliceBounds, HT.sIx, Option.getD_none, show (1 : Int) > 0 by decide, if_true]
      by_cases h : i < 0
      · simp only [h, if_true] <;> omega
      · simp only [h, if_false] <;> omega
theorem slicePick_cut (its : List Value) (lo hi : Option Int) : slicePick its.toArray lo hi none = ((its.drop (HT.sIx its.length 0 lo)).take (HT.sIx its.length its.length hi - HT.sIx its.length 0 lo)).toArray := by
  obtain ⟨h1, h2, h3⟩ := slice_bounds lo hi its.toArray.size
  unfold slicePick
  rw [h1, h2, h3]
  simp only [sliceRange_one, pick_run, List.size_toArray] <;> rfl
/-- xs[lo:hi] of a list: a new list -/
def rSlL (K : PySem.W.Frag) : V → Option Int → Option Int → Hp → VK → Prop := fun x lo hi H Q => ∃ a xs, x = .ref a ∧ SqL K H a xs ∧ ∀ p, H p = none → Q (.ref p) (upd H p (.lst (cutV xs lo hi)))
theorem sl_list : SlR X (rSlL X.K) := by
  intro pins s σ H x v vl vu lo hi sl Q I rx hs pl pu h
  obtain ⟨a, xs, rfl, hx, q⟩ := h
  cases rx
  obtain ⟨its, r, ht, hz⟩ := I.list hx
  have hlen := r.length
  refine ⟨"list", _, slot_list_getitem.lookup, ht.isList.typeIs, ?_⟩
  refine wpAny_getItem_list_slice ht.isList hs pl pu .none (by simp) ?_ (by rw [List.size_toArray] <;> omega)
  rw [slicePick_cut, ← hlen]
  refine ⟨.ref s.heap.objs.size, _, I.laid (t' := s.toks) (o := .lst (cutV xs lo hi)) (fun b ob q => Heap.get?_push_of_some _ q) (Nat.le_refl _) ?_, rfl, q _ (I.hok.fresh (Nat.le_refl _))⟩
  exact ⟨Nat.le_trans (cutV_length xs lo hi) hz, _, 0, (r.drop (HT.sIx xs.length 0 lo)).take (HT.sIx xs.length xs.length hi - HT.sIx xs.length 0 lo), Heap.get?_push_size _ rfl⟩

/-! ### in, not in: flat items -/
def flatV : V → Bool
  | .non => true
  | .bl _ => true
  | .int _ => true
  | .str _ => true
  | _ => false
/-- == of flat values -/
def eqV : V → V → Bool
  | .non, .non => true
  | .bl a, .bl b => a == b
  | .bl a, .int b => (if a then 1 else 0) == b
  | .int a, .bl b => a == (if b then 1 else 0)
  | .int a, .int b => a == b
  | .str a, .str b => a == b
  | _, _ => false
theorem eqAt_V {A : Around} {s : Shared} {y x : V} {u v : Value} (ry : RelV y u) (rx : RelV x v) (fy : flatV y = true) (fx : flatV x = true) : SeqAt.EqAt A s u v (eqV y x) := by
  cases y with
  | non =>
    cases ry
    cases x with
    | non => cases rx; exact SeqAt.EqAt.same _
    | bl b => cases rx; exact SeqAt.EqAt.none_bool b
    | int b => obtain ⟨t, rfl⟩ := rx; exact SeqAt.EqAt.none_int b t
    | str b => obtain ⟨t, rfl⟩ := rx; exact SeqAt.EqAt.none_str b t
    | _ => exact absurd (show false = true from fx) Bool.false_ne_true
  | bl a =>
    cases ry
    cases x with
    | non => cases rx; exact SeqAt.EqAt.bool_none a
    | bl b => cases rx; exact SeqAt.EqAt.bool_bool a b
    | int b => obtain ⟨t, rfl⟩ := rx; exact SeqAt.EqAt.bool_int a b t
    | str b => obtain ⟨t, rfl⟩ := rx; exact SeqAt.EqAt.bool_str a b t
    | _ => exact absurd (show false = true from fx) Bool.false_ne_true
  | int a =>
    obtain ⟨t', rfl⟩ := ry
    cases x with
    | non => cases rx; exact SeqAt.EqAt.int_none a t'
    | bl b => cases rx; exact SeqAt.EqAt.int_bool a t' b
    | int b => obtain ⟨t, rfl⟩ := rx; exact SeqAt.EqAt.int_int a t' b t
    | str b => obtain ⟨t, rfl⟩ := rx; exact SeqAt.EqAt.int_str a t' b t
    | _ => exact absurd (show false = true from fx) Bool.false_ne_true
  | str a =>
    obtain ⟨t', rfl⟩ := ry
    cases x with
    | non => cases rx; exact SeqAt.EqAt.str_none a t'
    | bl b => cases rx; exact SeqAt.EqAt.str_bool a t' b
    | int b => obtain ⟨t, rfl⟩ := rx; exact SeqAt.EqAt.str_int a t' b t
    | str b => obtain ⟨t, rfl⟩ := rx; exact SeqAt.EqAt.str_str a t' b t
    | _ => exact absurd (show false = true from fx) Bool.false_ne_true
  | _ => exact absurd (show false = true from fy) Bool.false_ne_true
/-- the items' answers, read off the values (a value's own answer does not lean on its token) -/
def eqU (x : V) (u : Value) : Bool := match u with
  | .none => eqV .non x
  | .bool b => eqV (.bl b) x
  | .int i _ => eqV (.int i) x
  | .str z _ => eqV (.str z) x
  | _ => false
theorem eqU_of {x y : V} {u : Value} (r : RelV y u) (f : flatV y = true) : eqU x u = eqV y x := by
  cases y with
  | non => cases r; rfl
  | bl b => cases r; rfl
  | int i => obtain ⟨t, rfl⟩ := r; rfl
  | str z => obtain ⟨t, rfl⟩ := r; rfl
  | _ => exact absurd (show false = true from f) Bool.false_ne_true
theorem any_eqU {x : V} : ∀ {xs : List V} {us : List Value}, Vals xs us → xs.all flatV = true → us.any (eqU x) = xs.any fun y => eqV y x
  | _, _, .nil, _ => rfl
  | y :: xs, u :: us, .cons r t, f => by
    rw [List.all_cons, Bool.and_eq_true] at f
    rw [List.any_cons, List.any_cons, eqU_of r f.1, any_eqU t f.2]
theorem mem_eqAt {A : Around} {s : Shared} {x : V} {v : Value} (rx : RelV x v) (fx : flatV x = true) : ∀ {xs : List V} {us : List Value}, Vals xs us → xs.all flatV = true → ∀ u ∈ us, SeqAt.EqAt A s u v (eqU x u)
  | _, _, .nil, _ => fun u hu => by cases hu
  | y :: xs, u :: us, .cons r t, f => fun u' hu => by
    rw [List.all_cons, Bool.and_eq_true] at f
    rcases List.mem_cons.mp hu with rfl | hu
    · rw [eqU_of r f.1]; exact eqAt_V r rx f.1 fx
    · exact mem_eqAt rx fx t f.2 u' hu
def inV (x : V) (xs : List V) : Bool := xs.any fun y => eqV y x
/-- x in a list or tuple of flat items -/
def rIn (K : PySem.W.Frag) (neg : Bool) : R2 := fun x y H Q => ∃ p xs, y = .ref p ∧ (SqL K H p xs ∨ SqT K H p xs) ∧ flatV x = true ∧ xs.all flatV = true ∧ Q (.bl (if neg then !inV x xs else inV x xs)) H
theorem op_in_seq : OpR X (compareOp .In) (rIn X.K false) := by
  intro pins s σ H x y v u Q I rx ry h
  obtain ⟨p, xs, rfl, hq, fx, fs, q⟩ := h
  cases ry
  rcases hq with hq | hq
  · obtain ⟨its, r, pl, hz⟩ := I.list hq
    refine SeqAt.in_listAt (eqU x) pl.isList (fun w hw => mem_eqAt rx fx r fs w (by simpa using hw)) ⟨.bl _, H, I, rfl, ?_⟩
    rw [show its.toArray.any (eqU x) = its.any (eqU x) by simp, any_eqU r fs]
    exact q
  · obtain ⟨its, r, pl, hz⟩ := I.tuple hq
    refine SeqAt.in_tupleAt (eqU x) pl (fun w hw => mem_eqAt rx fx r fs w (by simpa using hw)) ⟨.bl _, H, I, rfl, ?_⟩
    rw [show its.toArray.any (eqU x) = its.any (eqU x) by simp, any_eqU r fs]
    exact q
theorem op_notIn_seq : OpR X (compareOp .NotIn) (rIn X.K true) := by
  intro pins s σ H x y v u Q I rx ry h
  obtain ⟨p, xs, rfl, hq, fx, fs, q⟩ := h
  cases ry
  rcases hq with hq | hq
  · obtain ⟨its, r, pl, hz⟩ := I.list hq
    refine SeqAt.notIn_listAt (eqU x) pl.isList (fun w hw => mem_eqAt rx fx r fs w (by simpa using hw)) ⟨.bl _, H, I, rfl, ?_⟩
    rw [show its.toArray.any (eqU x) = its.any (eqU x) by simp, any_eqU r fs]
    exact q
  · obtain ⟨its, r, pl, hz⟩ := I.tuple hq
    refine SeqAt.notIn_tupleAt (eqU x) pl (fun w hw => mem_eqAt rx fx r fs w (by simpa using hw)) ⟨.bl _, H, I, rfl, ?_⟩
    rw [show its.toArray.any (eqU x) = its.any (eqU x) by simp, any_eqU r fs]
    exact q
/-! ### len, list(x), tuple(x) of any list or tuple that is read -/
theorem call_len_seq : CallR X (.builtin "len") (fun xs H Q => ∃ p ys, xs = [.ref p] ∧ (SqL X.K H p ys ∨ SqT X.K H p ys) ∧ Q (.int ys.length) H) := by
  intro pins s σ H xs us Q I r h
  obtain ⟨p, ys, rfl, hq, q⟩ := h
  obtain ⟨u, rfl, rx⟩ := vals1 r
  cases rx
  have hn := line63
  rcases hq with hq | hq
  · obtain ⟨its, r', pl, hz⟩ := I.list hq
    have hlen := r'.length
    exact Calls.call_len_list pl.isList (by simp only [List.size_toArray] <;> omega) ⟨.int ys.length, H, I.tok _, ⟨s.toks + 1, by rw [List.size_toArray, hlen]⟩, q⟩
  · obtain ⟨its, r', pl, hz⟩ := I.tuple hq
    have hlen := r'.length
    exact len_tuple pl (by simp only [List.size_toArray] <;> omega) ⟨.int ys.length, H, I.tok _, ⟨s.toks + 1, by rw [List.size_toArray, hlen]⟩, q⟩
theorem CallR.or {f : Value} {r r' : List V → Hp → VK → Prop} (h : CallR X f r) (h' : CallR X f r') : CallR X f (fun xs H Q => r xs H Q ∨ r' xs H Q) := by
  intro pins s σ H xs us Q I rs q
  rcases q with q | q
  · exact h pins s σ H xs us Q I rs q
  · exact h' pins s σ H xs us Q I rs q
theorem call_list_of : CallR X (.type "list") (fun xs H Q => ∃ p ys, xs = [.ref p] ∧ (SqL X.K H p ys ∨ SqT X.K H p ys) ∧ ∀ l, H l = none → Q (.ref l) (upd H l (.lst ys))) := by
  intro pins s σ H xs us Q I r h
  obtain ⟨p, ys, rfl, hq, q⟩ := h
  obtain ⟨u, rfl, rx⟩ := vals1 r
  cases rx
  have fin : ∀ (its : List Value), Vals ys its → ys.length ≤ sizeLine → ∀ (h' : Heap) (c' : Nat), (∀ b o', s.heap.get? b = some o' → h'.get? b = some o') →
      h'.get? s.heap.objs.size = some { cls := .type "list", dict := none, data := .seq its.toArray c', slots := #[] } → EP X pins σ Q (.ref s.heap.objs.size) { s with heap := h' } := fun its r' hz h' c' kp e =>
    ⟨.ref s.heap.objs.size, _, I.laid (t' := s.toks) kp (Nat.le_refl _) (show ObjOk X.prog X.w _ h' _ (.lst ys) from ⟨hz, its, c', r', e⟩), rfl, q _ (I.hok.fresh (Nat.le_refl _))⟩
  rcases hq with hq | hq
  · obtain ⟨its, r', pl, hz⟩ := I.list hq
    have hlen := r'.length
    obtain ⟨o, ho, hc, n, hd⟩ := pl.isList
    exact call_list_seq p (.inl rfl) ho hc hd (fun h' c' kp e => fin its r' hz h' c' kp e) (by simp only [List.size_toArray] <;> omega)
  · obtain ⟨its, r', pl, hz⟩ := I.tuple hq
    have hlen := r'.length
    obtain ⟨o, ho, hc, n, hd⟩ := pl
    exact call_list_seq p (.inr rfl) ho hc hd (fun h' c' kp e => fin its r' hz h' c' kp e) (by simp only [List.size_toArray] <;> omega)
theorem call_tuple_of : CallR X (.type "tuple") (fun xs H Q => ∃ p ys, xs = [.ref p] ∧ ((SqL X.K H p ys ∧ ∀ l, H l = none → Q (.ref l) (upd H l (.tup ys))) ∨ (SqT X.K H p ys ∧ Q (.ref p) H))) := by
  intro pins s σ H xs us Q I r h
  obtain ⟨p, ys, rfl, h⟩ := h
  obtain ⟨u, rfl, rx⟩ := vals1 r
  cases rx
  rcases h with ⟨hq, q⟩ | ⟨hq, q⟩
  · obtain ⟨its, r', pl, hz⟩ := I.list hq
    have hlen := r'.length
    refine call_tuple_list pl.isList (fun h' kp => ?_) (by simp only [List.size_toArray] <;> omega)
    have I1 : Inv X pins σ H { s with heap := h' } := I.kept (t' := s.toks) kp
    have I2 : Inv X pins σ (upd H h'.objs.size (.tup ys)) { s with heap := h'.push { cls := .type "tuple", data := .seq its.toArray } } :=
      I1.laid (t' := s.toks) (fun b o e => Heap.get?_push_of_some _ e) (Nat.le_refl _) (show ObjOk X.prog X.w _ _ _ (.tup ys) from ⟨hz, its, r', TupD.new _ _⟩)
    exact ⟨.ref h'.objs.size, _, I2, rfl, q _ (I1.hok.fresh (Nat.le_refl _))⟩
  · obtain ⟨its, r', pl, hz⟩ := I.tuple hq
    exact call_tuple_same pl ⟨.ref p, H, I, rfl, q⟩

/-! ### the call of a builtin's method: o.m(..) -/
/-- the value is of that builtin type -/
def tyV (K : PySem.W.Frag) (T : String) (x : V) (H : Hp) : Prop := match x with
  | .str _ => T = "str"
  | .int _ => T = "int"
  | .ref p => (T = "list" ∧ ∃ xs, SqL K H p xs) ∨ (T = "tuple" ∧ ∃ o, K.lookup p = some o ∧ o.cls = .type "tuple" ∧ o.dict = none) ∨
      (T = "dict" ∧ ((∃ kvs, H p = some (.dK kvs)) ∨ ∃ kvs, H p = some (.dT kvs))) ∨ (T = "set" ∧ ∃ S n, H p = some (.set S n))
  | _ => False
theorem tyV_is {pins : List (Addr × Obj)} {σ : St} {H : Hp} {s : Shared} {T : String} {x : V} {v : Value} (I : Inv X pins σ H s) (r : RelV x v) (ty : tyV X.K T x H) :
    s.TypeIs v T ∧ ∀ a, v = .ref a → ∃ ob, s.heap.get? a = some ob ∧ ob.dict = none := by
  cases x with
  | str z =>
    obtain ⟨t, rfl⟩ := r
    cases (show T = "str" from ty)
    exact ⟨typeIs_str s z t, fun _ e => nomatch e⟩
  | int i =>
    obtain ⟨t, rfl⟩ := r
    cases (show T = "int" from ty)
    exact ⟨typeIs_int s i t, fun _ e => nomatch e⟩
  | ref p =>
    cases r
    rcases ty with ⟨rfl, xs, hq⟩ | ⟨rfl, o, hk, hc, hd⟩ | ⟨rfl, hk⟩ | ⟨rfl, S, n, hk⟩
    · obtain ⟨its, _, pl, _⟩ := I.list hq
      refine ⟨pl.isList.typeIs, fun a e => ?_⟩
      cases e
      obtain ⟨o, n, e, c, hd, _⟩ := pl
      exact ⟨o, e, hd⟩
    · refine ⟨⟨o, I.kIn p o hk, hc⟩, fun a e => ?_⟩
      cases e
      exact ⟨o, I.kIn _ o hk, hd⟩
    · have z : ∃ o, s.heap.get? p = some o ∧ o.ExactDict := by
        rcases hk with ⟨kvs, hk⟩ | ⟨kvs, hk⟩
        · obtain ⟨_, _, _, _, o, _, _, e, ex, _⟩ := I.hok p _ hk
          exact ⟨o, e, ex⟩
        · obtain ⟨_, _, _, _, o, _, _, e, ex, _⟩ := I.hok p _ hk
          exact ⟨o, e, ex⟩
      obtain ⟨o, e, ex⟩ := z
      refine ⟨⟨o, e, ex.1⟩, fun a e2 => ?_⟩
      cases e2
      exact ⟨o, e, ex.2.1⟩
    · obtain ⟨⟨o, _, _, _, e, ex, _⟩, _⟩ := I.hok p _ hk
      refine ⟨⟨o, e, ex.1⟩, fun a e2 => ?_⟩
      cases e2
      exact ⟨o, e, ex.2.1⟩
  | _ => exact False.elim ty
def tBM (K : PySem.W.Frag) (T : String) (r : V → List V → Hp → VK → Prop) (to : TE) (t : TA) : TE := fun σ H Q => to σ H fun x H1 => tyV K T x H1 ∧ t σ H1 fun xs H2 => r x xs H2 Q
variable {o e : Expr} {es : List Expr} {to : TE} {t : TA} {name : Str} {apos cpos : Pos} {T id : String} {r : V → List V → Hp → VK → Prop}
theorem pe_bm (pa : PlainAttrs T) (slot : Slot T name id) (hty : typeOf (.builtin id) = pure (.type "method_descriptor")) (hm : MtR X id r) (ho : PE X o to) (ha : PA X (e :: es) t)
    (hbase : attributeBase o name X.env (eval o X.env) = eval o X.env := by rfl)
    (hfew : ((backTo cpos (starEach (e :: es) X.env)).all (fun x => !x.1) && (backToKw cpos (keywordEach [] X.env)).all (fun x => x.1.isSome)
      && decide ((e :: es).length + ([] : List Keyword).length + (if ([] : List Keyword).isEmpty then 0 else 1) < 30)) = true := by rfl)
    (hline : (apos.endLine == cpos.line) = true := by rfl) (hs : starEach (e :: es) X.env = (false, eval e X.env) :: starEach es X.env := by rfl) (hplain : (backTo cpos (starEach es X.env)).any (·.1) = false := by rfl) :
    PE X (.Call (.Attribute o name apos) (e :: es) [] cpos) (tBM X.K T r to t) := by
  intro pins s σ H Q I h
  refine wpAny_Call_method_late hbase hfew hline rfl (thn (ho pins s σ H _ I h) fun v s1 ⟨x, H1, I1, r1, ty, q1⟩ => ?_)
  obtain ⟨h1, h2⟩ := tyV_is I1 r1 ty
  refine ⟨T, id, pa, slot, hty, h1, h2, ?_⟩
  have hA := ha cpos pins s1 σ H1 _ I1 q1
  rw [hs] at hA ⊢
  refine Calls.callWith_builtin (by show (false || (backTo cpos (starEach es X.env)).any (·.1)) = false; rw [hplain] <;> rfl) (Calls.evalArgs_plain ?_)
  exact thn hA fun us s2 ⟨vs, H2, I2, r2, q2⟩ => hm pins s2 σ H2 x vs v us Q I2 r1 r2 q2
/- xs.append(e), list.index on a module's tuple .. are MtR facts of 06m -/
end
end L2

namespace L2
open PySem PySem.Spec PyProof.Rows

def MtM (X : Cx) (id : String) (r : V → List V → Hp → VK → Prop) : Prop :=
  ∀ (pins : List (Addr × Obj)) (s : Shared) (σ : St) (H : Hp) (x : V) (xs : List V) (v : Value) (us : List Value) (Q : VK), Inv X pins σ H s → RelV x v → Vals xs us → r x xs H Q →
    wpAny (model X.prog X.w) X.A (call (.builtin id) (v :: us)) (EP X pins σ Q) X.xe s

/-! ### lists of values -/
theorem Vals.one : ∀ {x : V} {us : List Value}, Vals [x] us → ∃ u, us = [u] ∧ RelV x u
  | _, _, .cons r .nil => ⟨_, rfl, r⟩
theorem Vals.two : ∀ {x y : V} {us : List Value}, Vals [x, y] us → ∃ u v, us = [u, v] ∧ RelV x u ∧ RelV y v
  | _, _, _, .cons r (.cons q .nil) => ⟨_, _, rfl, r, q⟩
theorem Vals.zero : ∀ {us : List Value}, Vals [] us → us = []
  | _, .nil => rfl
theorem Vals.eraseIdx : ∀ {xs : List V} {us : List Value} (i : Nat), Vals xs us → Vals (xs.eraseIdx i) (us.eraseIdx i)
  | _, _, _, .nil => .nil
  | _, _, 0, .cons _ t => t
  | _, _, i + 1, .cons r t => .cons r (Vals.eraseIdx i t)
theorem Vals.reverse {xs : List V} {us : List Value} (h : Vals xs us) : Vals xs.reverse us.reverse := by
  induction h with
  | nil => exact .nil
  | cons r t ih => rw [List.reverse_cons, List.reverse_cons]; exact Vals.append ih (.cons r .nil)
section
variable {X : Cx} {pins : List (Addr × Obj)} {σ : St} {H : Hp} {s : Shared} {l b : Addr} {xs ys zs : List V}

/-! ### the two steps: a tracked list is rewritten, a new list is laid -/
theorem Inv.lset {its its' : List Value} {n : Nat} {f : Array Value → Array Value} {t' : Nat} (I : Inv X pins σ H s) (hH : H l = some (.lst xs))
    (e : s.heap.get? l = some { cls := .type "list", data := .seq its.toArray n }) (hf : f its.toArray = its'.toArray) (hv : Vals ys its') (hz : ys.length ≤ sizeLine) :
    Inv X pins σ (upd H l (.lst ys)) { s with heap := s.heap.update l (Obj.mapSeq f), toks := t' } := by
  have q := PySem.IsL.update e f
  rw [hf] at q
  refine I.write (x := l) (e := l) (by rw [hH]; exact trivial) (.inl rfl) (fun b' u hb hu => (Heap.get?_update_other s.heap (Obj.mapSeq f) (Ne.symm hb)).trans hu) ⟨_, q⟩ ?_
  exact ⟨hz, its', _, hv, q⟩
theorem Inv.lnew {its : List Value} {t' : Nat} (I : Inv X pins σ H s) (hv : Vals ys its) (hz : ys.length ≤ sizeLine) :
    Inv X pins σ (upd H s.heap.objs.size (.lst ys)) { s with heap := s.heap.push { cls := .type "list", data := .seq its.toArray }, toks := t' } :=
  I.laid (fun _ _ q => Heap.get?_push_of_some _ q) (Nat.le_refl _) ⟨hz, its, 0, hv, Heap.get?_push_size _ rfl⟩
theorem Inv.fresh (I : Inv X pins σ H s) : H s.heap.objs.size = none := I.hok.fresh (Nat.le_refl _)
theorem Inv.lstM (I : Inv X pins σ H s) (hH : H l = some (.lst xs)) : xs.length ≤ sizeLine ∧ ∃ (its : List Value) (n : Nat), Vals xs its ∧ xs.length = its.length ∧ s.heap.get? l = some { cls := .type "list", data := .seq its.toArray n } := by
  obtain ⟨z, its, n, r, e⟩ := I.hok l _ hH
  exact ⟨z, its, n, r, r.length, e⟩

theorem notLongL {n : Nat} (h : n ≤ sizeLine) : Builtin.List.listTooLong n = false := by
  unfold Builtin.List.listTooLong
  exact decide_eq_false (by omega)
end

section
variable {X : Cx}

/-! ### methods -/
def rAppend : V → List V → Hp → VK → Prop := fun x vs H Q => ∃ l xs y, x = .ref l ∧ vs = [y] ∧ H l = some (.lst xs) ∧ xs.length < sizeLine ∧ Q .non (upd H l (.lst (xs ++ [y])))
theorem mt_append : MtM X "list.append" rAppend := by
  intro pins s σ H x vs v us Q I rx rv h
  obtain ⟨l, xs, y, rfl, rfl, hH, hz, q⟩ := h
  cases rx
  obtain ⟨u, rfl, ru⟩ := rv.one
  obtain ⟨z, its, n, r, hl, e⟩ := I.lstM hH
  refine call_meets F.slot_list_append ⟨_, e, rfl⟩ F.entry_list_append (F.args_list_append_2 _ _) (PySem.list_append l its.toArray n u (by rw [List.size_toArray]; omega)) ⟨e, ?_⟩
  refine ⟨.non, _, I.lset (its' := its ++ [u]) hH e (by simp) (r.append (.cons ru .nil)) ?_, rfl, q⟩
  rw [List.length_append, List.length_singleton]
  omega

end

/-! ### xs[a:b] = ys -/
section
variable {prog : Program} {w : World} {A : Around} {E : Value → Shared → Prop} {s : Shared}
set_option maxRecDepth 100000 in
end

section
variable {X : Cx}
end
end L2

namespace L2
open PySem PySem.Spec PyProof.Rows

/-! ### lists of pairs as tables -/
section
variable {κ : Type} [DecidableEq κ]
def valV (kvs : List (κ × V)) (k : κ) : Option V := (kvs.find? fun kv => decide (kv.1 = k)).map (·.2)
/-- in its place, or at the end -/
def putK (kvs : List (κ × V)) (k : κ) (v : V) : List (κ × V) :=
  if (kvs.any fun kv => decide (kv.1 = k)) = true then kvs.map (fun kv => if kv.1 = k then (kv.1, v) else kv) else kvs ++ [(k, v)]
def dropK (kvs : List (κ × V)) (k : κ) : List (κ × V) := kvs.filter fun kv => decide (kv.1 ≠ k)

theorem valV_pos {p : κ × V} {r : List (κ × V)} {k : κ} (e : p.1 = k) : valV (p :: r) k = some p.2 := by simp [valV, List.find?_cons, e]
theorem valV_neg {p : κ × V} {r : List (κ × V)} {k : κ} (e : ¬ p.1 = k) : valV (p :: r) k = valV r k := by simp [valV, List.find?_cons, e]
theorem valV_any (k : κ) : ∀ kvs : List (κ × V), (kvs.any fun kv => decide (kv.1 = k)) = (valV kvs k).isSome
  | [] => rfl
  | p :: r => by
    rw [List.any_cons]
    by_cases e : p.1 = k
    · simp only [valV_pos e, decide_eq_true e, Bool.true_or, Option.isSome_some]
    · rw [valV_neg e, decide_eq_false e, Bool.false_or]; exact valV_any k r
theorem length_putK (kvs : List (κ × V)) (k : κ) (v : V) : (putK kvs k v).length ≤ kvs.length + 1 := by
  unfold putK
  split
  · rw [List.length_map]; omega
  · rw [List.length_append, List.length_cons, List.length_nil]; omega
theorem RelO.isSome_eq {o : Option V} {u : Option Value} (r : RelO o u) : o.isSome = u.isSome := by
  cases o with
  | none => cases u with
    | none => rfl
    | some _ => exact (show False from r).elim
  | some _ => cases u with
    | none => exact (show False from r).elim
    | some _ => rfl
theorem RelO.getD {o : Option V} {u : Option Value} {d : V} {d' : Value} (r : RelO o u) (rd : RelV d d') : RelV (o.getD d) (u.getD d') := by
  cases o with
  | none => cases u with
    | none => exact rd
    | some _ => exact (show False from r).elim
  | some _ => cases u with
    | none => exact (show False from r).elim
    | some _ => exact r

/-- raw tables of the same keys -/
theorem KV.val {kvs : List (κ × V)} {vs : List (κ × Value)} (r : KV kvs vs) (k : κ) : RelO (valV kvs k) (valueAt vs k) := by
  unfold KV at r
  induction r with
  | nil => exact True.intro
  | @cons p q ps qs h t ih =>
    obtain ⟨h1, h2⟩ := h
    by_cases e : p.1 = k
    · have e' : q.1 = k := h1.symm.trans e
      have b : valueAt (q :: qs) k = some q.2 := by simp [valueAt, List.find?_cons, e']
      rw [valV_pos e, b]; exact h2
    · have e' : ¬ q.1 = k := fun z => e (h1.trans z)
      have b : valueAt (q :: qs) k = valueAt qs k := by simp [valueAt, List.find?_cons, e']
      rw [valV_neg e, b]; exact ih
theorem KV.any {kvs : List (κ × V)} {vs : List (κ × Value)} (r : KV kvs vs) (k : κ) : (kvs.any fun kv => decide (kv.1 = k)) = vs.any fun kv => decide (kv.1 = k) := by
  unfold KV at r
  induction r with
  | nil => rfl
  | cons h t ih => rw [List.any_cons, List.any_cons, ih, h.1]
theorem KV.repl {kvs : List (κ × V)} {vs : List (κ × Value)} (r : KV kvs vs) (k : κ) {y : V} {u : Value} (ry : RelV y u) :
    KV (kvs.map fun kv => if kv.1 = k then (kv.1, y) else kv) (vs.map fun kv => if kv.1 = k then (kv.1, u) else kv) := by
  unfold KV at r ⊢
  induction r with
  | nil => exact .nil
  | @cons p q ps qs h t ih =>
    rw [List.map_cons, List.map_cons]
    refine .cons ?_ ih
    obtain ⟨h1, h2⟩ := h
    by_cases e : p.1 = k
    · rw [if_pos e, if_pos (h1.symm.trans e)]; exact ⟨h1, ry⟩
    · rw [if_neg e, if_neg (fun z => e (h1.trans z))]; exact ⟨h1, h2⟩
theorem KV.put {kvs : List (κ × V)} {vs : List (κ × Value)} (r : KV kvs vs) (k : κ) {y : V} {u : Value} (ry : RelV y u) : KV (putK kvs k y) (stored vs k u) := by
  unfold putK stored
  rw [r.any k]
  by_cases e : (vs.any fun kv => decide (kv.1 = k)) = true
  · rw [if_pos e, if_pos e]; exact r.repl k ry
  · rw [if_neg e, if_neg e]; exact Paired.snoc r ⟨rfl, ry⟩
theorem KV.drop {kvs : List (κ × V)} {vs : List (κ × Value)} (r : KV kvs vs) (k : κ) : KV (dropK kvs k) (without vs k) := by
  unfold KV at r ⊢
  unfold dropK without
  induction r with
  | nil => exact .nil
  | @cons p q ps qs h t ih =>
    obtain ⟨h1, h2⟩ := h
    rw [List.filter_cons, List.filter_cons]
    by_cases e : p.1 = k
    · have a : ¬ decide (p.1 ≠ k) = true := by simp [e]
      have b : ¬ decide (q.1 ≠ k) = true := by simp [h1.symm.trans e]
      rw [if_neg a, if_neg b]; exact ih
    · have e' : ¬ q.1 = k := fun z => e (h1.trans z)
      have a : decide (p.1 ≠ k) = true := by simp [e]
      have b : decide (q.1 ≠ k) = true := by simp [e']
      rw [if_pos a, if_pos b]; exact .cons ⟨h1, h2⟩ ih
theorem KV.keys {kvs : List (κ × V)} {vs : List (κ × Value)} (r : KV kvs vs) : kvs.map (·.1) = vs.map (·.1) := by
  unfold KV at r
  induction r with
  | nil => rfl
  | cons h t ih => rw [List.map_cons, List.map_cons, ih, h.1]
theorem KV.length {kvs : List (κ × V)} {vs : List (κ × Value)} (r : KV kvs vs) : kvs.length = vs.length := Paired.length r
end


/-! ### a tracked dict, its keys ints and texts or tuples of these -/
theorem kV_is {P : Program} {w : World} {k : Key} {u : Value} (r : RelV (kV k) u) : (mixKind P w).is k u = true := by
  cases k with
  | inl i => obtain ⟨t, e⟩ := (show ∃ t, u = Value.int i t from r); subst e; exact mixKind_int P w i t
  | inr x => obtain ⟨t, e⟩ := (show ∃ t, u = Value.str x t from r); subst e; exact mixKind_str P w x t
/-- raw entries of a dict with tuple keys -/
abbrev KT (H : Hp) : List (List Key × V) → List (List Key × Addr × Value) → Prop := Paired fun p q => p.1 = q.1 ∧ H q.2.1 = some (.tup (p.1.map kV)) ∧ RelV p.2 q.2.2
theorem KT.val {H : Hp} {kvs : List (List Key × V)} {xs : List (List Key × Addr × Value)} (r : KT H kvs xs) (k : List Key) : RelO (valV kvs k) ((atKey xs k).map (·.2)) := by
  induction r with
  | nil => exact True.intro
  | @cons p q ps qs h t ih =>
    obtain ⟨h1, _, h2⟩ := h
    by_cases e : p.1 = k
    · have e' : q.1 = k := h1.symm.trans e
      have b : atKey (q :: qs) k = some q.2 := by simp [atKey, List.find?_cons, e']
      rw [valV_pos e, b]; exact h2
    · have e' : ¬ q.1 = k := fun z => e (h1.trans z)
      have b : atKey (q :: qs) k = atKey qs k := by simp [atKey, List.find?_cons, e']
      rw [valV_neg e, b]; exact ih
theorem KT.repl {H : Hp} {kvs : List (List Key × V)} {xs : List (List Key × Addr × Value)} (r : KT H kvs xs) (k : List Key) {y : V} {u : Value} (ry : RelV y u) :
    KT H (kvs.map fun kv => if kv.1 = k then (kv.1, y) else kv) (xs.map (putAt k u)) := by
  induction r with
  | nil => exact .nil
  | @cons p q ps qs h t ih =>
    rw [List.map_cons, List.map_cons]
    refine .cons ?_ ih
    obtain ⟨h1, h2, h3⟩ := h
    unfold putAt
    by_cases e : p.1 = k
    · rw [if_pos e, if_pos (h1.symm.trans e)]; exact ⟨h1, h2, ry⟩
    · rw [if_neg e, if_neg (fun z => e (h1.trans z))]; exact ⟨h1, h2, h3⟩
theorem KT.put {H : Hp} {kvs : List (List Key × V)} {xs : List (List Key × Addr × Value)} (r : KT H kvs xs) (k : List Key) {b : Addr} {y : V} {u : Value} (hb : H b = some (.tup (k.map kV))) (ry : RelV y u) :
    KT H (putK kvs k y) (storedH xs k b u) := by
  have e : (kvs.any fun kv => decide (kv.1 = k)) = (atKey xs k).isSome := by
    rw [valV_any, (r.val k).isSome_eq, Option.isSome_map]
  unfold putK storedH
  rw [e]
  by_cases q : (atKey xs k).isSome = true
  · rw [if_pos q, if_pos q]; exact r.repl k ry
  · rw [if_neg q, if_neg q]; exact Paired.snoc r ⟨rfl, hb, ry⟩
theorem KT.keeps {H H' : Hp} {kvs : List (List Key × V)} {xs : List (List Key × Addr × Value)} (r : KT H kvs xs) (ht : ∀ b ys, H b = some (.tup ys) → H' b = some (.tup ys)) : KT H' kvs xs :=
  Paired.mapP r fun _ _ z => ⟨z.1, ht _ _ z.2.1, z.2.2⟩

section
variable {P : Program} {w : World} {H : Hp} {h : Heap} {a : Addr}
theorem rd_of {u : HO} (ok : HOk P w H h) (e : Rd H a u) : ObjOk P w H h a u := e.ok ok
theorem dk_rd {kvs : List (Key × V)} (ok : HOk P w H h) (e : Rd H a (.dK kvs)) : kvs.length ≤ sizeLine ∧ (a == sysModules) = false ∧ ∃ vs, KV kvs vs ∧ h.DictOf (mixKind P w) a vs :=
  show ObjOk P w H h a (.dK kvs) from rd_of ok e
theorem dk_of {kvs : List (Key × V)} (ok : HOk P w H h) (e : H a = some (.dK kvs)) : kvs.length ≤ sizeLine ∧ (a == sysModules) = false ∧ ∃ vs, KV kvs vs ∧ h.DictOf (mixKind P w) a vs := dk_rd ok (.inl e)
end

/-- what the dict at a holds at the key y -/
def DGet (H : Hp) (a : Addr) (y : V) (r : Option V) : Prop :=
  (∃ kvs k, Rd H a (.dK kvs) ∧ y = kV k ∧ r = valV kvs k) ∨ ∃ kvs k b, Rd H a (.dT kvs) ∧ y = .ref b ∧ H b = some (.tup (k.map kV)) ∧ r = valV kvs k
/-- the heap behind a[y] = v -/
def DPut (H : Hp) (a : Addr) (y v : V) (H' : Hp) : Prop :=
  (∃ kvs k, H a = some (.dK kvs) ∧ y = kV k ∧ kvs.length < sizeLine ∧ H' = upd H a (.dK (putK kvs k v))) ∨
  ∃ kvs k b, H a = some (.dT kvs) ∧ y = .ref b ∧ H b = some (.tup (k.map kV)) ∧ kvs.length < sizeLine ∧ H' = upd H a (.dT (putK kvs k v))
theorem DGet.k {H : Hp} {a : Addr} {kvs : List (Key × V)} {k : Key} (e : H a = some (.dK kvs)) : DGet H a (kV k) (valV kvs k) := .inl ⟨kvs, k, .inl e, rfl, rfl⟩
theorem DGet.t {H : Hp} {a b : Addr} {kvs : List (List Key × V)} {k : List Key} (e : H a = some (.dT kvs)) (eb : H b = some (.tup (k.map kV))) : DGet H a (.ref b) (valV kvs k) := .inr ⟨kvs, k, b, .inl e, rfl, eb, rfl⟩
theorem DPut.k {H : Hp} {a : Addr} {kvs : List (Key × V)} {k : Key} {v : V} (e : H a = some (.dK kvs)) (hl : kvs.length < sizeLine) : DPut H a (kV k) v (upd H a (.dK (putK kvs k v))) := .inl ⟨kvs, k, e, rfl, hl, rfl⟩
theorem DPut.t {H : Hp} {a b : Addr} {kvs : List (List Key × V)} {k : List Key} {v : V} (e : H a = some (.dT kvs)) (eb : H b = some (.tup (k.map kV))) (hl : kvs.length < sizeLine) :
    DPut H a (.ref b) v (upd H a (.dT (putK kvs k v))) := .inr ⟨kvs, k, b, e, rfl, eb, hl, rfl⟩


section
variable {X : Cx} {pins : List (Addr × Obj)} {σ : St} {H : Hp} {s : Shared} {a : Addr} {y v : V} {u r : Value} {o : Option V} {A : Around} {E : Value → Shared → Prop}

theorem Inv.big (I : Inv X pins σ H s) : sysModules < s.heap.objs.size := by
  have h : mainGlobals < s.heap.objs.size := (I.mod.glob.keeps I.bk).lt
  exact Nat.lt_trans (by decide) h

/-- a dict's object is replaced -/
theorem d_write {h' : Heap} {t' : Nat} {ob : HO} (I : Inv X pins σ H s) (mu : Mut (H a)) (hs : Heap.SameBut a s.heap h') (he : ∃ q, h'.get? a = some q) (new : ObjOk X.prog X.w (upd H a ob) h' a ob) :
    Inv X pins σ (upd H a ob) { s with heap := h', toks := t' } :=
  I.write (x := a) (e := a) mu (.inl rfl) (fun b q hb z => (hs.2 b hb).trans z) he new
theorem dk_new {P : Program} {w : World} {H' : Hp} {h' : Heap} {kvs : List (Key × V)} {vs : List (Key × Value)} (z : kvs.length ≤ sizeLine) (hd : (a == sysModules) = false) (rel : KV kvs vs) (dd : h'.DictOf (mixKind P w) a vs) :
    ObjOk P w H' h' a (.dK kvs) := ⟨z, hd, vs, rel, dd⟩
end

section
variable {X : Cx} {pins : List (Addr × Obj)} {σ : St} {H : Hp} {s : Shared} {a : Addr} {kvs : List (Key × V)} {k : Key} {u : Value} {A : Around} {E : Value → Shared → Prop}
end


section
variable {X : Cx} {o i e value : Expr} {pos pos' tpos : Pos} {td ty tv : TE}
end


/-! ### displays -/
theorem dk_empty {P : Program} {w : World} {H : Hp} (h : Heap) (hb : sysModules < h.objs.size) : ObjOk P w H (h.push { cls := .type "dict", data := .dict #[] }) h.objs.size (.dK []) :=
  ⟨Nat.zero_le _, beq_eq_false_iff_ne.mpr (Ne.symm (Nat.ne_of_lt hb)), [], .nil, Heap.DictOf.new h⟩
section
variable {X : Cx} {pos : Pos}
end

/-- the pairs of a display, from the left -/
def tPairs : List (TE × TE) → St → Hp → (List (V × V) → Hp → Prop) → Prop
  | [], _, H, Q => Q [] H
  | (tk, tv) :: r, σ, H, Q => tk σ H fun x H1 => tv σ H1 fun y H2 => tPairs r σ H2 fun ps H3 => Q ((x, y) :: ps) H3
abbrev VV : List (V × V) → List (Value × Value) → Prop := Paired fun p q => RelV p.1 q.1 ∧ RelV p.2 q.2
def PPs (X : Cx) (pos : Pos) (keys : List (Option Expr)) (values : List Expr) (trs : List (TE × TE)) : Prop :=
  ∀ (pins : List (Addr × Obj)) (s : Shared) (σ : St) (H : Hp) (Q : List (V × V) → Hp → Prop), Inv X pins σ H s → tPairs trs σ H Q →
    wpAny (model X.prog X.w) X.A (evalPairs (pairTrees keys values X.env pos)) (fun vs s' => ∃ ps H', Inv X pins σ H' s' ∧ VV ps vs ∧ Q ps H') X.xe s
theorem pps_nil {X : Cx} {pos : Pos} : PPs X pos [] [] [] := fun pins s σ H Q I h => pairTrees_nil_walk ⟨[], H, I, .nil, h⟩
theorem pps_cons {X : Cx} {pos : Pos} {k v : Expr} {ks : List (Option Expr)} {vs : List Expr} {tk tv : TE} {trs : List (TE × TE)} (hk : PE X k tk) (hv : PE X v tv) (hr : PPs X pos ks vs trs) :
    PPs X pos (some k :: ks) (v :: vs) ((tk, tv) :: trs) := fun pins s σ H Q I h =>
  pairTrees_cons_walk (thn (hk pins s σ H _ I h) fun u s1 ⟨x, H1, I1, rx, q1⟩ => thn (hv pins s1 σ H1 _ I1 q1) fun w2 s2 ⟨y, H2, I2, ry, q2⟩ =>
    thn (hr pins s2 σ H2 _ I2 q2) fun ws s3 ⟨ps, H3, I3, rel, q3⟩ => ⟨(x, y) :: ps, H3, I3, .cons ⟨rx, ry⟩ rel, q3⟩)

def mergeK (kvs more : List (Key × V)) : List (Key × V) := more.foldl (fun acc kv => putK acc kv.1 kv.2) kvs
theorem KV.merge : ∀ {more : List (Key × V)} {rs : List (Key × Value)} {kvs : List (Key × V)} {vs : List (Key × Value)}, KV more rs → KV kvs vs → KV (mergeK kvs more) (merged vs rs) := by
  intro more rs kvs vs r
  unfold KV at r
  induction r generalizing kvs vs with
  | nil => intro q; exact q
  | @cons p q ps qs h t ih =>
    intro r0
    have e : KV (putK kvs p.1 p.2) (stored vs q.1 q.2) := by
      have := r0.put p.1 h.2
      rw [← h.1]; exact this
    exact ih e
theorem length_mergeK : ∀ (more kvs : List (Key × V)), (mergeK kvs more).length ≤ kvs.length + more.length
  | [], kvs => by show kvs.length ≤ kvs.length + 0; omega
  | p :: r, kvs => by
    have h1 := length_mergeK r (putK kvs p.1 p.2)
    have h2 := length_putK kvs p.1 p.2
    show (mergeK (putK kvs p.1 p.2) r).length ≤ _
    rw [List.length_cons]; omega
theorem carries_of {P : Program} {w : World} : ∀ {kvs : List (Key × V)} {ws : List (Value × Value)}, VV (kvs.map fun kv => (kV kv.1, kv.2)) ws → ∃ rs, Carries (mixKind P w) ws rs ∧ KV kvs rs
  | [], _, r => by rw [List.map_nil] at r; cases r; exact ⟨[], True.intro, .nil⟩
  | p :: kvs, _, r => by
    rw [List.map_cons] at r
    cases r with
    | @cons a b as bs h t =>
      obtain ⟨rs, c, q⟩ := carries_of (P := P) (w := w) t
      obtain ⟨b1, b2⟩ := b
      exact ⟨(p.1, b2) :: rs, ⟨kV_is h.1, rfl, c⟩, .cons ⟨rfl, h.2⟩ q⟩
/-- {k: v, ..} with keys ints and texts; the new dict stands empty while the pairs are made -/
def tDisp (trs : List (TE × TE)) : TE := fun σ H Q => ∀ p, H p = none → tPairs trs σ (upd H p (.dK [])) fun ps H2 => H2 p = some (.dK []) ∧ ∃ kvs : List (Key × V), ps = kvs.map (fun kv => (kV kv.1, kv.2)) ∧ kvs.length ≤ 15 ∧ Q (.ref p) (upd H2 p (.dK (mergeK [] kvs)))
theorem pe_disp {X : Cx} {pos : Pos} {keys : List (Option Expr)} {values : List Expr} {trs : List (TE × TE)} (h : PPs X pos keys values trs) (hall : keys.all (·.isSome) = true) (hl : keys.length = values.length) (h0 : keys ≠ [])
    (h15 : keys.length ≤ 15) : PE X (.Dict keys values pos) (tDisp trs) := by
  intro pins s σ H Q I q
  have hn := I.hok.fresh (Nat.le_refl s.heap.objs.size)
  have I1 := I.laid (a := s.heap.objs.size) (o := .dK []) (h' := s.heap.push { cls := .type "dict", data := .dict #[] }) (t' := s.toks) (fun _ _ q => Heap.get?_push_of_some _ q) (Nat.le_refl _) (dk_empty s.heap I.big)
  refine wpAny_Dict_walk (knd := mixKind X.prog X.w) hall hl h0 h15 (thn (h pins _ σ _ _ I1 (q _ hn)) fun ws s2 ⟨ps, H2, I2, rel, e, kvs, ep, lk, q2⟩ => ?_)
  subst ep
  obtain ⟨rs, c, rk⟩ := carries_of (P := X.prog) (w := X.w) rel
  obtain ⟨z, hd, vs0, r0, dd⟩ := dk_of I2.hok e
  cases r0
  refine ⟨rs, c, dd, fun h' dd' hs => ⟨.ref s.heap.objs.size, _, ?_, rfl, q2⟩⟩
  have hz : (mergeK [] kvs).length ≤ sizeLine := by
    have h1 := length_mergeK kvs []
    rw [List.length_nil] at h1
    rw [sizeLine_eq]; omega
  have he : ∃ q, h'.get? s.heap.objs.size = some q := let ⟨q, _, _, hq, _⟩ := dd'; ⟨q, hq⟩
  exact d_write I2 (by rw [e]; exact True.intro) hs he (dk_new hz hd (rk.merge .nil) dd')


section
variable {X : Cx} {pins : List (Addr × Obj)} {σ : St} {H : Hp} {s : Shared} {a : Addr} {y d : V} {u r : Value} {o : Option V} {A : Around} {E : Value → Shared → Prop}
end

section
variable {X : Cx} {o e f : Expr} {apos cpos : Pos} {td ty tx : TE}
end

/-! ### dict(d): a copy -/
section
variable {X : Cx} {pins : List (Addr × Obj)} {σ : St} {H : Hp} {s : Shared} {a : Addr} {kvs : List (Key × V)} {A : Around} {E : Value → Shared → Prop}
end


section
variable {X : Cx} {pins : List (Addr × Obj)} {σ : St} {H : Hp} {s : Shared} {a : Addr} {y : V} {u : Value} {A : Around} {E : Value → Shared → Prop}
end
end L2

namespace Att
open PySem PySem.W PySem.Calls PyProof.Rows

/-! ### the script -/
theorem ints_of_wellAll {P : Params} {h : Heap} : ∀ (ns : List Int) (vs : List Value), WellAll P h vs (ns.map WData.int) → IntsAre vs ns := by
  intro ns
  induction ns with
  | nil =>
    intro vs w
    rw [List.map_nil] at w
    cases w
    exact .nil
  | cons n ns ih =>
    intro vs w
    rw [List.map_cons] at w
    cases w with
    | cons a b =>
      cases a
      exact .cons _ _ (ih _ b)

theorem script_of {l : OpenLaw} {n : Nat} (hn : l.most = some n) {P : Params} {h : Heap} {args : List WData} {vals : List Value}
    (hpre : l.row.toRowW.claim.pre args = true) (hwl : WellAll P h vals args) :
    ∃ a vs ns, vals = [Value.ref a] ∧ args = [WData.list (ns.map WData.int)] ∧ h.get? a = some { cls := .type "list", data := .seq vs.toArray } ∧ IntsAre vs ns ∧ ns.length ≤ n := by
  have hsh : WShape.hasAll [] args [.list .int] = true := (pre_splitW hpre).1
  have hc : l.pre.holds [] { args := args } = true := (pre_splitW hpre).2
  obtain ⟨d, r, rfl, h1, h2⟩ := hasAllW_cons hsh
  obtain rfl := hasAllW_nil h2
  obtain ⟨xs, rfl, h3⟩ := hasW_list h1
  obtain ⟨ns, rfl⟩ := items_int h3
  have hlen : ns.length ≤ n := by
    unfold OpenLaw.pre at hc
    have h4 : (WTm.not (.lt (.lit (.int (n : Int))) (.len (.arg 0)))).holds [] { args := [.list (ns.map .int)] } = true := by
      have h4 := (holds_andW hc).1
      rw [hn] at h4
      exact h4
    have h5 := condW_of h4 (w_not (w_lt w_lit (w_len_list (w_arg rfl))))
    rw [List.length_map] at h5
    refine Nat.le_of_not_lt fun q => ?_
    have q' : (n : Int) < ((ns.length : Nat) : Int) := by omega
    first
      | (rw [decide_eq_true q'] at h5; exact absurd h5 (by decide))
      | (simp at h5; omega)
  cases hwl with
  | cons w1 w2 =>
    cases w2
    cases w1 with
    | list ho hall => exact ⟨_, _, ns, rfl, rfl, ho, ints_of_wellAll ns _ hall, hlen⟩

theorem post_true (l : OpenLaw) (args : List WData) : l.row.toRowW.claim.post args (.bool true) args = true :=
  postW_of (r := l.row.toRowW) (X := (true == true))
    (show WShape.has [] (.bool true) .bool = true by first | rfl | decide | simp [WShape.has, WShape.arms, WShape.armsAll])
    (show (WTm.eq .res (.lit (.bool true))).value [] { args := args, res := some (.bool true), after := args } = some (.bool (true == true)) from w_eq_bool (w_res rfl) w_lit) rfl

/-- the same from a codeAny of the CALL (for a layer whose function contracts speak of calls) -/
theorem attach_call {l : OpenLaw} {n : Nat} {q : Program} {loose : List Str} {XP : (Str → Option Value) → Heap → Prop} {YP : World → Heap → Prop} {d : DefRec}
    (hn : l.most = some n) (hdf : d.params.defaults = [])
    (call : ∀ (w : World) (s₀ s₁ : Shared) (mg mb : Str → Option Value) (fa : Addr) (o : Obj) (pm cd doc : Value) (a : Addr) (vs : List Value) (ns : List Int),
      Ground q loose [] XP w s₀ mg mb s₁.heap → YP w s₁.heap →
      s₁.heap.get? fa = some o → o.data = .func (docDef d.name d.params d.body d.scope pm cd doc) → s₁.heap.CodeRec cd d.name → mg d.name = some (.ref fa) →
      s₁.heap.get? a = some { cls := .type "list", data := .seq vs.toArray } → IntsAre vs ns → ns.length ≤ n → s₁.gens = #[] →
      codeAny (model l.prog w) callerA (.call (.ref fa) ⟨[.ref a], []⟩) (fun r s' => r = .ok (.ret (.bool true)) ∧ OldK s₁.heap s'.heap ∧ s'.os = s₁.os ∧ AllBare s'.gens) s₁) :
    WalkO q loose XP YP l.row.toRowW d [] (fun f vs => PySem.call f vs) := by
  intro w s₀ s₁ mg mb G Y fa o pm cd doc dV kV ho hd hcd hD hmg hg args vals as hpre hlay hrd hwl hlo
  obtain rfl : dV = .none := Dflts.none hD hdf
  obtain rfl : kV = .none := Dflts.noKw hD
  obtain ⟨a, vs, ns, rfl, rfl, hobj, hints, hlen⟩ := script_of hn hpre hwl
  refine enter_call (codeAny_mono (call w s₀ s₁ mg mb fa o pm cd doc a vs ns G Y ho (fd_plain hd) hcd hmg hobj hints hlen hg) fun r s' hq => ?_)
  obtain ⟨rfl, h2, h3, h4⟩ := hq
  exact ⟨.inl ⟨.bool true, .bool true, [], rfl, fun _ => rfl, .bool true, post_true l _, fun _ => ⟨List.Pairwise.nil, fun _ hm => (nomatch hm)⟩⟩, h2, h3, h4⟩

/-! ### rules over ANY heap (no ledger) from facts about the written part K: the library's own take a ledger (News) for what they write -/
section
variable {prog : Program} {w : World} {A : Around} {E : Value → Shared → Prop} {s : Shared} {K : Frag}

def ledger (h : Heap) (L d : Addr) : List (Addr × Obj) := (List.range h.objs.size).filterMap fun a => if a = L ∨ a = d then none else (h.get? a).map fun o => (a, o)
end
end Att

namespace L2
open PySem PySem.Spec PyProof.Rows

theorem vals_ints : ∀ {vs : List Value} {ns : List Int}, IntsAre vs ns → Vals (ns.map V.int) vs
  | _, _, .nil => .nil
  | _, _, .cons n t h => .cons ⟨t, rfl⟩ (vals_ints h)

/-- nothing is tracked but the script, known to the object (or it is an object of the module) -/
def Only (H : Hp) : Prop := ∀ b, H b = none ∨ ∃ o xs, H b = some (.frz o (.lst xs))

/-- THE HEAD: the law's promise, at the heap behind the top. F, the promise of the law's def, may use that base is part of the heap (so K.In base, base.Ns mainGlobals mg stand in Mod) -/
theorem law_call {P : Program} {w : World} {K : PySem.W.Frag} {mg mb : Str → Option Value} {CX : CXT} {k : Nat} {fa a : Addr} {fd : FuncData} {x : Str} {sp : Sp} {s₁ : Shared} {vs : List Value} {ns : List Int}
    (KX : K.In s₁.heap) (hns : s₁.heap.Ns mainGlobals mg) (hb : s₁.heap.Ns builtinsNs mb) (hbb : ∀ x : Str, x ≠ "__name__" → mb x = bootBuiltins x) (hlim : s₁.heap.NoLimit) (hg : s₁.gens = #[])
    (ha : s₁.heap.get? a = some { cls := .type "list", data := .seq vs.toArray }) (hi : IntsAre vs ns) (hl : ns.length ≤ sizeLine) (hr : Room k callerA)
    (F : ∀ base : Heap, K.In base → base.Ns mainGlobals mg → FnOk P w K mg base CX k fa fd [x] sp) (hbind : ∀ (s : Shared) (u : Value), BindsTo s fd ⟨[u], []⟩ [(x, u)])
    (hsp : ∀ H : Hp, Only H → SqL K H a (ns.map V.int) → sp [.ref a] H (fun v _ => v = .bl true) fun _ _ _ => False)
    (hCX : ∀ H e s', CX [] H s₁ (fun _ _ _ => False) e s' → False) :
    codeAny (model P w) callerA (.call (.ref fa) ⟨[.ref a], []⟩) (fun r s' => r = .ok (.ret (.bool true)) ∧ OldK s₁.heap s'.heap ∧ s'.os = s₁.os ∧ AllBare s'.gens) s₁ := by
  have rv := vals_ints hi
  have lenV := hi.length
  -- from an abstract heap in which nothing but the script may be tracked
  have core : ∀ H : Hp, Only H → SqL K H a (ns.map V.int) → HOk P w H s₁.heap → (∀ b, H b ≠ none → b = a) → (H a ≠ none → K.lookup a = none) →
      codeAny (model P w) callerA (.call (.ref fa) ⟨[.ref a], []⟩) (fun r s' => r = .ok (.ret (.bool true)) ∧ OldK s₁.heap s'.heap ∧ s'.os = s₁.os ∧ AllBare s'.gens) s₁ := by
    intro H hO hS hok hA hK
    have base_of : ∀ {b : Addr} {o : Obj}, s₁.heap.get? b = some o → H b = none → (hidT s₁.heap H).get? b = some o := fun e n => hidT_get e n
    have noA : ∀ {b : Addr} {o : Obj} {es : Array DictEntry} {ep : Nat}, s₁.heap.get? b = some o → o.data = .dict es ep → H b = none := fun {b o es ep} e d => by
      cases q : H b with
      | none => rfl
      | some u =>
        have e' : b = a := hA b (by rw [q]; simp)
        subst e'
        rw [ha] at e; cases e
        have d' : Data.seq vs.toArray _ = Data.dict es ep := d
        cases d'
    have nsK : ∀ {b : Addr} {m : Str → Option Value}, s₁.heap.Ns b m → (hidT s₁.heap H).Ns b m := fun {b m} ⟨o, es, ep, e, d, r⟩ => ⟨o, es, ep, base_of e (noA e d), d, r⟩
    have hKb : K.In (hidT s₁.heap H) := fun b o e => base_of (KX b o e) (by
      cases q : H b with
      | none => rfl
      | some u =>
        have e' : b = a := hA b (by rw [q]; simp)
        subst e'
        rw [hK (by rw [q]; simp)] at e; cases e)
    have hM : Mod K mg (hidT s₁.heap H) := ⟨hKb, nsK hns, ⟨mb, nsK hb, hbb⟩, let ⟨mc, h1, h2⟩ := hlim; ⟨mc, nsK h1, h2⟩⟩
    have e0 : Env0 P w K mg (hidT s₁.heap H) callerA [] s₁ H := ⟨rfl, hM, fun b o e => of_hidT e, Nat.le_of_eq (hidT_size _ _), trivial, fun b hb => absurd (show b ∈ ([] : List Addr) from hb) (by simp), hok, .of_eq hg⟩
    refine codeAny_mono ((F _ hKb (nsK hns)).run callerA [] s₁ H ⟨[.ref a], []⟩ [.ref a] [.ref a] _ _ hr e0 (hbind s₁ (.ref a)) (.cons rfl .nil) (hsp H hO hS)) fun r s' h => ?_
    cases r with
    | error e => exact (hCX H e s' h).elim
    | ok fl =>
      cases fl with
      | next => exact False.elim h
      | brk => exact False.elim h
      | cont => exact False.elim h
      | ret u =>
        obtain ⟨v, H', os, bare, un, hok', r', q⟩ := h
        have q' : v = .bl true := q
        subst q'
        obtain rfl : u = Value.bool true := r'
        refine ⟨rfl, OldK.of_keep fun b o e => ?_, os, bare⟩
        cases q : H b with
        | none => exact un.keep b o e q (by intro z; exact absurd (show b ∈ ([] : List Addr) from z) (by simp)) (by simp)
        | some u =>
          rcases hO b with z | ⟨ob, xs, z⟩
          · rw [q] at z; cases z
          · have z2 := un.frzs b ob _ z
            obtain ⟨e1, _⟩ := hok b _ z
            obtain ⟨e2, _⟩ := hok' b _ z2
            rw [e] at e1; cases e1
            exact e2
  cases hk : K.lookup a with
  | some o =>
    -- the script is one of the module's own objects
    have e := KX a o hk
    rw [ha] at e
    cases e
    refine core (fun _ => none) (fun _ => .inl rfl) (.inr ⟨_, vs.toArray, _, hk, rfl, rfl, rfl, by rw [List.size_toArray, lenV]; exact hl, by simpa using rv⟩) (fun b u z => by have z' : (none : Option HO) = some u := z; cases z') (fun b z => absurd rfl z) fun z => absurd rfl z
  | none =>
    refine core (fun b => if b = a then some (.frz { cls := .type "list", data := .seq vs.toArray } (.lst (ns.map V.int))) else none) (fun b => ?_) (.inl (.inr ⟨{ cls := .type "list", data := .seq vs.toArray }, if_pos rfl⟩)) (fun b u z => ?_) (fun b z => ?_) fun _ => hk
    · by_cases hb : b = a
      · exact .inr ⟨_, _, if_pos hb⟩
      · exact .inl (if_neg hb)
    · by_cases hb : b = a
      · have z' := (if_pos hb).symm.trans z
        cases z'
        subst hb
        exact ⟨ha, by rw [List.length_map]; exact hl, vs, _, rv, ha⟩
      · have z' := (if_neg hb).symm.trans z
        cases z'
    · by_cases hb : b = a
      · exact hb
      · exact absurd (if_neg hb) z
end L2

namespace L2
open PySem PySem.Spec PyProof.Rows

abbrev KOf {K : PySem.W.Frag} {h : Heap} (_ : K.In h) : PySem.W.Frag := K

/-- the goal that k_head leaves (case hc), from the law's promise. F gives the function object fd (K's own) once, then the promise over every base -/
theorem walk_of {l : PySem.W.OpenLaw} {n k : Nat} {q : Program} {loose : List Str} {XP : (Str → Option Value) → Heap → Prop} {YP : World → Heap → Prop} {d : DefRec} {K : Params → PySem.W.Frag} {CX : World → CXT} {sp : World → Sp} {x : Str}
    (hn : l.most = some n) (hn2 : n ≤ sizeLine) (hdf : d.params.defaults = []) (hr : Room k callerA)
    (hY : ∀ (w : World) (h : Heap), YP w h → (K w.params).In h)
    (F : ∀ (w : World) (mg : Str → Option Value) (fa : Addr) (h : Heap), (K w.params).In h → h.Ns mainGlobals mg → mg d.name = some (.ref fa) →
      ∃ fd : FuncData, (∀ (s : Shared) (u : Value), BindsTo s fd ⟨[u], []⟩ [(x, u)]) ∧
        ∀ base : Heap, (K w.params).In base → base.Ns mainGlobals mg → FnOk l.prog w (K w.params) mg base (CX w) k fa fd [x] (sp w))
    (hsp : ∀ (w : World) (H : Hp) (a : Addr) (ns : List Int), ns.length ≤ n → Only H → SqL (K w.params) H a (ns.map V.int) → sp w [.ref a] H (fun v _ => v = .bl true) fun _ _ _ => False)
    (hCX : ∀ (w : World) (H : Hp) (s : Shared) (e : Value) (s' : Shared), CX w [] H s (fun _ _ _ => False) e s' → False) :
    PySem.W.WalkO q loose XP YP l.row.toRowW d [] (fun f vs => PySem.call f vs) := by
  refine Att.attach_call hn hdf fun w s₀ s₁ mg mb fa o pm cd doc a vs ns G Y ho hd hcd hmg hobj hints hlen hg => ?_
  have KX := hY w _ Y
  obtain ⟨fd, hb, hF⟩ := F w mg fa _ KX G.T.g hmg
  exact law_call KX G.T.g G.T.b G.T.builtins G.T.nolimit hg hobj hints (Nat.le_trans hlen hn2) hr hF hb (fun H hO hS => hsp w H a ns hlen hO hS) fun H e s' => hCX w H s₁ e s'
end L2


/-! SHORT WORDS over the layer: a def of the text, its body, what a loop and a test want. -/
namespace L2
open PySem PySem.Spec PyProof.Rows

/-! ### the text by places -/
def defArgs (s : Stmt) : Arguments := match s with
  | .FunctionDef _ a _ _ _ _ _ _ _ _ => a
  | _ => { posonlyargs := [], args := [], vararg := none, kwonlyargs := [], kw_defaults := [], kwarg := none, defaults := [] }
def defBody (s : Stmt) : List Stmt := match s with
  | .FunctionDef _ _ b _ _ _ _ _ _ _ => b
  | _ => []
def defScope (s : Stmt) : Scope := match s with
  | .FunctionDef _ _ _ _ _ _ sc _ _ _ => sc
  | _ => { kind := .function, names := [], isGenerator := false, isCoroutine := false }

/-! ### no exception leaves a def -/
abbrev CX0 : CXT := fun _ _ _ _ _ _ => False
/-! ### a def (or method) of the text as it stands behind the top -/
structure Fun (K : PySem.W.Frag) (x qual : Str) (st : Stmt) (f : Addr) (fd : FuncData) : Prop where
  ex : ∃ (oc : Value) (od : Option Addr) (kV doc pm : Value) (an : Option Addr) (cdv ct : Value) (osl : Array (Option Value)),
    fd = PySem.W.fnOf x qual (defArgs st) (defBody st) (defScope st) .none kV doc pm an cdv ct ∧ K.lookup f = some ⟨oc, od, .func fd, osl⟩ ∧ PySem.W.codeIn K cdv qual = true
  kp : PySem.W.keepIn K (.ref f) = true
section
variable {P : Program} {w : World} {K : PySem.W.Frag} {mg : Str → Option Value} {base : Heap}
/-- THE RULE for a def: its body as a term of rules, and the reading of that term -/
theorem Fun.ok {x qual : Str} {st : Stmt} {f : Addr} {fd : FuncData} {N ps : List Str} {k : Nat} {sp : Sp} (F : Fun K x qual st f fd) (S : FnScope N ps (defScope st)) (len : ∀ vs H Q E, sp vs H Q E → vs.length = ps.length)
    (hbody : ∀ (cdv : Value) (A : Around) (outer : List Env) (s : Shared) (H : Hp) (vs : List V) (Q : VK) (E : XK), Room k (A.deeper (envOfC qual (defScope st) s.heap.objs.size f cdv)) → sp vs H Q E →
      ∃ t, PSs (cxOf CX0 P w K mg base N qual (defScope st) f cdv A outer s H E).nox (defBody st) t ∧ t { nx := fun _ H' => Q .non H', rt := Q } (start N vs) H) : FnOk P w K mg base CX0 (k + 1) f fd ps sp := by
  obtain ⟨oc, od, kV, doc, pm, an, cdv, ct, osl, rfl, lk, hcd⟩ := F.ex
  refine fn_of lk hcd S len fun A outer s H vs Q E hr hsp => ?_
  obtain ⟨t, h, q⟩ := hbody cdv A outer s H vs Q E hr hsp
  exact ⟨t, h.nox, q⟩
/-- how its arguments bind (no defaults): h is «fun _ _ _ _ _ _ us hl => match us, hl with | [_, _], _ => rfl», one _ a parameter -/
theorem Fun.binds {x qual : Str} {st : Stmt} {f : Addr} {fd : FuncData} {ps : List Str} (F : Fun K x qual st f fd)
    (h : ∀ (kV doc pm : Value) (an : Option Addr) (cdv ct : Value) (us : List Value), us.length = ps.length → bindArgs (PySem.W.fnOf x qual (defArgs st) (defBody st) (defScope st) .none kV doc pm an cdv ct) ⟨us, []⟩ = pure (ps.zip us)) : Binds K fd ps [] := by
  obtain ⟨oc, od, kV, doc, pm, an, cdv, ct, osl, rfl, lk, hcd⟩ := F.ex
  exact .all (h kV doc pm an cdv ct)
theorem fun_mk {x qual : Str} {st : Stmt} {f : Addr} {oc : Value} {od an : Option Addr} {osl : Array (Option Value)} {kV doc pm cdv ct : Value} (l : K.lookup f = some ⟨oc, od, .func (PySem.W.fnOf x qual (defArgs st) (defBody st) (defScope st) .none kV doc pm an cdv ct), osl⟩)
    (c : PySem.W.codeIn K cdv qual = true) (k : PySem.W.keepIn K (.ref f) = true) : Fun K x qual st f (PySem.W.fnOf x qual (defArgs st) (defBody st) (defScope st) .none kV doc pm an cdv ct) := ⟨⟨oc, od, kV, doc, pm, an, cdv, ct, osl, rfl, l, c⟩, k⟩
end
theorem small1000 {n : Nat} (h : n ≤ 1000) : n < sizeLine := Nat.lt_of_le_of_lt h (by decide)

/-! ### expressions in short: the name that stands in the i-th slot -/
section
variable {X : Cx}
theorem pv (i : Nat) {x : Str} {pos : Pos} (hN : X.N[i]? = some x := by rfl) (hv : Vis X.env.scope x := by first | exact Or.inl rfl | exact Or.inr (Or.inl rfl) | exact Or.inr (Or.inr rfl)) (hd : (x == ("__debug__" : Str)) = false := by decide)
    (hcd : (x == ("__classdict__" : Str)) = false := by decide) : PE X (.Name x pos) (tVar i) := pe_var hN hv hd hcd
end

/-! ### heaps -/
/-- all that was tracked is as it was -/
def Same (H H' : Hp) : Prop := ∀ b o, H b = some o → H' b = some o
theorem Same.refl (H : Hp) : Same H H := fun _ _ h => h
theorem Same.trans {H H1 H2 : Hp} (a : Same H H1) (b : Same H1 H2) : Same H H2 := fun c o h => b c o (a c o h)
theorem Same.free {H H' : Hp} (e : Same H H') {l : Addr} (h : H' l = Option.none) : H l = Option.none := by
  cases q : H l with
  | none => rfl
  | some o =>
    rw [e l o q] at h
    cases h
theorem Same.seq {K : PySem.W.Frag} {H H' : Hp} {a : Addr} {xs : List V} (e : Same H H') (h : SqL K H a xs) : SqL K H' a xs := by
  rcases h with (h | ⟨o, h⟩) | h
  · exact .inl (.inl (e _ _ h))
  · exact .inl (.inr ⟨o, e _ _ h⟩)
  · exact .inr h

/-! ### a dict's pairs: keys that differ -/
section
variable {κ : Type} [DecidableEq κ]
end
end L2

set_option Elab.async false
set_option linter.all false
set_option maxRecDepth 100000
set_option maxHeartbeats 4000000
namespace L2.PU
open PySem PySem.Spec PyProof.Rows

/-! ### sets of texts that may be walked -/
theorem layNew_led (t : SetTable) (es : Array (Int × Value)) (h : Int) (x : Value) : (layNew t es h x).2.1.led = t.led := by
  unfold layNew
  split
  · unfold SetTable.orStandIn
    dsimp only
    split
    · rfl
    · rfl
  · rfl
theorem layNew_plain (t : SetTable) (es : Array (Int × Value)) (h : Int) (x : Value) : t.plain = false → (layNew t es h x).2.1.plain = false := by
  intro hp
  unfold layNew
  split
  · unfold SetTable.orStandIn
    dsimp only
    split
    · exact hp
    · rfl
  · rfl
theorem relaid_keeps {t t' : SetTable} {hs : Array Int} {n : Nat} {o : Array Nat} (h : t.relaid hs n = some (t', o)) : t'.led = t.led ∧ t'.plain = t.plain := by
  unfold SetTable.relaid SetTable.laid at h
  simp only [Option.bind_eq_bind, Option.bind_eq_some_iff] at h
  obtain ⟨a, _, e⟩ := h
  cases e
  exact ⟨rfl, rfl⟩
theorem relay_led (t : SetTable) (es : Array (Int × Value)) (n : Nat) : (relayAll t es n).2.1.led = t.led ∧ (t.plain = false → (relayAll t es n).2.1.plain = false) := by
  unfold relayAll
  split
  · rename_i t' order hr
    obtain ⟨h1, h2⟩ := relaid_keeps hr
    dsimp only
    split
    · exact ⟨h1, fun q => h2.trans q⟩
    · exact ⟨rfl, fun _ => rfl⟩
  · exact ⟨rfl, fun _ => rfl⟩
theorem txts_kept {w : World} {h h' : Heap} {a : Addr} (x : Txts w h a) (e : ∀ o, h.get? a = some o → h'.get? a = some o) : Txts w h' a := let ⟨o, g, r⟩ := x; ⟨o, e o g, r⟩
section
variable {prog : Program} {w : World} {A : Around} {E : Value → Shared → Prop} {s : Shared}
theorem put_get {h : Heap} {a : Addr} {o : Obj} {es es' : Array (Int × Value)} {ep : Nat} {t t' : SetTable} (ho : h.get? a = some o) (hd : o.data = .set es ep t) : (h.update a (Obj.putSet es' t')).get? a = some { o with data := .set es' (ep + 1) t' } := by
  have := Heap.get?_update_self (Obj.putSet es' t') ho (by rw [putSet_of es' t' hd]; rfl)
  rw [putSet_of es' t' hd] at this
  exact this
theorem add_tail {g : Bool → Sem Unit} (hg : ∀ (b : Bool) (s₁ : Shared) (Q' : Unit → Shared → Prop), Q' () s₁ → wpAny (model prog w) A (g b) Q' E s₁)
    {a : Addr} {o : Obj} {es : Array (Int × Value)} {ep : Nat} {t : SetTable} (ho : s.heap.get? a = some o) (hex : o.ExactSet) (hd : o.data = .set es ep t)
    {es1 : Array (Int × Value)} {t2 : SetTable} {S' : Str → Bool} (hel1 : ElemsOf (PySem.strKind prog w) es1.toList) (hmem1 : ∀ k', S' k' = true ↔ ∃ e ∈ es1.toList, (PySem.strKind prog w).is k' e.2 = true)
    (hb1 : es1.size < scanBound) (hf2 : t2.fits es1.size = true) (hl2 : w.params.followText "set-order" = true ∨ t2.led = true) (hp2 : t2.plain = false) {wasDummy : Bool} {R : Option Bool → Shared → Prop}
    (h : ∀ h', Heap.SameBut a s.heap h' → h'.SetOf (PySem.strKind prog w) a S' es1.size → Txts w h' a → R (some true) { s with heap := h' }) :
    wpAny (model prog w) A (do
        storeSet a es1 t2
        if (!wasDummy && t2.tooFull) = true then do
            g (relayAll t2 es1 (SetTable.grown es1.size)).2.2
            storeSet a (relayAll t2 es1 (SetTable.grown es1.size)).1 (relayAll t2 es1 (SetTable.grown es1.size)).2.1
            pure (some true)
          else pure (some true)) R E s := by
  refine wpAny_bind (wpAny_storeSet_of ho hd ?_ (fits_of_scanBound hb1))
  obtain ⟨ho1, z1⟩ := SetOf_store (knd := PySem.strKind prog w) ho hex hd hel1 hmem1 hb1 hf2
  have sb1 := Heap.SameBut.update s.heap a (Obj.putSet es1 t2)
  split
  · have hp := relayAll_perm t2 es1 (SetTable.grown es1.size)
    have hfr := relayAll_fits t2 es1 (SetTable.grown es1.size)
    obtain ⟨r1, r2⟩ := relay_led t2 es1 (SetTable.grown es1.size)
    generalize hRl : relayAll t2 es1 (SetTable.grown es1.size) = Rl at hp hfr r1 r2 ⊢
    obtain ⟨es2, t3, gave2⟩ := Rl
    dsimp only at hp hfr r1 r2 ⊢
    have hel2 := hel1.perm hp
    have hmem2 : ∀ k', S' k' = true ↔ ∃ e ∈ es2.toList, (PySem.strKind prog w).is k' e.2 = true := fun k' => (hmem1 k').trans ⟨fun ⟨e, he, q⟩ => ⟨e, hp.mem_iff.mpr he, q⟩, fun ⟨e, he, q⟩ => ⟨e, hp.mem_iff.mp he, q⟩⟩
    have hsz : es2.size = es1.size := by rw [← Array.length_toList, hp.length_eq, Array.length_toList]
    have hb2 : es2.size < scanBound := by rw [hsz]; exact hb1
    refine wpAny_bind (hg _ _ _ (wpAny_bind (wpAny_storeSet_of ho1 rfl ?_ (fits_of_scanBound hb2))))
    obtain ⟨o2, z2⟩ := SetOf_store (knd := PySem.strKind prog w) ho1 hex rfl hel2 hmem2 hb2 hfr
    rw [hsz] at z2
    exact wpAny_pure (h _ (sb1.trans (Heap.SameBut.update _ a _)) z2 ⟨_, o2, _, _, _, rfl, by rw [r1]; exact hl2, .inr (r2 hp2)⟩)
  · exact wpAny_pure (h _ sb1 z1 ⟨_, ho1, _, _, _, rfl, hl2, .inr hp2⟩)
theorem add_txts {a : Addr} {S : Str → Bool} {n : Nat} {k : Str} {u : Tok} {Q : Bool → Shared → Prop} (zS : s.heap.SetOf (PySem.strKind prog w) a S n) (zT : Txts w s.heap a) (hroom : n + 1 < scanBound)
    (h : ∀ h', Heap.SameBut a s.heap h' → h'.SetOf (PySem.strKind prog w) a (fun k' => S k' || decide (k' = k)) (if S k then n else n + 1) → Txts w h' a → Q (!S k) { s with heap := h' }) :
    wpAny (model prog w) A (setAddHashed a (.str k u) ((PySem.strKind prog w).hash k)) Q E s := by
  have hkey : (PySem.strKind prog w).is k (.str k u) = true := by simp [PySem.strKind, Value.isStrOf]
  have hsc : (Value.str k u).scannable = true := rfl
  obtain ⟨o, es, ep, t, ho, hex, hd, hel, hmem, hb, hf, hn⟩ := id zS
  obtain ⟨o', ho', es', ep', t', hd', hled, hpl⟩ := id zT
  rw [ho] at ho'
  cases ho'
  rw [hd] at hd'
  cases hd'
  have hb1 : es.size + 1 < scanBound := by rw [hn]; exact hroom
  unfold setAddHashed setAddHashedIn
  refine wpAny_holding (wpAny_bind (wpAny_setState_of ho hd hf ?_))
  dsimp only
  rw [byScan_of hsc hb hel]
  simp only [↓reduceIte]
  unfold setAddByScan
  refine wpAny_bind (wpAny_bind (wpAny_rule (wpAny_bind (wpAny_setScan_of hkey ho hd hf hel ?_))))
  cases hr : List.findIdx? (fun e => (PySem.strKind prog w).is k e.2) es.toList with
  | some j =>
    dsimp only
    obtain ⟨hj, hpj, _⟩ := List.findIdx?_eq_some_iff_getElem.mp hr
    have hSk : S k = true := (hmem k).mpr ⟨es.toList[j], List.getElem_mem hj, hpj⟩
    refine wpAny_pure (wpAny_pure ?_)
    have e : s = { s with heap := s.heap } := by cases s; rfl
    have := h s.heap (Heap.SameBut.refl a s.heap) ⟨o, es, ep, t, ho, hex, hd, hel, fun k' => by
      rw [Bool.or_eq_true, decide_eq_true_eq, ← hmem k']
      exact ⟨fun hk => hk.elim id (fun e => e ▸ hSk), .inl⟩, hb, hf, by rw [hSk]; exact hn⟩ zT
    rw [hSk] at this; rw [e]; exact this
  | none =>
    dsimp only
    have hSk : S k = false := by
      cases hk : S k with
      | false => rfl
      | true => obtain ⟨e, he, hp⟩ := (hmem k).mp hk; have := List.findIdx?_eq_none_iff.mp hr e he; rw [hp] at this; exact Bool.noConfusion this
    have hgw : ∀ (b : Bool) {s₁ : Shared} {Q' : Unit → Shared → Prop}, Q' () s₁ → wpAny (model prog w) A (match b with | true => rule "set.scan.the-table-gave-way" | false => pure ()) Q' E s₁ :=
      fun b s₁ Q' hq => by cases b <;> first | exact wpAny_pure hq | exact wpAny_rule hq
    have hperm := layNew_perm t es ((PySem.strKind prog w).hash k) (.str k u)
    have hfits := layNew_fits t es ((PySem.strKind prog w).hash k) (.str k u)
    have hled1 := layNew_led t es ((PySem.strKind prog w).hash k) (.str k u)
    have hpl1 := layNew_plain t es ((PySem.strKind prog w).hash k) (.str k u)
    generalize hL : layNew t es ((PySem.strKind prog w).hash k) (.str k u) = L at hperm hfits hled1 hpl1 ⊢
    obtain ⟨es1, t1, wasDummy, gave⟩ := L
    dsimp only at hperm hfits hled1 hpl1 ⊢
    rw [Array.toList_push] at hperm
    have hel1 := (hel.push hkey hsc).perm hperm
    have hmem1 : ∀ k', (S k' || decide (k' = k)) = true ↔ ∃ e ∈ es1.toList, (PySem.strKind prog w).is k' e.2 = true := mem_push_iff hkey hmem hperm
    have hb1' : es1.size < scanBound := by rw [← Array.length_toList, hperm.length_eq, List.length_append, Array.length_toList]; simpa using hb1
    refine wpAny_bind (hgw _ ?_)
    have hsz1 : es1.size = n + 1 := by rw [← Array.length_toList, hperm.length_eq, List.length_append, Array.length_toList, hn]; rfl
    have hend : ∀ h', Heap.SameBut a s.heap h' → h'.SetOf (PySem.strKind prog w) a (fun k' => S k' || decide (k' = k)) es1.size → Txts w h' a → Q true { s with heap := h' } := by
      intro h' hsb z' zt; have := h h' hsb; rw [hSk] at this; rw [hsz1] at z'; exact this z' zt
    split
    · refine wpAny_bind ?_
      rw [hashByValue_scannable 8 hsc]
      refine wpAny_pure ?_
      refine add_tail ?_ ho hex hd hel1 hmem1 hb1' ?_ ?_ ?_ ?_
      · intro b s₁ Q' hq; cases b <;> first | exact wpAny_pure hq | exact wpAny_rule hq
      · exact SetTable.fits_plain_off hfits
      · show _ ∨ t1.led = true
        rw [hled1]; exact hled
      · rfl
      · intro h' hsb z' zt; dsimp only; exact wpAny_pure (hend h' hsb z' zt)
    · rename_i hnp
      refine wpAny_bind (wpAny_pure ?_)
      simp only [↓reduceIte]
      refine add_tail ?_ ho hex hd hel1 hmem1 hb1' hfits ?_ ?_ ?_
      · intro b s₁ Q' hq; cases b <;> first | exact wpAny_pure hq | exact wpAny_rule hq
      · rw [hled1]; exact hled
      · exact Bool.eq_false_iff.mpr hnp
      · intro h' hsb z' zt; dsimp only; exact wpAny_pure (hend h' hsb z' zt)
end
end L2.PU

set_option Elab.async false
set_option linter.all false
set_option maxRecDepth 100000
set_option maxHeartbeats 4000000
namespace L2.PU
open PySem PySem.Spec PyProof.Rows

/-! ### set(x) of texts -/
def addS (σ : List Str) (v : Str) : List Str := if σ.contains v then σ else σ ++ [v]
def metS (vs : List Str) : List Str := vs.foldl addS []
theorem metS_snoc (vs : List Str) (v : Str) : metS (vs ++ [v]) = addS (metS vs) v := by unfold metS; rw [List.foldl_append]; rfl
theorem addS_has (σ : List Str) (v k : Str) : (addS σ v).contains k = (σ.contains k || decide (k = v)) := by
  unfold addS
  by_cases h : σ.contains v = true
  · rw [if_pos h]
    by_cases e : k = v
    · subst e; rw [h]; simp
    · simp [e]
  · rw [if_neg h]
    by_cases e : k = v
    · subst e; simp
    · simp [e, List.contains_iff_mem]
theorem addS_len (σ : List Str) (v : Str) : (addS σ v).length = if σ.contains v then σ.length else σ.length + 1 := by unfold addS; split <;> simp
theorem metS_le (vs : List Str) : (metS vs).length ≤ vs.length := by
  have g : ∀ (vs σ : List Str), (vs.foldl addS σ).length ≤ σ.length + vs.length := by
    intro vs
    induction vs with
    | nil => intro σ; exact Nat.le_refl _
    | cons v vs ih =>
      intro σ
      rw [List.foldl_cons]
      have h1 := ih (addS σ v)
      have h2 : (addS σ v).length ≤ σ.length + 1 := by rw [addS_len]; split <;> omega
      rw [List.length_cons]
      omega
  have := g vs []
  unfold metS
  simpa using this
theorem metS_has (vs : List Str) (k : Str) : (metS vs).contains k = vs.contains k := by
  have g : ∀ (vs σ : List Str), (vs.foldl addS σ).contains k = (σ.contains k || vs.contains k) := by
    intro vs
    induction vs with
    | nil => intro σ; simp
    | cons v vs ih =>
      intro σ
      rw [List.foldl_cons, ih, addS_has, List.contains_cons]
      by_cases e : k = v
      · subst e; simp
      · have e' : (k == v) = false := by simpa using e
        simp [e, e']
  have := g vs []
  unfold metS
  simpa using this
section
variable {prog : Program} {w : World} {A : Around} {R : Result → Shared → Prop} {I : Addr} {fp wr : List Addr} {G : Array GenState → Array GenState → Prop} {n : Nat} {P : Nat → Value → Prop} {St : Nat → Shared → Prop}
theorem setOf_same {h : Heap} {a : Addr} {σ τ : List Str} {m : Nat} {S : Str → Bool} (z : h.SetOf (PySem.strKind prog w) a S m) (e : ∀ k, S k = τ.contains k) (en : m = τ.length) : h.SetOf (PySem.strKind prog w) a (fun k => τ.contains k) τ.length := by
  have e' : S = fun k => τ.contains k := funext e
  subst e' en
  exact z
theorem setOf_kept {h h' : Heap} {a : Addr} {m : Nat} {S : Str → Bool} (z : h.SetOf (PySem.strKind prog w) a S m) (e : ∀ o, h.get? a = some o → h'.get? a = some o) : h'.SetOf (PySem.strKind prog w) a S m := by
  obtain ⟨o, es, ep, t, ho, rest⟩ := z
  exact ⟨o, es, ep, t, e o ho, rest⟩
theorem set_loop (W : WalksS prog w A.in1 I fp wr G n P St) (S : Addr) (hSf : S ∉ fp) (vs : List Str) (hn : vs.length = n) (hval : ∀ i v, P i v → ∃ t, v = .str (vs.getD i Str.empty) t) (hb : n + 1 < scanBound) :
    ∀ (k i : Nat) (s : Shared), n - i = k → i ≤ n → St i s → s.heap.SetOf (PySem.strKind prog w) S (fun k => (metS (vs.take i)).contains k) (metS (vs.take i)).length → Txts w s.heap S →
      (∀ s', Moved (S :: wr) G s s' → s'.heap.SetOf (PySem.strKind prog w) S (fun k => (metS vs).contains k) (metS vs).length → Txts w s'.heap S → R (.ok (.ret .none)) s') →
      codeAny (model prog w) A (.builtin "set.update.loop" ⟨[.ref S, .ref I], []⟩) R s := by
  have nw : S ∉ wr := fun z => hSf (W.sub _ z)
  have up : ∀ b ∈ wr, b ∈ S :: wr := fun b q => List.mem_cons_of_mem _ q
  intro k
  induction k with
  | zero =>
    intro i s hk hi st zS zT q
    have ei : i = n := by omega
    subst ei
    rw [← hn, List.take_length] at zS
    refine codeAny_builtin PyProof.Rows.F.entry_set_update_loop ?_
    rw [Around.under_plainId PyProof.Rows.F.plain_set_update_loop _]
    show wpAny _ A.in1 (pyNext (.ref I) >>= _) _ _ s
    refine wpAny_bind (W.done s _ _ st fun s' m => ?_)
    exact wpAny_pure (q s' (m.mono up) (setOf_kept zS fun o e => m.heap S o nw e) (txts_kept zT fun o e => m.heap S o nw e))
  | succ k ih =>
    intro i s hk hi st zS zT q
    have lt : i < n := by omega
    refine codeAny_builtin PyProof.Rows.F.entry_set_update_loop ?_
    rw [Around.under_plainId PyProof.Rows.F.plain_set_update_loop _]
    show wpAny _ A.in1 (pyNext (.ref I) >>= _) _ _ s
    refine wpAny_bind (W.item i s _ _ lt st fun v s' hP st' m => ?_)
    obtain ⟨t, rfl⟩ := hval i v hP
    have zS' := setOf_kept zS fun o e => m.heap S o nw e
    have zT' := txts_kept zT fun o e => m.heap S o nw e
    show wpAny _ A.in1 (holding [Value.str (vs.getD i Str.empty) t] (setAdd S (.str (vs.getD i Str.empty) t)) >>= _) _ _ s'
    refine wpAny_bind (wpAny_holding ?_)
    unfold setAdd
    have key : (PySem.strKind prog w).is (vs.getD i Str.empty) (.str (vs.getD i Str.empty) t) = true := by simp [PySem.strKind, Value.isStrOf]
    refine wpAny_holding (wpAny_bind ((PySem.strKind prog w).pyHash key ?_))
    have room : (metS (vs.take i)).length + 1 < scanBound := by
      have := metS_le (vs.take i)
      rw [List.length_take] at this
      omega
    refine add_txts (s := { s' with toks := s'.toks + 1 }) zS' zT' room fun h' sb z2 zt2 => ?_
    have es : metS (vs.take (i + 1)) = addS (metS (vs.take i)) (vs.getD i Str.empty) := by
      have hlt : i < vs.length := by omega
      rw [← metS_snoc, List.take_succ, List.getElem?_eq_getElem hlt, List.getD_eq_getElem?_getD, List.getElem?_eq_getElem hlt]
      rfl
    have z3 : h'.SetOf (PySem.strKind prog w) S (fun k => (metS (vs.take (i + 1))).contains k) (metS (vs.take (i + 1))).length :=
      setOf_same (σ := []) z2 (fun k' => by rw [es, addS_has]) (by rw [es, addS_len])
    refine wpAny_pure ⟨plainId_quiet PyProof.Rows.F.plain_set_update_loop _, ih (i + 1) _ (by omega) lt (W.frame _ s' _ _ st' (Nat.le_succ _) fun b hb' o e => ?_) z3 zt2 fun s'' m'' z'' zt'' => ?_⟩
    · rw [sb.2 b (fun z : b = S => hSf (by rw [← z]; exact hb'))]; exact e
    · refine q s'' (Moved.trans W.gtrans ((m.mono up).then_heap (Nat.le_succ _) fun b o hb' e => ?_) m'') z'' zt''
      rw [sb.2 b (fun z : b = S => hb' (by rw [z]; exact List.mem_cons_self))]; exact e
end
def ledW (w : World) : Bool := !w.params.followText "set-order"
abbrev setO (led : Bool) : Obj := { cls := .type "set", dict := none, data := .set #[] 0 (.fresh 0 0 led) }
theorem sub_tuple_set : isSubtype (.type "tuple") (.type "set") = pure false := by rw [isSubtype_type]; kernel_rfl
theorem sub_tuple_frozenset : isSubtype (.type "tuple") (.type "frozenset") = pure false := by rw [isSubtype_type]; kernel_rfl
theorem txts_new {w : World} {h : Heap} {a : Addr} (e : h.get? a = some (setO (ledW w))) : Txts w h a := by
  refine ⟨_, e, #[], 0, _, rfl, ?_, .inl rfl⟩
  show _ ∨ ledW w = true
  unfold ledW
  cases w.params.followText "set-order" <;> simp
section
variable {prog : Program} {w : World} {A : Around} {E : Value → Shared → Prop} {s : Shared}
theorem code_set_led (a : Value) {Q₁ : Value → Shared → Prop} (h : Q₁ (.ref s.heap.objs.size) { s with heap := s.heap.push (setO (ledW w)) }) :
    codeAny (model prog w) A (.call (.builtin "set.__new__") ⟨[.type "set", a], []⟩) (wants Q₁ E) s := by
  refine codeAny_of_tree (show wpAny _ A.in1 (do checkBuiltinCall "set.__new__" ⟨[.type "set", a], []⟩; again (.builtin "set.__new__" ⟨[.type "set", a], []⟩)) _ _ s from ?_)
  refine wpAny_bind (wpAny_of_eq (F.newCall_set_1 a) (wpAny_pure ⟨plainId_quiet F.plain_set_new _, codeAny_builtin F.entry_set_new ?_⟩))
  rw [Around.under_plainId F.plain_set_new _]
  unfold Builtin.«set.__new__» Builtin.Frozenset.newClass
  have hsub := sub_set_self
  obtain ⟨hp, g, d, tk, os⟩ := s
  dsimp only
  wp_walk
  refine wpAny_askSetting (wpAny_pure ?_)
  dsimp only
  simp only [newObj]
  exact wpAny_bind (wpAny_alloc (wpAny_pure (wpAny_pure h)))
/-- an iterator of a list or a tuple, made and walked -/
theorem seq_walk {l : Addr} {items : Array Value} {T : String} {o : Obj} {nn : Nat} {Q : Value → Shared → Prop} (hT : T = "list" ∨ T = "tuple") (hh : A.handled = none) (ho : s.heap.get? l = some o) (hc : o.cls = .type T) (hd : o.data = .seq items nn)
    (h : ∀ (ob : Obj) (St : Nat → Heap → Prop), (∀ A', A'.handled = none → Walks prog w A' s.heap.objs.size [s.heap.objs.size, l] [s.heap.objs.size] items.size (fun i v => items[i]? = some v) St) → St 0 (s.heap.push ob) → Q (.ref s.heap.objs.size) { s with heap := s.heap.push ob }) :
    wpAny (model prog w) A (pyIter (.ref l)) Q E s := by
  have lt : l < s.heap.objs.size := Heap.lt_size ho
  rcases hT with rfl | rfl
  · have hl : s.heap.IsList l items := ⟨o, ho, hc, nn, hd⟩
    exact wpAny_pyIter_list hl (h _ _ (fun A' hA => Walks.list hA _ l (Nat.ne_of_lt lt) items) ⟨⟨_, Heap.get?_push_size _ rfl, rfl, rfl⟩, hl.push _⟩)
  · have hl : s.heap.IsTuple l items := ⟨o, ho, hc, nn, hd⟩
    exact wpAny_pyIter_tuple hl (h _ _ (fun A' hA => Walks.tuple hA _ l (Nat.ne_of_lt lt) items) ⟨⟨_, Heap.get?_push_size _ rfl, rfl, rfl⟩, hl.push _⟩)
theorem call_set_seq {l : Addr} {items : Array Value} {T : String} {o : Obj} {nn : Nat} {vs : List Str} {Q : Value → Shared → Prop} (hT : T = "list" ∨ T = "tuple") (hh : A.handled = none) (ho : s.heap.get? l = some o) (hc : o.cls = .type T) (hd : o.data = .seq items nn)
    (hv : ∀ (i : Nat) (v : Value), items[i]? = some v → ∃ t, v = Value.str (vs.getD i Str.empty) t) (hn : vs.length = items.size) (hb : items.size + 1 < scanBound)
    (h : ∀ (h' : Heap) (tk : Nat), h'.SetOf (PySem.strKind prog w) s.heap.objs.size (fun k => (metS vs).contains k) (metS vs).length → Txts w h' s.heap.objs.size → (∀ b u, s.heap.get? b = some u → h'.get? b = some u) → Q (.ref s.heap.objs.size) { s with heap := h', toks := tk }) :
    wpAny (model prog w) A (call (.type "set") [.ref l]) Q E s := by
  obtain ⟨c, tl, hmro⟩ := F.called_set.mro
  have hmade := F.called_set.made
  have hsub := F.called_set.sub
  have lt : l < s.heap.objs.size := Heap.lt_size ho
  refine wpAny_call (codeAny_of_tree ?_)
  show wpAny _ _ (callAny (.type "set") _) _ _ _
  refine wpAny_pure ⟨Code.quiet_builtin _ (by decide +kernel), codeAny_builtin F.entry_type_call ?_⟩
  rw [Around.under_plain (weight_type_call_type "set" [.ref l] []) rfl]
  have h1 := F.called_set.notType
  have h2 := F.called_set.canCreate
  have hct := F.typeCall_set_1 (.ref l)
  repeat (any_goals (first | assumption | wp_step))
  refine codeAny_mono (code_set_led (.ref l) (E := E) (Q₁ := fun obj s₁ => ∃ led : Bool, led = ledW w ∧ obj = .ref s.heap.objs.size ∧ s₁ = { s with heap := s.heap.push (setO led) }) ⟨_, rfl, rfl, rfl⟩) fun r s₁ hr => ?_
  cases r with
  | error e => exact hr
  | ok fl =>
    cases fl with
    | ret obj =>
      obtain ⟨led, hled, rfl, rfl⟩ := hr
      have zS : (s.heap.push (setO led)).get? s.heap.objs.size = some (setO led) := Heap.get?_push_size _ rfl
      have tS : Shared.TypeIs { s with heap := s.heap.push (setO led) } (.ref s.heap.objs.size) "set" := ⟨_, zS, rfl⟩
      have hli := F.called_set.init.lookup
      have hbi := F.called_set.init.bind (.ref s.heap.objs.size)
      repeat (any_goals (first | assumption | wp_step))
      refine codeAny_mono (codeAny_call_builtin (R := wants (fun r s₂ => r = .none ∧ ∃ h' tk, s₂ = { s with heap := h', toks := tk } ∧ h'.SetOf (PySem.strKind prog w) s.heap.objs.size (fun k => (metS vs).contains k) (metS vs).length ∧ Txts w h' s.heap.objs.size ∧
          (∀ b u, s.heap.get? b = some u → h'.get? b = some u)) E) F.called_set.init.plain F.entry_set_init (check_set_init_1 tS ?_)) fun r₂ s₂ hr₂ => ?_
      · have ho' : (s.heap.push (setO led)).get? l = some o := Heap.get?_push_of_some _ ho
        have tL : Shared.TypeIs { s with heap := s.heap.push (setO led) } (.ref l) T := ⟨o, ho', hc⟩
        have ns : isSubtype (.type T) (.type "set") = pure false := by rcases hT with rfl | rfl <;> first | exact F.sub_list_set | exact sub_tuple_set
        have nf : isSubtype (.type T) (.type "frozenset") = pure false := by rcases hT with rfl | rfl <;> first | exact F.sub_list_frozenset | exact sub_tuple_frozenset
        have nd : (Value.type T == Value.type "dict") = false := by rcases hT with rfl | rfl <;> decide
        unfold Builtin.«set.__init__» noKeywords Builtin.Frozenset.updateFrom
        generalize hPI : pyIter = PI
        wp_walk
        subst hPI
        refine seq_walk (A := A.in1.in1) hT (by simp [hh]) ho' hc hd fun ob St W st0 => ?_
        refine wpAny_bind (wpAny_runValue ?_)
        have sz : (s.heap.push (setO led)).objs.size = s.heap.objs.size + 1 := Heap.size_push _ _
        have apart : s.heap.objs.size ∉ [(s.heap.push (setO led)).objs.size, l] := by
          rw [sz]
          simp only [List.mem_cons, List.not_mem_nil, or_false, not_or]
          exact ⟨by omega, Nat.ne_of_gt lt⟩
        refine set_loop ((W _ (by simp [hh])).toS) s.heap.objs.size apart vs hn (fun i v q => hv i v q) hb (items.size - 0) 0 _ (by omega) (Nat.zero_le _) st0 ?_ ?_ fun s' m z' zt' => ?_
        · exact setOf_same (σ := []) (τ := []) ((PyProof.Rows.setObjOf_fresh (knd := PySem.strKind prog w) led).setOf (Heap.get?_push_of_some _ zS) (by decide)) (fun _ => rfl) rfl
        · exact txts_new (by rw [← hled]; exact Heap.get?_push_of_some _ zS)
        · obtain ⟨h', g', d', tk', os'⟩ := s'
          have eg : g' = s.gens := m.gens
          have ed : d' = s.drawn := m.drawn
          have eo : os' = s.os := m.os
          subst eg ed eo
          refine wpAny_pure (show wpAny _ _ (ret Value.none) _ _ _ from wpAny_pure ⟨rfl, h', tk', rfl, z', zt', fun b u q => ?_⟩)
          have lb := Heap.lt_size q
          refine m.heap b u ?_ (Heap.get?_push_of_some _ (Heap.get?_push_of_some _ q))
          rw [sz]
          simp only [List.mem_cons, List.not_mem_nil, or_false, not_or]
          have lb' : b < s.heap.objs.size := lb
          exact ⟨Nat.ne_of_lt lb', Nat.ne_of_lt (Nat.lt_succ_of_lt lb')⟩
      · cases r₂ with
        | error e => exact hr₂
        | ok fl₂ =>
          cases fl₂ with
          | ret r =>
            obtain ⟨rfl, h', tk, rfl, z', zt', k'⟩ := hr₂
            repeat (any_goals (first | assumption | wp_step))
            exact h _ _ z' zt' k'
          | _ => exact hr₂.elim
    | _ => exact hr.elim
end

/-! ### a != b of sets of texts -/
theorem entry_set_ne : entryFor table "set.__ne__" = some Builtin.«frozenset.__ne__» :=
  entryFor_alias (id' := "frozenset.__ne__") (by kernel_rfl) rfl (by decide +kernel) (by kernel_rfl)
def subS (a b : List Str) : Bool := decide (a.length ≤ b.length) && a.all fun k => b.contains k
section
variable {prog : Program} {w : World} {A : Around} {E : Value → Shared → Prop} {s : Shared}
theorem walk_unseen {a b : Addr} {o1 o2 : Obj} {es1 es2 : Array (Int × Value)} {ep1 ep2 : Nat} {t1 t2 : SetTable} {Q : List (Int × Value) → Shared → Prop} (h1 : s.heap.get? a = some o1) (d1 : o1.data = .set es1 ep1 t1) (f1 : t1.fits es1.size = true) (el1 : ElemsOf (PySem.strKind prog w) es1.toList)
    (h2 : s.heap.get? b = some o2) (d2 : o2.data = .set es2 ep2 t2) (f2 : t2.fits es2.size = true) (el2 : ElemsOf (PySem.strKind prog w) es2.toList) (q : Q es1.toList s) : wpAny (model prog w) A (Builtin.Frozenset.walkUnseen a b) Q E s := by
  unfold Builtin.Frozenset.walkUnseen
  refine wpAny_bind (wpAny_setEntries_of h1 d1 f1 ?_)
  refine wpAny_bind (wpAny_setEntries_of h2 d2 f2 ?_)
  have tx : ∀ e ∈ es1.toList ++ es2.toList, ∃ z t, e.2 = Value.str z t := fun e he => by
    rcases List.mem_append.mp he with he | he
    · obtain ⟨⟨z, hz, _⟩, _⟩ := el1 e he
      exact ⟨z, Value.isStrOf_shape hz⟩
    · obtain ⟨⟨z, hz, _⟩, _⟩ := el2 e he
      exact ⟨z, Value.isStrOf_shape hz⟩
  refine wpAny_bind (wpAny_forIn_list _ (fun rest st s' => s' = s ∧ st = (none, ()) ∧ ∀ e ∈ rest, ∃ z t, e.2 = Value.str z t) _ (fun e rest st s' ⟨e1, e2, he⟩ => ?_) (fun st s' ⟨e1, e2, _⟩ => ?_) _ _ ⟨rfl, rfl, tx⟩)
  · subst e1 e2
    obtain ⟨hv, v⟩ := e
    obtain ⟨z, t, ev⟩ := he _ List.mem_cons_self
    dsimp only at ev
    subst ev
    show wpAny _ _ (Builtin.Frozenset.quietEq (.str z t) >>= _) _ _ _
    refine wpAny_bind (show wpAny _ _ (pure true) _ _ _ from wpAny_pure ?_)
    exact wpAny_pure ⟨rfl, rfl, fun e q => he e (List.mem_cons_of_mem _ q)⟩
  · subst e1 e2
    exact wpAny_pure q
def hasS (y : List Str) : Int × Value → Bool
  | (_, .str k _) => y.contains k
  | _ => false
theorem all_has {es : List (Int × Value)} {x y : List Str} (el : ElemsOf (PySem.strKind prog w) es) (m : ∀ k, x.contains k = true ↔ ∃ e ∈ es, (PySem.strKind prog w).is k e.2 = true) : (x.all fun k => y.contains k) = es.all (hasS y) := by
  rw [Bool.eq_iff_iff, List.all_eq_true, List.all_eq_true]
  constructor
  · intro h e he
    obtain ⟨⟨z, hz, _⟩, _⟩ := el e he
    obtain ⟨t, ez⟩ := Value.isStrOf_shape hz
    obtain ⟨i, v⟩ := e
    dsimp only at ez hz
    subst ez
    exact h z (List.contains_iff_mem.mp ((m z).mpr ⟨_, he, hz⟩))
  · intro h k hk
    obtain ⟨e, he, hz⟩ := (m k).mp (List.contains_iff_mem.mpr hk)
    obtain ⟨t, ez⟩ := Value.isStrOf_shape hz
    have := h e he
    obtain ⟨i, v⟩ := e
    dsimp only at ez
    subst ez
    exact this
theorem set_ne_body {a b : Addr} {x y : List Str} {Q : Value → Shared → Prop} (zx : s.heap.SetOf (PySem.strKind prog w) a (fun k => x.contains k) x.length) (zy : s.heap.SetOf (PySem.strKind prog w) b (fun k => y.contains k) y.length)
    (q : Q (.bool (!(decide (x.length = y.length) && x.all fun k => y.contains k))) s) : wpAny (model prog w) A (Builtin.«frozenset.__ne__» ⟨[.ref a, .ref b], []⟩) (fun fin s' => ∃ r, fin = .done (.ret r) ∧ Q r s') E s := by
  obtain ⟨⟨c1, d1, x1, l1⟩, es1, ep1, t1, o1, ⟨k1, _, _⟩, e1, el1, m1, b1, f1, n1⟩ := id zx
  obtain ⟨⟨c2, d2, x2, l2⟩, es2, ep2, t2, o2, ⟨k2, _, _⟩, e2, el2, m2, b2, f2, n2⟩ := id zy
  dsimp only at k1 e1 k2 e2
  subst k1 e1 k2 e2
  have hs := sub_set_self
  have hf := F.sub_set_frozenset
  unfold Builtin.«frozenset.__ne__»
  wp_walk using wpAny_setEntries_of o1 rfl f1, wpAny_setEntries_of o2 rfl f2, AutoSeq1.wpAny_loadPart' o1, AutoSeq1.wpAny_loadPart' o2
  by_cases hz : es1.size = es2.size
  · rw [if_neg (by simp [hz])]
    unfold Builtin.Frozenset.subsetOf
    wp_walk using wpAny_setEntries_of o1 rfl f1, wpAny_setEntries_of o2 rfl f2, AutoSeq1.wpAny_loadPart' o1, AutoSeq1.wpAny_loadPart' o2
    have eq : (decide (x.length = y.length) && x.all fun k => y.contains k) = es1.toList.all (hasS y) := by
      have e : decide (x.length = y.length) = true := decide_eq_true (by omega)
      rw [e, Bool.true_and, all_has el1 m1]
    rw [eq] at q
    rw [if_neg (by omega)]
    refine wpAny_bind (wpAny_setEpoch_of o1 rfl f1 ?_)
    refine wpAny_bind (walk_unseen o1 rfl f1 el1 o2 rfl f2 el2 ?_)
    refine wpAny_bind (wpAny_forIn_list _ (fun rest st s' => s' = s ∧ st = (none, ()) ∧ (∀ e ∈ rest, e ∈ es1.toList) ∧ es1.toList.all (hasS y) = rest.all (hasS y)) _ (fun e rest st s' ⟨e1, e2, he, ha⟩ => ?_) (fun st s' ⟨e1, e2, _, ha⟩ => ?_) _ _ ⟨rfl, rfl, fun _ q => q, rfl⟩)
    · subst e1 e2
      obtain ⟨⟨z, hz, hh⟩, sc⟩ := el1 e (he e List.mem_cons_self)
      obtain ⟨t, ez⟩ := Value.isStrOf_shape hz
      obtain ⟨i, v⟩ := e
      dsimp only at ez hz hh sc
      subst ez hh
      show wpAny _ _ (holding [Value.str z t] (setFind b (.str z t) ((PySem.strKind prog w).hash z)) >>= _) _ _ _
      refine wpAny_bind (wpAny_holding (wpAny_setFind_of hz sc zy fun r hr => ?_))
      cases hc : y.contains z with
      | true =>
        rw [hc] at hr
        have hn : ¬ r.isNone = true := by cases r <;> simp_all
        rw [if_neg hn]
        unfold Builtin.Frozenset.unchanged
        refine wpAny_bind (wpAny_bind (wpAny_setEpoch_of o1 rfl f1 ?_))
        rw [if_neg (by simp)]
        refine wpAny_pure (wpAny_pure ⟨rfl, rfl, fun e q => he e (List.mem_cons_of_mem _ q), ?_⟩)
        rw [ha, List.all_cons]
        show (y.contains z && _) = _
        rw [hc, Bool.true_and]
      | false =>
        rw [hc] at hr
        have hn : r.isNone = true := by cases r <;> simp_all
        rw [if_pos hn]
        refine wpAny_pure (wpAny_pure (wpAny_pure ⟨_, rfl, ?_⟩))
        have e0 : es1.toList.all (hasS y) = false := by
          rw [ha, List.all_cons]
          show (y.contains z && _) = _
          rw [hc, Bool.false_and]
        rw [e0] at q
        exact q
    · subst e1 e2
      refine wpAny_pure (wpAny_pure ⟨_, rfl, ?_⟩)
      rw [ha] at q
      exact q
  · rw [if_pos (by simp [hz])]
    refine wpAny_pure (wpAny_pure ⟨_, rfl, ?_⟩)
    have e : decide (x.length = y.length) = false := decide_eq_false (by omega)
    rw [e] at q
    exact q
end
end L2.PU

set_option Elab.async false
set_option linter.all false
set_option maxRecDepth 100000
set_option maxHeartbeats 4000000
namespace L2.PU
open PySem PySem.Spec PyProof.Rows

/-! ### t.index(x): texts -/
section
variable {prog : Program} {w : World} {A : Around} {E : Value → Shared → Prop} {s : Shared}
theorem tuple_index_body {a : Addr} {items : Array Value} {x : Str} {t : Tok} {j : Nat} {Q : Value → Shared → Prop} (ht : IsTup s.heap a items) (tx : ∀ (i : Nat) (v : Value), items[i]? = some v → ∃ z u, v = Value.str z u)
    (hj : j < items.size) (hit : ∃ u, items[j]? = some (.str x u)) (hno : ∀ (m : Nat) (u : Tok), m < j → items[m]? ≠ some (.str x u)) (q : Q (.int j s.toks) { s with toks := s.toks + 1 }) :
    wpAny (model prog w) A (Builtin.«tuple.index» ⟨[.ref a, .str x t], []⟩) (fun fin s' => ∃ r, fin = .done (.ret r) ∧ Q r s') E s := by
  obtain ⟨⟨c1, d1, x1, l1⟩, o1, k1, n1, e1⟩ := ht
  dsimp only at k1 e1
  subst k1 e1
  unfold Builtin.«tuple.index»
  simp only [Std.Legacy.Range.forIn_eq_forIn_range']
  wp_walk using AutoSeq1.wpAny_loadPart' o1
  refine wpAny_forIn_list _ (fun rest st s' => s' = s ∧ st = (none, ()) ∧ ∃ i, i ≤ j ∧ rest = List.range' i (items.size - i)) _ ?turn ?fin _ _ ⟨rfl, rfl, 0, Nat.zero_le _, by simp [Std.Legacy.Range.size]⟩
  case turn =>
    intro e rest st s' ⟨e1, e2, i, hi, er⟩
    subst e1 e2
    have hs : items.size - i = (items.size - i - 1) + 1 := by omega
    rw [hs, List.range'_succ] at er
    injection er with er1 er2
    subst er1
    have hlt : e < items.size := by omega
    obtain ⟨z, u, hz⟩ := tx e items[e] (by simp [hlt])
    have hg : items[e]? = some (.str z u) := by rw [← hz]; simp [hlt]
    rw [hg]
    show wpAny _ _ (eqBool (.str z u) (.str x t) >>= _) _ _ _
    refine wpAny_bind (wpAny_eqBool_str ?_)
    by_cases ez : z = x
    · subst ez
      have ej : e = j := by
        rcases Nat.lt_or_ge e j with h | h
        · exact absurd hg (hno e u h)
        · omega
      subst ej
      rw [if_pos (by simp)]
      unfold retInt
      refine wpAny_bind (wpAny_bind (wpAny_mkInt (wpAny_pure (wpAny_pure (wpAny_pure ⟨_, rfl, q⟩)))))
    · rw [if_neg (by simp [ez])]
      have nej : e ≠ j := fun z' => by
        subst z'
        obtain ⟨u', hu⟩ := hit
        rw [hg] at hu
        injection hu with hu
        injection hu with hu1 hu2
        exact ez hu1
      refine wpAny_pure ⟨rfl, rfl, e + 1, by omega, ?_⟩
      rw [er2]
      congr 1
  case fin =>
    intro st s' ⟨e1, e2, i, hi, er⟩
    exfalso
    have hs : items.size - i = (items.size - i - 1) + 1 := by omega
    rw [hs, List.range'_succ] at er
    cases er
end
end L2.PU

set_option Elab.async false
set_option linter.all false
set_option maxRecDepth 100000
set_option maxHeartbeats 4000000
namespace L2.PU
open PySem PySem.Spec PyProof.Rows

/-! ### reversed(t) of a tuple, and the tuple of it -/
theorem slot_rev_next : PySem.Slot "reversed" "__next__" "reversed.__next__" := .of (owner := "reversed") (n := "__next__") (by rw [typeLookup_type, builtinLookup_eq_fast]; kernel_rfl) (by decide +kernel) (by decide +kernel) (by decide +kernel) (by first | exact .inl (by decide +kernel) | exact .inr (by decide +kernel)) (by rw [isSubtype_type]; kernel_rfl)
theorem slot_rev_iter : PySem.Slot "reversed" "__iter__" "reversed.__iter__" := .of (owner := "reversed") (n := "__iter__") (by rw [typeLookup_type, builtinLookup_eq_fast]; kernel_rfl) (by decide +kernel) (by decide +kernel) (by decide +kernel) (by first | exact .inl (by decide +kernel) | exact .inr (by decide +kernel)) (by rw [isSubtype_type]; kernel_rfl)
theorem slot_rev_init : PySem.Slot "reversed" "__init__" "object.__init__" := .of (owner := "object") (n := "__init__") (by rw [typeLookup_type, builtinLookup_eq_fast]; kernel_rfl) (by decide +kernel) (by decide +kernel) (by decide +kernel) (by first | exact .inl (by decide +kernel) | exact .inr (by decide +kernel)) (by rw [isSubtype_type]; kernel_rfl)
theorem entry_rev_next : entryFor table "reversed.__next__" = some Builtin.«reversed.__next__» := entryFor_of_tree (by kernel_rfl)
theorem entry_rev_new : entryFor table "reversed.__new__" = some Builtin.«reversed.__new__» := entryFor_of_tree (by kernel_rfl)
theorem plain_rev_new : plainId "reversed.__new__" = true := by decide +kernel
theorem args_rev_next (a : Value) : argsOk "reversed.__next__" ⟨[a], []⟩ := by unfold argsOk; kernel_rfl
theorem args_rev_iter (a : Value) : argsOk "reversed.__iter__" ⟨[a], []⟩ := by unfold argsOk; kernel_rfl
theorem mro_rev : mroOf (.type "reversed") = pure [.type "reversed", .type "object"] := by rw [mroOf_type]; kernel_rfl
theorem look_rev_new : typeLookup (.type "reversed") "__new__" = pure (some (.builtin "reversed.__new__")) := by rw [typeLookup_type, builtinLookup_eq_fast]; kernel_rfl
theorem called_rev : TypeCalled "reversed" "reversed.__new__" "object.__init__" := ⟨by decide +kernel, by decide +kernel, ⟨_, _, mro_rev⟩, madeBy_type mro_rev look_rev_new (by decide +kernel), by decide +kernel, by rw [isSubtype_type]; kernel_rfl, slot_rev_init⟩
theorem type_rev_1 (a : Value) : checkTypeCall "reversed" ⟨[a], []⟩ = pure () := by kernel_rfl
theorem new_rev_1 (a : Value) : checkBuiltinCall "reversed.__new__" ⟨[.type "reversed", a], []⟩ = pure () := by kernel_rfl
theorem sub_rev : isSubtype (.type "reversed") (.type "reversed") = pure true := by rw [isSubtype_type]; kernel_rfl
theorem norev_tuple : typeLookup (.type "tuple") (Str.ofString "__reversed__") = pure none := by rw [typeLookup_type, builtinLookup_eq_fast]; kernel_rfl
theorem sub_tuple_dict : isSubtype (.type "tuple") (.type "dict") = pure false := by rw [isSubtype_type]; kernel_rfl
abbrev revO (t : Addr) (k : Int) : Obj := { cls := .type "reversed", data := .fields #[.ref t, rawInt k] }
section
variable {prog : Program} {w : World} {A : Around} {E : Value → Shared → Prop} {s : Shared}
theorem code_rev_new {t : Addr} {items : Array Value} {Q₁ : Value → Shared → Prop} (ht : IsTup s.heap t items) (hz : items.size ≤ sizeLine)
    (h : ∀ tk, Q₁ (.ref s.heap.objs.size) { s with heap := s.heap.push (revO t ((items.size : Int) - 1)), toks := tk }) :
    codeAny (model prog w) A (.call (.builtin "reversed.__new__") ⟨[.type "reversed", .ref t], []⟩) (wants Q₁ E) s := by
  obtain ⟨⟨c1, d1, x1, l1⟩, o1, k1, n1, e1⟩ := id ht
  dsimp only at k1 e1
  subst k1 e1
  refine codeAny_of_tree ?_
  show wpAny _ A.in1 (do checkBuiltinCall "reversed.__new__" ⟨[.type "reversed", .ref t], []⟩; again (.builtin "reversed.__new__" ⟨[.type "reversed", .ref t], []⟩)) _ _ s
  refine wpAny_bind (wpAny_of_eq (new_rev_1 _) (wpAny_pure ⟨plainId_quiet plain_rev_new _, codeAny_builtin entry_rev_new ?_⟩))
  rw [Around.under_plainId plain_rev_new _]
  have hs := sub_rev
  have hd := sub_tuple_dict
  have hno := norev_tuple
  have hg := PyProof.Rows.slot_tuple_getitem.lookup
  unfold Builtin.«reversed.__new__»
  have hfit : (items.size : Int) < 2 ^ 63 := by have : sizeLine = 16777216 := sizeLine_eq; omega
  wp_walk using AutoSeq1.wpAny_loadPart' o1, len_tuple ht hfit
  exact h _
theorem call_rev {t : Addr} {items : Array Value} {Q : Value → Shared → Prop} (ht : IsTup s.heap t items) (hz : items.size ≤ sizeLine)
    (h : ∀ tk, Q (.ref s.heap.objs.size) { s with heap := s.heap.push (revO t ((items.size : Int) - 1)), toks := tk }) : wpAny (model prog w) A (call (.type "reversed") [.ref t]) Q E s := by
  refine callType_codes (Q₁ := fun obj s₁ => s₁.TypeIs obj "reversed" ∧ Q obj s₁) called_rev (type_rev_1 _) F.entry_object_init (code_rev_new ht hz fun tk => ⟨⟨_, Heap.get?_push_size _ rfl, rfl⟩, h tk⟩) fun obj s₁ h₁ => ?_
  exact ⟨h₁.1, F.args_object_init_2 obj _, object_init_meets called_rev.init.lookup called_rev.made (by decide) prog w A.in1 _ s₁ ⟨h₁.1, rfl, h₁.2⟩⟩
end
end L2.PU

set_option Elab.async false
set_option linter.all false
set_option maxRecDepth 100000
set_option maxHeartbeats 400000
namespace L2.PU
open PySem PySem.Spec PyProof.Rows
section
variable {prog : Program} {w : World} {A : Around} {E : Value → Shared → Prop} {s : Shared}
/-- the iterator, i items drawn -/
def IsRev (h : Heap) (it t : Addr) (k : Int) : Prop := ∃ o, h.get? it = some o ∧ o.cls = .type "reversed" ∧ o.data = .fields #[.ref t, rawInt k]
theorem rev_item {it t : Addr} {items : Array Value} {k : Nat} {x : Value} {Q : Option Value → Shared → Prop} (hi : IsRev s.heap it t k) (ht : IsTup s.heap t items) (hx : items[k]? = some x) (hz : items.size ≤ sizeLine) (ne : t ≠ it)
    (q : ∀ h' tk, IsRev h' it t ((k : Int) - 1) → Heap.SameBut it s.heap h' → Q (some x) { s with heap := h', toks := tk }) : wpAny (model prog w) A (pyNext (.ref it)) Q E s := by
  obtain ⟨o, ho, hc, hd⟩ := id hi
  have hT : s.TypeIs (.ref it) "reversed" := ⟨o, ho, hc⟩
  have hg := PyProof.Rows.slot_tuple_getitem.lookup
  have hlt : k < items.size := by
    rcases Nat.lt_or_ge k items.size with h | h
    · exact h
    · rw [Array.getElem?_eq_none h] at hx; cases hx
  have hs : sizeLine = 16777216 := sizeLine_eq
  unfold pyNext
  refine wpAny_bind (wpAny_attempt (wpAny_callSpecial?_slot (name := Str.ofString "__next__") hT slot_rev_next (wpAny_call_entry slot_rev_next hT entry_rev_next ?_ (args_rev_next _))))
  unfold Builtin.«reversed.__next__»
  have hk : ¬ ((k : Int) < 0) := by omega
  have hj : seqIndex? (k : Int) items.size = some k := by
    have := PySem.StrLaws.seqIndex_nonneg (i := (k : Int)) (n := items.size) (by omega) (by omega)
    simpa using this
  generalize hGI : getItem = GI
  wp_walk using (wpAny_field ho hd (x := .ref t) rfl), (wpAny_field ho hd (x := rawInt k) rfl), (wpAny_specialOf (name := Str.ofString "__getitem__") ht.typeIs hg)
  subst hGI
  refine getItem_tuple (j := k) ht (by omega) (by omega) hj hx ?_
  show wpAny _ _ (field (.ref it) 1 >>= _) _ _ _
  refine wpAny_bind (wpAny_field ho hd (x := rawInt k) rfl ?_)
  show wpAny _ _ (setField (.ref it) 1 (rawInt ((k : Int) - 1)) >>= _) _ _ _
  refine wpAny_bind (wpAny_setField ho hd (by simp) (wpAny_pure ⟨x, rfl, wpAny_pure (q _ _ ?_ (Heap.SameBut.update ..))⟩))
  exact ⟨_, Heap.get?_update_self _ ho (Obj.isFreed_of_fields (Obj.data_mapFields hd _)), (Obj.cls_mapFields ..).trans hc, by rw [Obj.data_mapFields hd]; simp [rawInt]⟩
theorem rev_end {it t : Addr} {Q : Option Value → Shared → Prop} (hh : A.handled = none) (hi : IsRev s.heap it t (-1)) (q : ∀ h' tk, Heap.ExtBut it s.heap h' → Q none { s with heap := h', toks := tk }) : wpAny (model prog w) A (pyNext (.ref it)) Q E s := by
  obtain ⟨o, ho, hc, hd⟩ := id hi
  have hT : s.TypeIs (.ref it) "reversed" := ⟨o, ho, hc⟩
  unfold pyNext
  refine wpAny_bind (wpAny_attempt (wpAny_callSpecial?_slot (name := Str.ofString "__next__") hT slot_rev_next (wpAny_call_entry slot_rev_next hT entry_rev_next ?_ (args_rev_next _))))
  unfold Builtin.«reversed.__next__»
  obtain ⟨c1, d1, x1, l1⟩ := o
  dsimp only at hc hd
  subst hc hd
  generalize hGI : getItem = GI
  wp_walk using AutoSeq1.wpAny_loadPart' ho
  simp only [raiseNew]; refine wpAny_bind (wpAny_handled ?_)
  rw [show A.in1.handled = none by simp [hh]]; refine wpAny_bind (wpAny_pure (wpAny_throw ?_))
  refine wpAny_bind (wpAny_isInstance (T := "StopIteration") (b := true) ⟨_, Heap.get?_push_size _ rfl, rfl⟩ isSubtype_stop (wpAny_pure (q _ _ ?_)))
  exact (((Heap.SameBut.update ..).trans (Heap.SameBut.update ..)).extBut.push _).push _
theorem entry_rev_iter : entryFor table "reversed.__iter__" = some Builtin.«dict_keyiterator.__iter__» := entryFor_alias (id' := "dict_keyiterator.__iter__") (by kernel_rfl) rfl (by decide +kernel) (by kernel_rfl)
theorem rev_self {it t : Addr} {k : Int} {Q : Value → Shared → Prop} (hi : IsRev s.heap it t k) (q : Q (.ref it) s) : wpAny (model prog w) A (pyIter (.ref it)) Q E s := by
  obtain ⟨o, ho, hc, hd⟩ := hi
  have hT : s.TypeIs (.ref it) "reversed" := ⟨o, ho, hc⟩
  refine wpAny_pyIter_slot hT slot_rev_iter (wpAny_call_entry slot_rev_iter hT entry_rev_iter ?_ (args_rev_iter _))
  exact wpAny_pure ⟨_, rfl, "reversed", _, hT, slot_rev_next.lookup, q⟩
theorem Walks.rev (hh : A.handled = none) (it t : Addr) (ne : t ≠ it) (items : Array Value) (hz : items.size ≤ sizeLine) :
    Walks prog w A it [it, t] [it] items.size (fun i v => items[items.size - 1 - i]? = some v) (fun i h => IsRev h it t ((items.size : Int) - 1 - i) ∧ IsTup h t items) where
  sub := fun b hb => by simp at hb; simp [hb]
  frame := fun i h h' st hk => by
    obtain ⟨⟨o, a1, a2⟩, u, b1, b2⟩ := st
    exact ⟨⟨o, hk it (by simp) o a1, a2⟩, u, hk t (by simp) u b1, b2⟩
  item := fun i s Q E hi st hQ => by
    have ek : (items.size : Int) - 1 - i = ((items.size - 1 - i : Nat) : Int) := by omega
    have st1 := st.1
    rw [ek] at st1
    have hx : items[items.size - 1 - i]? = some items[items.size - 1 - i] := by simp
    refine rev_item st1 st.2 hx hz ne fun h' tk r sb => hQ _ h' tk hx ⟨?_, ?_⟩ fun b o hb e => sb.extBut b o (fun z => hb (by simp [z])) e
    · have e2 : ((items.size - 1 - i : Nat) : Int) - 1 = (items.size : Int) - 1 - ((i + 1 : Nat) : Int) := by omega
      rw [← e2]; exact r
    · obtain ⟨u, b1, b2⟩ := st.2
      exact ⟨u, sb.extBut t u ne b1, b2⟩
  done := fun s Q E st hQ => by
    have e : (items.size : Int) - 1 - (items.size : Nat) = -1 := by omega
    have st1 := st.1
    rw [e] at st1
    exact rev_end hh st1 fun h' tk x => hQ h' tk fun b o hb q => x b o (fun z => hb (by simp [z])) q
  self := fun _ _ _ _ st hQ => rev_self st.1 hQ
theorem nolen_rev : typeLookup (.type "reversed") (Str.ofString "__len__") = pure none := by rw [typeLookup_type, builtinLookup_eq_fast]; kernel_rfl
theorem hint_rev : typeLookup (.type "reversed") (Str.ofString "__length_hint__") = pure (some (.builtin "reversed.__length_hint__")) := by rw [typeLookup_type, builtinLookup_eq_fast]; kernel_rfl
theorem slot_rev_hint : PySem.Slot "reversed" "__length_hint__" "reversed.__length_hint__" := .of (owner := "reversed") (n := "__length_hint__") (by rw [typeLookup_type, builtinLookup_eq_fast]; kernel_rfl) (by decide +kernel) (by decide +kernel) (by decide +kernel) (by first | exact .inl (by decide +kernel) | exact .inr (by decide +kernel)) (by rw [isSubtype_type]; kernel_rfl)
theorem entry_rev_hint : entryFor table "reversed.__length_hint__" = some Builtin.«reversed.__length_hint__» := entryFor_of_tree (by kernel_rfl)
theorem args_rev_hint (a : Value) : argsOk "reversed.__length_hint__" ⟨[a], []⟩ := by unfold argsOk; kernel_rfl
theorem rev_hint {it t : Addr} {items : Array Value} {Q : Value → Shared → Prop} (hi : IsRev s.heap it t ((items.size : Int) - 1)) (ht : IsTup s.heap t items) (hz : items.size ≤ sizeLine)
    (q : ∀ tk u, Q (.int items.size u) { s with toks := tk }) : wpAny (model prog w) A (call (.builtin "reversed.__length_hint__") [.ref it]) Q E s := by
  obtain ⟨o, ho, hc, hd⟩ := id hi
  have hT : s.TypeIs (.ref it) "reversed" := ⟨o, ho, hc⟩
  have hs : sizeLine = 16777216 := sizeLine_eq
  have hfit : (items.size : Int) < 2 ^ 63 := by omega
  refine wpAny_call_entry slot_rev_hint hT entry_rev_hint ?_ (args_rev_hint _)
  have hlt : ¬ ((items.size : Int) < (items.size : Int) - 1 + 1) := by omega
  have e1 : (items.size : Int) - 1 + 1 = items.size := by omega
  unfold Builtin.«reversed.__length_hint__»
  wp_walk using (wpAny_field ho hd (x := .ref t) rfl), (wpAny_field ho hd (x := rawInt ((items.size : Int) - 1)) rfl), len_tuple ht hfit
  rw [hd]
  wp_walk
  rw [e1]
  exact ⟨_, rfl, q _ _⟩
theorem collect_rev {it t : Addr} {items : Array Value} {Q : List Value → Shared → Prop} (hh : A.handled = none) (ne : t ≠ it) (hi : IsRev s.heap it t ((items.size : Int) - 1)) (ht : IsTup s.heap t items) (hz : items.size ≤ sizeLine)
    (hQ : ∀ h' tk, (∀ b o, b ≠ it → s.heap.get? b = some o → h'.get? b = some o) → Q items.toList.reverse { s with heap := h', toks := tk }) : wpAny (model prog w) A (collect (.ref it)) Q E s := by
  have W := (Walks.rev (prog := prog) (w := w) (A := A.in1) (by simp [hh]) it t ne items hz).toS
  obtain ⟨o, ho, hc, hd⟩ := id hi
  have hT : ∀ h' tk, (h' : Heap).get? it = some o → Shared.TypeIs { s with heap := h', toks := tk } (.ref it) "reversed" := fun h' tk e => ⟨o, e, hc⟩
  have lti := Heap.lt_size ho
  have ltt : t < s.heap.objs.size := by obtain ⟨u, e, _⟩ := ht; exact Heap.lt_size e
  have off : s.heap.objs.size ∉ [it, t] := by
    simp only [List.mem_cons, List.not_mem_nil, or_false, not_or]
    exact ⟨Nat.ne_of_gt lti, Nat.ne_of_gt ltt⟩
  have nei : s.heap.objs.size ≠ it := Nat.ne_of_gt lti
  generalize hL : ({ cls := .type "list", data := .seq ([] : List Value).toArray } : Obj) = L
  have ho1 : (s.heap.push L).get? it = some o := Heap.get?_push_of_some _ ho
  have hi1 : IsRev (s.heap.push L) it t ((items.size : Int) - 1) := ⟨o, ho1, hc, hd⟩
  have ht1 : IsTup (s.heap.push L) t items := by obtain ⟨u, e, r⟩ := ht; exact ⟨u, Heap.get?_push_of_some _ e, r⟩
  have l1 : (s.heap.push L).get? s.heap.objs.size = some L := Heap.get?_push_size _ (by rw [← hL]; rfl)
  have h1 : Builtin.List.listSameRef (.ref s.heap.objs.size) (.ref it) = false := by simp [Builtin.List.listSameRef, nei]
  have fin : ∀ (s1 : Shared) (h2 : Heap) (tk : Nat) (c : Nat), s1 = { s with heap := h2, toks := tk } → h2.get? s.heap.objs.size = some { cls := .type "list", dict := none, data := .seq #[] c, slots := #[] } → (∀ b u, b ≠ s.heap.objs.size → (s.heap.push L).get? b = some u → h2.get? b = some u) →
      codeAny (model prog w) A (.builtin "list.extend.loop" ⟨[.ref s.heap.objs.size, .ref it, .ref s.heap.objs.size], []⟩) (fun r s' => match r with | .ok (.ret v) => wpAny (model prog w) A (match v with | .ref a => do (match (← load a).data with | .seq xs _ => pure xs.toList | _ => unsupported "internal:collect") | _ => unsupported "internal:collect") Q E s' | .ok _ => False | .error e => E e s') s1 := by
    intro s1 h2 tk c es1 hg hk
    subst es1
    have st : IsRev h2 it t ((items.size : Int) - 1 - (0 : Nat)) ∧ IsTup h2 t items := by
      refine ⟨⟨o, hk it o (Ne.symm nei) ho1, hc, by rw [hd]; simp⟩, ?_⟩
      obtain ⟨u, e, r⟩ := ht1
      exact ⟨u, hk t u (Nat.ne_of_lt ltt) e, r⟩
    refine codeAny_extend_loopS W hz _ off _ items.size 0 _ _ _ rfl (Nat.zero_le _) st hg (ItemsOf.nil _) fun s' acc c' hm hS' hacc => ?_
    show wpAny _ A (load s.heap.objs.size >>= _) _ _ s'
    refine wpAny_bind (wpAny_load hS' (wpAny_pure ?_))
    obtain ⟨h', g', d', tk', os'⟩ := s'
    have eg : g' = s.gens := hm.gens
    have ed : d' = s.drawn := hm.drawn
    have eo : os' = s.os := hm.os
    subst eg ed eo
    have ea : acc.toList = items.toList.reverse := by
      have hsz := hacc.1
      apply List.ext_getElem?
      intro i
      by_cases hi : i < items.size
      · have hv := hacc.2 i acc[i] (by simp [hsz, hi])
        rw [List.getElem?_reverse (by simpa using hi)]
        have e2 : items.toList[items.toList.length - 1 - i]? = some acc[i] := by
          rw [Array.length_toList, Array.getElem?_toList]
          exact hv
        rw [e2, Array.getElem?_toList]
        simp [hsz, hi]
      · rw [List.getElem?_eq_none (by simp [hsz]; omega), List.getElem?_eq_none (by simp; omega)]
    rw [ea]
    refine hQ h' tk' fun b u hb e => ?_
    have lb := Heap.lt_size e
    refine hm.heap b u ?_ (hk b u (Nat.ne_of_lt lb) (Heap.get?_push_of_some _ e))
    simp only [List.mem_cons, List.not_mem_nil, or_false, not_or]
    exact ⟨Nat.ne_of_lt lb, hb⟩
  unfold collect; refine wpAny_bind (wpAny_runValue (codeAny_builtin F.entry_proto_collect ?_))
  rw [Around.under_plainId F.plain_proto_collect _]; show wpAny _ A.in1 (newList [] >>= fun l => again (.builtin "list.__iadd__" ⟨[l, .ref it], []⟩)) _ _ s
  refine wpAny_bind (wpAny_newObj_type (wpAny_pure ⟨plainId_quiet F.plain_list_iadd _, codeAny_builtin F.entry_list_iadd ?_⟩))
  rw [Around.under_plainId F.plain_list_iadd _]; show wpAny _ A.in1 (Builtin.List.listExtendWith (.ref s.heap.objs.size) (.ref it) (.ref s.heap.objs.size)) _ _ _
  rw [hL]
  unfold Builtin.List.listExtendWith; refine wpAny_bind (wpAny_typeOf (hT _ s.toks ho1) ?_)
  rw [if_neg (by rw [h1]; decide)]
  refine wpAny_bind (rev_self (s := { s with heap := s.heap.push L }) hi1 (wpAny_bind (wpAny_holding ?_)))
  unfold Builtin.List.listLengthHint; refine wpAny_bind (wpAny_specialOf (hT _ s.toks ho1) nolen_rev ?_)
  show wpAny _ A.in1 (specialOf (Value.ref it) (Str.ofString "__length_hint__") >>= _) _ _ _
  refine wpAny_bind (wpAny_specialOf (hT _ s.toks ho1) hint_rev ?_)
  generalize hid : ("reversed.__length_hint__" : String) = id0; (fail_if_success (clear hid id0)); wp_delta; rw [show splitId id0 = some ("reversed", "__length_hint__") from by subst hid; decide +kernel]; subst hid
  refine wpAny_bind (wpAny_isInstance (b := true) (hT _ s.toks ho1) sub_rev ?_)
  rw [if_neg (by decide)]
  have hb := slot_rev_hint.bind (.ref it)
  dsimp only
  rw [if_neg (by decide +kernel)]
  refine wpAny_bind (wpAny_rule (wpAny_bind (wpAny_of_eq hb ?_)))
  refine wpAny_bind (wpAny_attempt (rev_hint (s := { s with heap := s.heap.push L }) hi1 ht1 hz fun tk u => ?_))
  have hs : sizeLine = 16777216 := sizeLine_eq
  have f1 : ¬ (!Builtin.List.listFitsIndex (items.size : Int)) = true := by unfold Builtin.List.listFitsIndex; simp; omega
  have f2 : ¬ Builtin.List.listTooLong (items.size : Int).toNat = true := by unfold Builtin.List.listTooLong; simp; omega
  have ea : asInt? (.int (items.size : Int) u) = pure (some (items.size : Int)) := rfl
  dsimp only
  rw [ea, pure_bind]
  dsimp only
  rw [if_neg f1, if_neg (by omega : ¬ (items.size : Int) < 0), if_neg f2]
  refine wpAny_pure ?_
  by_cases hn : items.size = 0
  · rw [if_neg (by rw [hn]; decide)]
    exact wpAny_pure ⟨plainId_quiet F.plain_extend_loop _, fin _ _ _ 0 rfl (by rw [l1, ← hL]) fun b u _ e => e⟩
  · rw [if_pos (by simp [hn])]
    subst hL
    refine wpAny_bind (wpAny_rule (wpAny_bind ?_))
    show wpAny _ A.in1 (updateSeq s.heap.objs.size (·.push .none) >>= fun _ => updateSeq s.heap.objs.size (·.pop)) _ _ _
    refine wpAny_bind (wpAny_updateSeq l1 rfl ?_)
    have l2 := Heap.get?_update_self (Obj.mapSeq (·.push Value.none)) l1 rfl
    refine wpAny_updateSeq l2 rfl ?_
    have l3 := Heap.get?_update_self (Obj.mapSeq (·.pop)) l2 rfl
    exact wpAny_pure ⟨plainId_quiet F.plain_extend_loop _, fin _ _ _ _ rfl l3 fun b u hb e => (Heap.get?_update_other _ _ (Ne.symm hb)).trans ((Heap.get?_update_other _ _ (Ne.symm hb)).trans e)⟩
theorem code_tuple_rev {it t : Addr} {items : Array Value} {Q₁ : Value → Shared → Prop} (hh : A.handled = none) (ne : t ≠ it) (hi : IsRev s.heap it t ((items.size : Int) - 1)) (ht : IsTup s.heap t items) (hz : items.size ≤ sizeLine)
    (h : ∀ (h' : Heap) (tk : Nat), (∀ b o, b ≠ it → s.heap.get? b = some o → h'.get? b = some o) → Q₁ (.ref h'.objs.size) { s with heap := h'.push { cls := .type "tuple", data := .seq items.toList.reverse.toArray }, toks := tk }) :
    codeAny (model prog w) A (.call (.builtin "tuple.__new__") ⟨[.type "tuple", .ref it], []⟩) (wants Q₁ E) s := by
  refine codeAny_of_tree (show wpAny _ A.in1 (do checkBuiltinCall "tuple.__new__" ⟨[.type "tuple", .ref it], []⟩; again (.builtin "tuple.__new__" ⟨[.type "tuple", .ref it], []⟩)) _ _ s from ?_)
  refine wpAny_bind (wpAny_of_eq (F.newCall_tuple_1 _) (wpAny_pure ⟨plainId_quiet F.plain_tuple_new _, codeAny_builtin F.entry_tuple_new (by
    rw [Around.under_plainId F.plain_tuple_new _]
    have hsub := sub_tuple_self
    have hinit := init_tuple_lookup
    have hmh := madeHere_tuple
    have hTI : s.TypeIs (.ref it) "reversed" := by obtain ⟨o, ho, hc, _⟩ := hi; exact ⟨o, ho, hc⟩
    wp_walk using wpAny_typeOf hTI, collect_rev (A := A.in1) (by simp [hh]) ne hi ht hz
    intro h' tk hk
    show wpAny _ _ (Builtin.Tuple.tupleExact items.toList.reverse.toArray >>= fun v => ret v) _ _ _
    unfold Builtin.Tuple.tupleExact
    exact wpAny_bind (wpAny_newObj_type (wpAny_pure (h h' tk hk)) (by show items.toList.reverse.toArray.size ≤ sizeLine; simp; exact hz)))⟩))
theorem call_tuple_rev {it t : Addr} {items : Array Value} {Q : Value → Shared → Prop} (hh : A.handled = none) (ne : t ≠ it) (hi : IsRev s.heap it t ((items.size : Int) - 1)) (ht : IsTup s.heap t items) (hz : items.size ≤ sizeLine)
    (h : ∀ (h' : Heap) (tk : Nat), (∀ b o, b ≠ it → s.heap.get? b = some o → h'.get? b = some o) → Q (.ref h'.objs.size) { s with heap := h'.push { cls := .type "tuple", data := .seq items.toList.reverse.toArray }, toks := tk }) : wpAny (model prog w) A (call (.type "tuple") [.ref it]) Q E s := by
  refine callType_codes (Q₁ := fun obj s₁ => s₁.TypeIs obj "tuple" ∧ Q obj s₁) F.called_tuple (F.typeCall_tuple_1 _) F.entry_object_init (code_tuple_rev (A := A.in1) (by simp [hh]) ne hi ht hz fun h' tk hk => ⟨⟨_, Heap.get?_push_size _ rfl, rfl⟩, h h' tk hk⟩) fun obj s₁ h₁ => ?_
  exact ⟨h₁.1, F.args_object_init_2 obj _, object_init_meets F.called_tuple.init.lookup F.called_tuple.made (by decide) prog w A.in1 _ s₁ ⟨h₁.1, rfl, h₁.2⟩⟩
end
end L2.PU

set_option Elab.async false
set_option linter.all false
set_option maxRecDepth 100000
set_option maxHeartbeats 4000000
namespace L2.PU
open PySem PySem.Spec PyProof.Rows

/-! ### a walk through a set of texts -/
theorem slot_si_next : PySem.Slot "set_iterator" "__next__" "set_iterator.__next__" := .of (owner := "set_iterator") (n := "__next__") (by rw [typeLookup_type, builtinLookup_eq_fast]; kernel_rfl) (by decide +kernel) (by decide +kernel) (by decide +kernel) (by first | exact .inl (by decide +kernel) | exact .inr (by decide +kernel)) (by rw [isSubtype_type]; kernel_rfl)
theorem slot_si_iter : PySem.Slot "set_iterator" "__iter__" "set_iterator.__iter__" := .of (owner := "set_iterator") (n := "__iter__") (by rw [typeLookup_type, builtinLookup_eq_fast]; kernel_rfl) (by decide +kernel) (by decide +kernel) (by decide +kernel) (by first | exact .inl (by decide +kernel) | exact .inr (by decide +kernel)) (by rw [isSubtype_type]; kernel_rfl)
theorem entry_si_next : entryFor table "set_iterator.__next__" = some Builtin.«set_iterator.__next__» := entryFor_of_tree (by kernel_rfl)
theorem entry_si_iter : entryFor table "set_iterator.__iter__" = some Builtin.«dict_keyiterator.__iter__» := entryFor_alias (id' := "dict_keyiterator.__iter__") (by kernel_rfl) rfl (by decide +kernel) (by kernel_rfl)
theorem args_si_next (a : Value) : argsOk "set_iterator.__next__" ⟨[a], []⟩ := by unfold argsOk; kernel_rfl
theorem args_si_iter (a : Value) : argsOk "set_iterator.__iter__" ⟨[a], []⟩ := by unfold argsOk; kernel_rfl
theorem entry_set_iter : entryFor table "set.__iter__" = some Builtin.«frozenset.__iter__» := entryFor_alias (id' := "frozenset.__iter__") (by kernel_rfl) rfl (by decide +kernel) (by kernel_rfl)
theorem args_set_iter (a : Value) : argsOk "set.__iter__" ⟨[a], []⟩ := by unfold argsOk; kernel_rfl
section
variable {prog : Program} {w : World} {A : Around} {E : Value → Shared → Prop} {s : Shared}
theorem cons_erase {α : Type} {l : List α} {i : Nat} (h : i < l.length) : (l[i] :: l.eraseIdx i).Perm l := by
  rw [List.eraseIdx_eq_take_drop_succ]
  have e : l.take i ++ l[i] :: l.drop (i + 1) = l := by rw [← List.drop_eq_getElem_cons h, List.take_append_drop]
  have p := @List.perm_middle α l[i] (l.take i) (l.drop (i + 1))
  rw [e] at p
  exact p.symm
/-- any order may be drawn -/
theorem wpAny_chosen {src : Source} {n : Nat} {Q : Nat → Shared → Prop} (h0 : n ≠ 0) (h : ∀ i, i < n → ∀ d, Q i { s with drawn := d }) : wpAny (model prog w) A (choose src n) Q E s := by
  intro Γ p hΓ
  unfold choose
  rw [Sem.wp_choose]
  refine ⟨h0, ?_⟩
  exact h _ (Nat.mod_lt _ (Nat.pos_of_ne_zero h0)) _
theorem draw_order {α : Type} : ∀ (n : Nat) (xs : List α) (s : Shared) (Q : List α → Shared → Prop), xs.length = n → (∀ ys d, ys.Perm xs → Q ys { s with drawn := d }) → wpAny (model prog w) A (drawOrder n xs) Q E s
  | 0, [], s, Q, _, h => by
    unfold drawOrder
    exact wpAny_pure (h [] s.drawn (List.Perm.refl _))
  | n + 1, x :: xs, s, Q, hn, h => by
    unfold drawOrder
    refine wpAny_bind (wpAny_chosen (by simp) fun i hi d => ?_)
    rw [List.getElem?_eq_getElem hi]
    dsimp only
    refine wpAny_bind (draw_order n ((x :: xs).eraseIdx i) _ _ ?_ fun ys d' hp => wpAny_pure ?_)
    · rw [List.length_eraseIdx_of_lt hi]; omega
    · refine h _ d' ?_
      exact (List.Perm.cons _ hp).trans (cons_erase hi)
theorem pick_perm {α : Type} (next : Nat → Nat) : ∀ (n k : Nat) (left : List α) (out : Array α), left.length = n → (pickOrder.go next n k left out).toList.Perm (out.toList ++ left)
  | 0, k, [], out, _ => by unfold pickOrder.go; simp
  | n + 1, k, x :: left, out, hn => by
    unfold pickOrder.go
    have hl : next k % (x :: left).length < (x :: left).length := Nat.mod_lt _ (by simp)
    rw [List.getElem?_eq_getElem hl]
    dsimp only
    refine (pick_perm next n (k + 1) _ _ ?_).trans ?_
    · rw [List.length_eraseIdx_of_lt hl]; omega
    · rw [Array.toList_push, List.append_assoc]
      exact List.Perm.append_left _ (cons_erase hl)
theorem pickO_perm {α : Type} (next : Nat → Nat) (es : Array α) : (pickOrder next es).toList.Perm es.toList := by
  have := pick_perm next es.size 0 es.toList #[] (by simp)
  simpa [pickOrder] using this
/-- the iterator -/
def IsSI (h : Heap) (it : Addr) (first : Value) (i : Int) (a : Addr) (n ep : Int) : Prop := ∃ o, h.get? it = some o ∧ o.cls = .type "set_iterator" ∧ o.data = .fields #[first, rawInt i, .ref a, rawInt n, rawInt ep]
/-- the set's own object -/
def SetAt (h : Heap) (a : Addr) (es : Array (Int × Value)) (ep : Nat) (t : SetTable) : Prop := ∃ o, h.get? a = some o ∧ o.data = .set es ep t
theorem si_self {it a : Addr} {first : Value} {i n ep : Int} {Q : Value → Shared → Prop} (hi : IsSI s.heap it first i a n ep) (q : Q (.ref it) s) : wpAny (model prog w) A (pyIter (.ref it)) Q E s := by
  obtain ⟨o, ho, hc, hd⟩ := hi
  have hT : s.TypeIs (.ref it) "set_iterator" := ⟨o, ho, hc⟩
  refine wpAny_pyIter_slot hT slot_si_iter (wpAny_call_entry slot_si_iter hT entry_si_iter ?_ (args_si_iter _))
  exact wpAny_pure ⟨_, rfl, "set_iterator", _, hT, slot_si_next.lookup, q⟩
/-- drawn: an item -/
theorem si_item_drawn {it a tp : Addr} {π : List Nat} {i : Nat} {es : Array (Int × Value)} {ep : Nat} {t : SetTable} {k : Nat} {hv : Int} {x : Value} {Q : Option Value → Shared → Prop} (hi : IsSI s.heap it (.ref tp) i a es.size ep) (hs : SetAt s.heap a es ep t) (hf : t.fits es.size = true)
    (htp : IsTup s.heap tp (π.map fun (j : Nat) => rawInt j).toArray) (hk : π[i]? = some k) (hx : es[k]? = some (hv, x))
    (q : ∀ h', IsSI h' it (.ref tp) ((i : Int) + 1) a es.size ep → Heap.SameBut it s.heap h' → Q (some x) { s with heap := h' }) : wpAny (model prog w) A (pyNext (.ref it)) Q E s := by
  obtain ⟨o, ho, hc, hd⟩ := id hi
  obtain ⟨oa, hoa, hda⟩ := id hs
  obtain ⟨ot, hot, hct, nt, hdt⟩ := id htp
  have hT : s.TypeIs (.ref it) "set_iterator" := ⟨o, ho, hc⟩
  have hpl : (π.map fun (j : Nat) => rawInt j).toArray[i]? = some (rawInt k) := by simp [hk]
  unfold pyNext
  refine wpAny_bind (wpAny_attempt (wpAny_callSpecial?_slot (name := Str.ofString "__next__") hT slot_si_next (wpAny_call_entry slot_si_next hT entry_si_next ?_ (args_si_next _))))
  unfold Builtin.«set_iterator.__next__»
  obtain ⟨c1, d1, x1, l1⟩ := o
  dsimp only at hc hd
  subst hc hd
  wp_walk using AutoSeq1.wpAny_loadPart' ho, wpAny_setEntries_of hoa hda hf, wpAny_setState_of hoa hda hf, wpAny_seqItems hot hdt
  rw [Int.toNat_natCast, hpl]
  show wpAny _ _ (setNextDrawn a (k : Int).toNat (ep : Int).toNat >>= _) _ _ _
  rw [Int.toNat_natCast, Int.toNat_natCast]
  unfold setNextDrawn
  refine wpAny_bind (wpAny_bind (wpAny_setState_of hoa hda hf ?_))
  dsimp only
  rw [if_neg (by simp), hx]
  refine wpAny_pure ?_
  refine wpAny_bind (wpAny_setField ho rfl (by simp) (wpAny_pure ⟨x, rfl, wpAny_pure (q _ ?_ (Heap.SameBut.update ..))⟩))
  exact ⟨_, Heap.get?_update_self _ ho (Obj.isFreed_of_fields (Obj.data_mapFields rfl _)), Obj.cls_mapFields .., by rw [Obj.data_mapFields rfl]; simp [rawInt]⟩
/-- drawn: the end -/
theorem si_end_drawn {it a tp : Addr} {π : List Nat} {es : Array (Int × Value)} {ep : Nat} {t : SetTable} {Q : Option Value → Shared → Prop} (hh : A.handled = none) (hi : IsSI s.heap it (.ref tp) π.length a es.size ep) (hs : SetAt s.heap a es ep t) (hf : t.fits es.size = true)
    (htp : IsTup s.heap tp (π.map fun (j : Nat) => rawInt j).toArray) (q : ∀ h' tk, Heap.ExtBut it s.heap h' → Q none { s with heap := h', toks := tk }) : wpAny (model prog w) A (pyNext (.ref it)) Q E s := by
  obtain ⟨o, ho, hc, hd⟩ := id hi
  obtain ⟨oa, hoa, hda⟩ := id hs
  obtain ⟨ot, hot, hct, nt, hdt⟩ := id htp
  have hT : s.TypeIs (.ref it) "set_iterator" := ⟨o, ho, hc⟩
  have hpl : (π.map fun (j : Nat) => rawInt j).toArray[π.length]? = none := by simp
  unfold pyNext
  refine wpAny_bind (wpAny_attempt (wpAny_callSpecial?_slot (name := Str.ofString "__next__") hT slot_si_next (wpAny_call_entry slot_si_next hT entry_si_next ?_ (args_si_next _))))
  unfold Builtin.«set_iterator.__next__»
  obtain ⟨c1, d1, x1, l1⟩ := o
  dsimp only at hc hd
  subst hc hd
  wp_walk using AutoSeq1.wpAny_loadPart' ho, wpAny_setEntries_of hoa hda hf, wpAny_setState_of hoa hda hf, wpAny_seqItems hot hdt
  rw [Int.toNat_natCast, hpl]
  wp_walk using AutoSeq1.wpAny_loadPart' ho
  simp only [raiseNew]; refine wpAny_bind (wpAny_handled ?_)
  rw [show A.in1.handled = none by simp [hh]]; refine wpAny_bind (wpAny_pure (wpAny_throw ?_))
  refine wpAny_bind (wpAny_isInstance (T := "StopIteration") (b := true) ⟨_, Heap.get?_push_size _ rfl, rfl⟩ isSubtype_stop (wpAny_pure (q _ _ ?_)))
  exact (((Heap.SameBut.update ..).trans (Heap.SameBut.update ..)).extBut.push _).push _
/-- by text, or by place: an item -/
theorem si_item {it a : Addr} {slot i nx : Nat} {es : Array (Int × Value)} {ep : Nat} {t : SetTable} {x : Value} {Q : Option Value → Shared → Prop} (hi : IsSI s.heap it (rawInt slot) i a es.size ep) (hs : SetAt s.heap a es ep t) (hf : t.fits es.size = true)
    (hn : ∀ (A : Around) (E : Value → Shared → Prop) (Q : Option (Value × Nat) → Shared → Prop), Q (some (x, nx)) s → wpAny (model prog w) A (setNext a slot i ep) Q E s)
    (q : ∀ h', IsSI h' it (rawInt nx) ((i : Int) + 1) a es.size ep → Heap.SameBut it s.heap h' → Q (some x) { s with heap := h' }) : wpAny (model prog w) A (pyNext (.ref it)) Q E s := by
  obtain ⟨o, ho, hc, hd⟩ := id hi
  obtain ⟨oa, hoa, hda⟩ := id hs
  have hT : s.TypeIs (.ref it) "set_iterator" := ⟨o, ho, hc⟩
  unfold pyNext
  refine wpAny_bind (wpAny_attempt (wpAny_callSpecial?_slot (name := Str.ofString "__next__") hT slot_si_next (wpAny_call_entry slot_si_next hT entry_si_next ?_ (args_si_next _))))
  unfold Builtin.«set_iterator.__next__»
  obtain ⟨c1, d1, x1, l1⟩ := o
  dsimp only at hc hd
  subst hc hd
  generalize hSN : setNext = SN
  wp_walk using AutoSeq1.wpAny_loadPart' ho, wpAny_setEntries_of hoa hda hf
  subst hSN
  rw [Int.toNat_natCast, Int.toNat_natCast, Int.toNat_natCast]
  refine hn _ _ _ ?_
  dsimp only
  refine wpAny_bind (wpAny_setField ho rfl (by simp) ?_)
  have ho2 := Heap.get?_update_self (Obj.mapFields fun z => z.setIfInBounds 0 (rawInt nx)) ho (Obj.isFreed_of_fields (Obj.data_mapFields rfl _))
  have hd2 : (Obj.mapFields (fun z => z.setIfInBounds 0 (rawInt nx)) { cls := Value.type "set_iterator", dict := d1, data := Data.fields #[rawInt slot, rawInt i, Value.ref a, rawInt es.size, rawInt ep], slots := l1 }).data = .fields #[rawInt nx, rawInt i, Value.ref a, rawInt es.size, rawInt ep] := by
    rw [Obj.data_mapFields rfl]; simp
  refine wpAny_bind (wpAny_setField ho2 hd2 (by simp) (wpAny_pure ⟨x, rfl, wpAny_pure (q _ ?_ ((Heap.SameBut.update ..).trans (Heap.SameBut.update ..)))⟩))
  exact ⟨_, Heap.get?_update_self _ ho2 (Obj.isFreed_of_fields (Obj.data_mapFields hd2 _)), (Obj.cls_mapFields ..).trans (Obj.cls_mapFields ..), by rw [Obj.data_mapFields hd2]; simp [rawInt]⟩
/-- .. the end -/
theorem si_end {it a : Addr} {slot i : Nat} {es : Array (Int × Value)} {ep : Nat} {t : SetTable} {Q : Option Value → Shared → Prop} (hh : A.handled = none) (hi : IsSI s.heap it (rawInt slot) i a es.size ep) (hs : SetAt s.heap a es ep t) (hf : t.fits es.size = true)
    (hn : ∀ (A : Around) (E : Value → Shared → Prop) (Q : Option (Value × Nat) → Shared → Prop), Q none s → wpAny (model prog w) A (setNext a slot i ep) Q E s)
    (q : ∀ h' tk, Heap.ExtBut it s.heap h' → Q none { s with heap := h', toks := tk }) : wpAny (model prog w) A (pyNext (.ref it)) Q E s := by
  obtain ⟨o, ho, hc, hd⟩ := id hi
  obtain ⟨oa, hoa, hda⟩ := id hs
  have hT : s.TypeIs (.ref it) "set_iterator" := ⟨o, ho, hc⟩
  unfold pyNext
  refine wpAny_bind (wpAny_attempt (wpAny_callSpecial?_slot (name := Str.ofString "__next__") hT slot_si_next (wpAny_call_entry slot_si_next hT entry_si_next ?_ (args_si_next _))))
  unfold Builtin.«set_iterator.__next__»
  obtain ⟨c1, d1, x1, l1⟩ := o
  dsimp only at hc hd
  subst hc hd
  generalize hSN : setNext = SN
  wp_walk using AutoSeq1.wpAny_loadPart' ho, wpAny_setEntries_of hoa hda hf
  subst hSN
  rw [Int.toNat_natCast, Int.toNat_natCast, Int.toNat_natCast]
  refine hn _ _ _ ?_
  dsimp only
  wp_walk using AutoSeq1.wpAny_loadPart' ho
  simp only [raiseNew]; refine wpAny_bind (wpAny_handled ?_)
  rw [show A.in1.handled = none by simp [hh]]; refine wpAny_bind (wpAny_pure (wpAny_throw ?_))
  refine wpAny_bind (wpAny_isInstance (T := "StopIteration") (b := true) ⟨_, Heap.get?_push_size _ rfl, rfl⟩ isSubtype_stop (wpAny_pure (q _ _ ?_)))
  exact ((Heap.SameBut.update ..).extBut.push _).push _
theorem next_text {a : Addr} {slot i : Nat} {es : Array (Int × Value)} {ep : Nat} {t : SetTable} {Q : Option (Value × Nat) → Shared → Prop} (hb : w.params.followText "set-order" = true) (hs : SetAt s.heap a es ep t) (hf : t.fits es.size = true)
    (q : Q (((pickOrder (w.params.setOrder a ep) es)[i]?).map fun e => (e.2, slot)) s) : wpAny (model prog w) A (setNext a slot i ep) Q E s := by
  obtain ⟨oa, hoa, hda⟩ := hs
  unfold setNext setsByText
  refine wpAny_bind (wpAny_setState_of hoa hda hf (wpAny_bind (wpAny_bind (wpAny_askSetting (wpAny_pure ?_)))))
  dsimp only
  rw [if_pos (show (model prog w).w.params.followText "set-order" = true from hb), if_neg (by simp)]
  unfold setWalk setsByText
  refine wpAny_bind (wpAny_bind (wpAny_setState_of hoa hda hf (wpAny_bind (wpAny_bind (wpAny_askSetting (wpAny_pure ?_))))))
  dsimp only
  rw [if_pos (show (model prog w).w.params.followText "set-order" = true from hb)]
  refine wpAny_bind (wpAny_askSetting (wpAny_pure (wpAny_pure q)))
theorem next_one {a : Addr} {slot i : Nat} {es : Array (Int × Value)} {ep : Nat} {t : SetTable} {Q : Option (Value × Nat) → Shared → Prop} (hb : w.params.followText "set-order" = false) (hl : t.led = true) (h1 : es.size ≤ 1) (hs : SetAt s.heap a es ep t) (hf : t.fits es.size = true)
    (q : Q (match es[SetTable.below t.place slot]?, t.place[SetTable.below t.place slot]? with | some (_, x), some j => some (x, j + 1) | _, _ => none) s) : wpAny (model prog w) A (setNext a slot i ep) Q E s := by
  obtain ⟨oa, hoa, hda⟩ := hs
  unfold setNext setsByText
  refine wpAny_bind (wpAny_setState_of hoa hda hf (wpAny_bind (wpAny_bind (wpAny_askSetting (wpAny_pure ?_)))))
  dsimp only
  rw [if_neg (show ¬ (model prog w).w.params.followText "set-order" = true by rw [show (model prog w).w.params.followText "set-order" = false from hb]; decide)]
  have hd : ∀ b : Bool, (b = true → False) → ∀ (x y : Sem (Option (Value × Nat))), wpAny (model prog w) A y Q E s → wpAny (model prog w) A (if b = true then x else y) Q E s := fun b hb x y hy => by rw [if_neg hb]; exact hy
  refine hd _ ?_ _ _ ?_
  · intro h
    have h2 : (!t.plain && decide (es.size > 1)) = true := h
    simp at h2
    omega
  · refine wpAny_bind ?_
    show wpAny _ _ (if (!t.led && !es.isEmpty) = true then unsupported _ else pure ()) _ _ _
    rw [if_neg (by simp [hl])]
    exact wpAny_pure (wpAny_pure q)
end
end L2.PU

set_option Elab.async false
set_option linter.all false
set_option maxRecDepth 100000
set_option maxHeartbeats 4000000
namespace L2.PU
open PySem PySem.Spec PyProof.Rows

/-! ### the items of a set of texts, in the order that it gives them -/
section
variable {prog : Program} {w : World} {A : Around} {E : Value → Shared → Prop} {s : Shared}
theorem keepSI {h h' : Heap} {it a : Addr} {f : Value} {i n ep : Int} (hi : IsSI h it f i a n ep) (e : ∀ o, h.get? it = some o → h'.get? it = some o) : IsSI h' it f i a n ep := let ⟨o, g, r⟩ := hi; ⟨o, e o g, r⟩
theorem keepSA {h h' : Heap} {a : Addr} {es : Array (Int × Value)} {ep : Nat} {t : SetTable} (hi : SetAt h a es ep t) (e : ∀ o, h.get? a = some o → h'.get? a = some o) : SetAt h' a es ep t := let ⟨o, g, r⟩ := hi; ⟨o, e o g, r⟩
theorem keepTu {h h' : Heap} {a : Addr} {xs : Array Value} (hi : IsTup h a xs) (e : ∀ o, h.get? a = some o → h'.get? a = some o) : IsTup h' a xs := let ⟨o, g, r⟩ := hi; ⟨o, e o g, r⟩
theorem Walks.set_drawn (hh : A.handled = none) {it a tp : Addr} (na : a ≠ it) (nt : tp ≠ it) {π : List Nat} {es : Array (Int × Value)} {ep : Nat} {t : SetTable} (hf : t.fits es.size = true) (hl : π.length = es.size) (hp : ∀ k ∈ π, k < es.size) :
    Walks prog w A it [it, a, tp] [it] es.size (fun i v => (π.map fun k => ((es[k]?).map (·.2)).getD .none)[i]? = some v) (fun i h => IsSI h it (.ref tp) (i : Nat) a es.size ep ∧ SetAt h a es ep t ∧ IsTup h tp (π.map fun (j : Nat) => rawInt j).toArray) where
  sub := fun b hb => by simp at hb; simp [hb]
  frame := fun i h h' st hk => ⟨keepSI st.1 (hk it (by simp)), keepSA st.2.1 (hk a (by simp)), keepTu st.2.2 (hk tp (by simp))⟩
  item := fun i s Q E hi st hQ => by
    have hi' : i < π.length := by omega
    have hk : π[i]? = some π[i] := List.getElem?_eq_getElem hi'
    have hj : π[i] < es.size := hp _ (List.getElem_mem hi')
    have hx : es[π[i]]? = some (es[π[i]].1, es[π[i]].2) := by rw [Array.getElem?_eq_getElem hj]
    refine si_item_drawn st.1 st.2.1 hf st.2.2 hk hx fun h' r sb => hQ _ h' s.toks ?_ ⟨?_, keepSA st.2.1 (fun o => sb.extBut a o na), keepTu st.2.2 (fun o => sb.extBut tp o nt)⟩ fun b o hb e => sb.extBut b o (fun z => hb (by simp [z])) e
    · simp [hk, hx]
    · simpa using r
  done := fun s Q E st hQ => by
    refine si_end_drawn hh (π := π) (by rw [hl]; exact st.1) st.2.1 hf st.2.2 fun h' tk x => hQ h' tk fun b o hb q => x b o (fun z => hb (by simp [z])) q
  self := fun _ _ _ _ st hQ => si_self st.1 hQ
theorem Walks.set_text (hh : A.handled = none) {it a : Addr} (na : a ≠ it) {es : Array (Int × Value)} {ep : Nat} {t : SetTable} (hf : t.fits es.size = true) (hb : w.params.followText "set-order" = true) :
    Walks prog w A it [it, a] [it] es.size (fun i v => ((pickOrder (w.params.setOrder a ep) es).toList.map (·.2))[i]? = some v) (fun i h => IsSI h it (rawInt (0 : Nat)) (i : Nat) a es.size ep ∧ SetAt h a es ep t) where
  sub := fun b hb => by simp at hb; simp [hb]
  frame := fun i h h' st hk => ⟨keepSI st.1 (hk it (by simp)), keepSA st.2 (hk a (by simp))⟩
  item := fun i s Q E hi st hQ => by
    have hsz : (pickOrder (w.params.setOrder a ep) es).size = es.size := by
      have := (pickO_perm (w.params.setOrder a ep) es).length_eq
      simpa using this
    have hx : (pickOrder (w.params.setOrder a ep) es)[i]? = some ((pickOrder (w.params.setOrder a ep) es)[i]'(by omega)) := Array.getElem?_eq_getElem (by omega)
    refine si_item (nx := 0) st.1 st.2 hf (fun A E Q q => next_text hb st.2 hf (by rw [hx]; exact q)) fun h' r sb => hQ _ h' s.toks ?_ ⟨?_, keepSA st.2 (fun o => sb.extBut a o na)⟩ fun b o hb e => sb.extBut b o (fun z => hb (by simp [z])) e
    · simp [hx]
    · simpa using r
  done := fun s Q E st hQ => by
    have hsz : (pickOrder (w.params.setOrder a ep) es).size = es.size := by
      have := (pickO_perm (w.params.setOrder a ep) es).length_eq
      simpa using this
    have hx : (pickOrder (w.params.setOrder a ep) es)[es.size]? = none := Array.getElem?_eq_none (by omega)
    refine si_end hh st.1 st.2 hf (fun A E Q q => next_text hb st.2 hf (by rw [hx]; exact q)) fun h' tk x => hQ h' tk fun b o hb q => x b o (fun z => hb (by simp [z])) q
  self := fun _ _ _ _ st hQ => si_self st.1 hQ
theorem fits_size {t : SetTable} {n : Nat} (h : t.fits n = true) : t.place.size = n := by
  simp only [SetTable.fits, Bool.and_eq_true, beq_iff_eq, decide_eq_true_eq] at h
  exact h.1
theorem below_0 {xs : Array Nat} (h : xs.size ≤ 1) : SetTable.below xs 0 = 0 := by
  obtain ⟨l⟩ := xs
  match l, h with
  | [], _ => rfl
  | [x], _ => simp [SetTable.below, SetTable.below.go]
theorem below_1 {xs : Array Nat} {x : Nat} (h : xs = #[x]) : SetTable.below xs (x + 1) = 1 := by subst h; simp [SetTable.below, SetTable.below.go]
theorem Walks.set_one (hh : A.handled = none) {it a : Addr} (na : a ≠ it) {es : Array (Int × Value)} {ep : Nat} {t : SetTable} (hf : t.fits es.size = true) (hb : w.params.followText "set-order" = false) (hl : t.led = true) (h1 : es.size ≤ 1) :
    Walks prog w A it [it, a] [it] es.size (fun i v => (es.toList.map (·.2))[i]? = some v) (fun i h => (∃ slot : Nat, IsSI h it (rawInt slot) (i : Nat) a es.size ep ∧ SetTable.below t.place slot = i) ∧ SetAt h a es ep t) where
  sub := fun b hb => by simp at hb; simp [hb]
  frame := fun i h h' st hk => ⟨let ⟨c, x, y⟩ := st.1; ⟨c, keepSI x (hk it (by simp)), y⟩, keepSA st.2 (hk a (by simp))⟩
  item := fun i s Q E hi st hQ => by
    obtain ⟨⟨c, x, y⟩, z⟩ := st
    have hps := fits_size hf
    have e1 : es.size = 1 := by omega
    have i0 : i = 0 := by omega
    subst i0
    have hx : es[0]? = some (es[0].1, es[0].2) := by rw [Array.getElem?_eq_getElem hi]
    have hj : t.place[0]? = some t.place[0] := Array.getElem?_eq_getElem (by omega)
    refine si_item (nx := t.place[0] + 1) x z hf (fun A E Q q => next_one hb hl h1 z hf (by rw [y, hx, hj]; exact q)) fun h' r sb => hQ _ h' s.toks ?_ ⟨⟨t.place[0] + 1, by simpa using r, ?_⟩, keepSA z (fun o => sb.extBut a o na)⟩ fun b o hb e => sb.extBut b o (fun z => hb (by simp [z])) e
    · simp [hx]
    · have ep1 : t.place = #[t.place[0]] := by
        apply Array.ext
        · simp; omega
        · intro k k1 k2
          have : k = 0 := by omega
          subst this; rfl
      exact below_1 ep1
  done := fun s Q E st hQ => by
    obtain ⟨⟨c, x, y⟩, z⟩ := st
    have hx : es[es.size]? = none := Array.getElem?_eq_none (by omega)
    refine si_end hh x z hf (fun A E Q q => next_one hb hl h1 z hf (by rw [y, hx]; exact q)) fun h' tk x => hQ h' tk fun b o hb q => x b o (fun z => hb (by simp [z])) q
  self := fun _ _ _ _ st hQ => let ⟨_, x, _⟩ := st.1; si_self x hQ
theorem range_vals (es : Array (Int × Value)) : (List.range es.size).map (fun k => ((es[k]?).map (·.2)).getD .none) = es.toList.map (·.2) := by
  apply List.ext_getElem
  · simp
  · intro i h1 h2
    simp at h1
    simp [h1]
theorem if_same {α : Type} {b c : Bool} (e : b = c) {x y : Sem α} {Q : α → Shared → Prop} (h : wpAny (model prog w) A (if c = true then x else y) Q E s) : wpAny (model prog w) A (if b = true then x else y) Q E s := by subst e; exact h
/-- pyIter of a set of texts -/
theorem set_iter {a : Addr} {o : Obj} {es : Array (Int × Value)} {ep : Nat} {t : SetTable} {Q : Value → Shared → Prop} (ho : s.heap.get? a = some o) (hx : o.ExactSet) (hd : o.data = .set es ep t) (hf : t.fits es.size = true) (hz : es.size ≤ sizeLine)
    (hw : w.params.followText "set-order" = true ∨ t.led = true) (hp : es.size = 0 ∨ t.plain = false)
    (q : ∀ it fp St (vals : List Value) h' d, (∀ B : Around, B.handled = none → Walks prog w B it fp [it] es.size (fun i v => vals[i]? = some v) St) → St 0 h' → (∀ b ∈ fp, b = a ∨ s.heap.objs.size ≤ b) → vals.Perm (es.toList.map (·.2)) → s.heap.objs.size ≤ it →
      (∀ b o, s.heap.get? b = some o → h'.get? b = some o) → Q (.ref it) { s with heap := h', drawn := d }) : wpAny (model prog w) A (pyIter (.ref a)) Q E s := by
  have hT : s.TypeIs (.ref a) "set" := ⟨o, ho, hx.1⟩
  have lta := Heap.lt_size ho
  refine wpAny_pyIter_slot hT F.slot_set_iter (wpAny_call_entry F.slot_set_iter hT entry_set_iter ?_ (args_set_iter _))
  unfold Builtin.«frozenset.__iter__»
  refine wpAny_bind (m := Builtin.Frozenset.slot0 "__iter__" ⟨[.ref a], []⟩) (wpAny_pure ?_)
  unfold Builtin.Frozenset.sizeOf
  refine wpAny_bind (wpAny_bind (wpAny_setEntries_of ho hd hf (wpAny_pure ?_)))
  unfold setDrawn setsByText
  refine wpAny_bind (wpAny_bind (wpAny_setState_of ho hd hf (wpAny_bind (wpAny_bind (wpAny_askSetting (wpAny_pure (wpAny_pure ?_)))))))
  refine if_same (c := !w.params.followText "set-order" && (!t.plain && decide (es.size > 1))) rfl ?_
  have tail : ∀ (h1 : Heap) (d : Drawn) (first : Value), (∀ b o, s.heap.get? b = some o → h1.get? b = some o) → Q (.ref h1.objs.size) { s with heap := h1.push { cls := .type "set_iterator", data := .fields #[first, rawInt (0 : Nat), .ref a, rawInt es.size, rawInt ep] }, drawn := d } →
      wpAny (model prog w) A.in1 (do let e ← setEpoch a; let v ← newFields "set_iterator" [first, rawInt 0, .ref a, rawInt es.size, rawInt e]; ret v) (fun fin s' => ∃ v, fin = Fin.done (Flow.ret v) ∧ ∃ T' r, s'.TypeIs v T' ∧ typeLookup (Value.type T') (Str.ofString "__next__") = pure (some r) ∧ Q v s') E { s with heap := h1, drawn := d } := by
    intro h1 d first hk q1
    refine wpAny_bind (wpAny_setEpoch_of (hk _ _ ho) hd hf (wpAny_bind (wpAny_newObj_type (wpAny_pure ⟨_, rfl, "set_iterator", _, ⟨_, Heap.get?_push_size _ rfl, rfl⟩, slot_si_next.lookup, q1⟩))))
  have isi : ∀ (h1 : Heap) (first : Value), IsSI (h1.push { cls := .type "set_iterator", data := .fields #[first, rawInt (0 : Nat), .ref a, rawInt es.size, rawInt ep] }) h1.objs.size first (0 : Nat) a es.size ep := fun h1 first => ⟨_, Heap.get?_push_size _ rfl, rfl, rfl⟩
  by_cases hb : w.params.followText "set-order" = true
  · rw [if_neg (by simp [hb])]
    refine wpAny_bind (wpAny_pure (tail s.heap s.drawn _ (fun _ _ e => e) ?_))
    refine q _ _ _ _ _ s.drawn (fun B hB => Walks.set_text hB (Nat.ne_of_lt lta) hf hb) ⟨isi _ _, _, Heap.get?_push_of_some _ ho, hd⟩ ?_ ?_ (Nat.le_refl _) fun b o e => Heap.get?_push_of_some _ e
    · intro b hb2; simp only [List.mem_cons, List.not_mem_nil, or_false] at hb2; exact hb2.elim (fun e => .inr (e ▸ Nat.le_refl _)) .inl
    · exact (pickO_perm _ es).map _
  · have hb0 : w.params.followText "set-order" = false := by simpa using hb
    have hl : t.led = true := hw.resolve_left hb
    by_cases h1 : es.size ≤ 1
    · rw [if_neg (by simp; omega)]
      refine wpAny_bind (wpAny_pure (tail s.heap s.drawn _ (fun _ _ e => e) ?_))
      refine q _ _ _ _ _ s.drawn (fun B hB => Walks.set_one hB (Nat.ne_of_lt lta) hf hb0 hl h1) ⟨⟨0, isi _ _, below_0 (by rw [fits_size hf]; exact h1)⟩, _, Heap.get?_push_of_some _ ho, hd⟩ ?_ (List.Perm.refl _) (Nat.le_refl _) fun b o e => Heap.get?_push_of_some _ e
      intro b hb2; simp only [List.mem_cons, List.not_mem_nil, or_false] at hb2; exact hb2.elim (fun e => .inr (e ▸ Nat.le_refl _)) .inl
    · have hpl : t.plain = false := hp.resolve_left (by omega)
      rw [if_pos (by simp [hb0, hpl]; omega)]
      refine wpAny_bind (draw_order es.size (List.range es.size) _ _ (by simp) fun π d hπ => ?_)
      have hlen : π.length = es.size := by simpa using hπ.length_eq
      refine wpAny_bind (wpAny_newObj_type ?_ (by show (π.map _).toArray.size ≤ sizeLine; simp; omega))
      refine tail (s.heap.push _) d _ (fun _ _ e => Heap.get?_push_of_some _ e) ?_
      have lt1 : a < (s.heap.push { cls := .type "tuple", data := .seq (π.map fun (i : Nat) => rawInt i).toArray }).objs.size := by rw [size_push']; exact Nat.lt_succ_of_lt lta
      refine q _ _ _ _ _ d (fun B hB => Walks.set_drawn (tp := s.heap.objs.size) hB (Nat.ne_of_lt lt1) (by rw [size_push']; exact Nat.ne_of_lt (Nat.lt_succ_self _)) hf hlen (fun k hk => by simpa using hπ.subset hk)) ⟨isi _ _, ⟨_, Heap.get?_push_of_some _ (Heap.get?_push_of_some _ ho), hd⟩, ⟨_, Heap.get?_push_of_some _ (Heap.get?_push_size _ rfl), rfl, 0, rfl⟩⟩ ?_ ?_ (by rw [size_push']; exact Nat.le_succ _) fun b o e => Heap.get?_push_of_some _ (Heap.get?_push_of_some _ e)
      · intro b hb2; simp only [List.mem_cons, List.not_mem_nil, or_false] at hb2; rw [size_push'] at hb2; exact hb2.elim (fun e => .inr (e ▸ Nat.le_succ _)) (fun h => h.elim .inl (fun e => .inr (e ▸ Nat.le_refl _)))
      · rw [← range_vals]; exact hπ.map _
end
end L2.PU

set_option Elab.async false
set_option linter.all false
set_option maxRecDepth 100000
set_option maxHeartbeats 4000000
namespace L2.PU
open PySem PySem.Spec PyProof.Rows

/-! ### all items of a set of texts -/
section
variable {prog : Program} {w : World} {A : Around} {E : Value → Shared → Prop} {s : Shared}
theorem sub_set_self : isSubtype (.type "set") (.type "set") = pure true := by rw [isSubtype_type]; kernel_rfl
theorem collect_set {a : Addr} {o : Obj} {es : Array (Int × Value)} {ep : Nat} {t : SetTable} {Q : List Value → Shared → Prop} (hh : A.handled = none) (ho : s.heap.get? a = some o) (hx : o.ExactSet) (hd : o.data = .set es ep t) (hf : t.fits es.size = true) (hz : es.size ≤ sizeLine)
    (hw : w.params.followText "set-order" = true ∨ t.led = true) (hp : es.size = 0 ∨ t.plain = false)
    (hQ : ∀ vals h' tk d, vals.Perm (es.toList.map (·.2)) → s.heap.objs.size ≤ h'.objs.size → (∀ b o, s.heap.get? b = some o → h'.get? b = some o) → Q vals { s with heap := h', toks := tk, drawn := d }) : wpAny (model prog w) A (collect (.ref a)) Q E s := by
  have lta := Heap.lt_size ho
  have nea : s.heap.objs.size ≠ a := Nat.ne_of_gt lta
  have hT : ∀ h' d, (h' : Heap).get? a = some o → Shared.TypeIs { s with heap := h', drawn := d } (.ref a) "set" := fun h' d e => ⟨o, e, hx.1⟩
  generalize hL : ({ cls := .type "list", data := .seq ([] : List Value).toArray } : Obj) = L
  have ho1 : (s.heap.push L).get? a = some o := Heap.get?_push_of_some _ ho
  have l1 : (s.heap.push L).get? s.heap.objs.size = some L := Heap.get?_push_size _ (by rw [← hL]; rfl)
  have h1 : Builtin.List.listSameRef (.ref s.heap.objs.size) (.ref a) = false := by simp [Builtin.List.listSameRef, nea]
  unfold collect; refine wpAny_bind (wpAny_runValue (codeAny_builtin F.entry_proto_collect ?_))
  rw [Around.under_plainId F.plain_proto_collect _]; show wpAny _ A.in1 (newList [] >>= fun l => again (.builtin "list.__iadd__" ⟨[l, .ref a], []⟩)) _ _ s
  refine wpAny_bind (wpAny_newObj_type (wpAny_pure ⟨plainId_quiet F.plain_list_iadd _, codeAny_builtin F.entry_list_iadd ?_⟩))
  rw [Around.under_plainId F.plain_list_iadd _]; show wpAny _ A.in1 (Builtin.List.listExtendWith (.ref s.heap.objs.size) (.ref a) (.ref s.heap.objs.size)) _ _ _
  rw [hL]
  unfold Builtin.List.listExtendWith; refine wpAny_bind (wpAny_typeOf (hT _ s.drawn ho1) ?_)
  rw [if_neg (by rw [h1]; decide)]
  refine wpAny_bind (set_iter (s := { s with heap := s.heap.push L }) ho1 hx hd hf hz hw hp fun it fp St vals h2 d W0 st0 hfp hperm hit hk => wpAny_bind (wpAny_holding ?_))
  have ho2 := hk a o ho1
  have l2 := hk _ _ l1
  unfold Builtin.List.listLengthHint; refine wpAny_bind (wpAny_specialOf (hT _ d ho2) F.slot_set_len.lookup ?_)
  generalize hid : ("set.__len__" : String) = id0; (fail_if_success (clear hid id0)); wp_delta; rw [show splitId id0 = some ("set", "__len__") from by subst hid; decide +kernel]; subst hid
  refine wpAny_bind (wpAny_isInstance (b := true) (hT _ d ho2) sub_set_self ?_)
  rw [if_neg (by decide)]
  refine if_same (c := true) ?_ ?_
  · decide +kernel
  rw [if_pos rfl]
  refine wpAny_bind (wpAny_typeOf (hT _ d ho2) (wpAny_pure ?_))
  refine if_same (c := true) ?_ ?_
  · decide +kernel
  rw [if_pos rfl]
  subst hL
  refine wpAny_bind (wpAny_rule (wpAny_bind ?_))
  show wpAny _ A.in1 (updateSeq s.heap.objs.size (·.push .none) >>= fun _ => updateSeq s.heap.objs.size (·.pop)) _ _ _
  refine wpAny_bind (wpAny_updateSeq l2 rfl ?_)
  have l3 := Heap.get?_update_self (Obj.mapSeq (·.push Value.none)) l2 rfl
  refine wpAny_updateSeq l3 rfl ?_
  have l4 := Heap.get?_update_self (Obj.mapSeq (·.pop)) l3 rfl
  refine wpAny_pure ⟨plainId_quiet F.plain_extend_loop _, ?_⟩
  have W := (W0 A.in1 (by simp [hh])).toS
  have hit' : s.heap.objs.size + 1 ≤ it := by have h := hit; dsimp only at h; rw [size_push'] at h; exact h
  have nei : s.heap.objs.size ≠ it := Nat.ne_of_lt hit'
  have off : s.heap.objs.size ∉ fp := by
    intro h
    rcases hfp _ h with e | e
    · exact nea e
    · dsimp only at e; rw [size_push'] at e; exact absurd e (Nat.not_succ_le_self _)
  have hk2 : ∀ b u, b ≠ s.heap.objs.size → h2.get? b = some u → ((h2.update s.heap.objs.size (Obj.mapSeq fun x => x.push Value.none)).update s.heap.objs.size (Obj.mapSeq fun x => x.pop)).get? b = some u := fun b u hb e => (Heap.get?_update_other _ _ (Ne.symm hb)).trans ((Heap.get?_update_other _ _ (Ne.symm hb)).trans e)
  refine codeAny_extend_loopS W hz _ off _ es.size 0 _ _ _ rfl (Nat.zero_le _) ((W0 A.in1 (by simp [hh])).frame _ _ _ st0 fun b hb u e => hk2 b u (fun z => off (z ▸ hb)) e) l4 (ItemsOf.nil _) fun s' acc c' hm hS' hacc => ?_
  show wpAny _ A (load s.heap.objs.size >>= _) _ _ s'
  refine wpAny_bind (wpAny_load hS' (wpAny_pure ?_))
  obtain ⟨h', g', d', tk', os'⟩ := s'
  have eg : g' = s.gens := hm.gens
  have ed : d' = d := hm.drawn
  have eo : os' = s.os := hm.os
  subst eg ed eo
  have hlen : vals.length = es.size := by simpa using hperm.length_eq
  have ea : acc.toList = vals := by
    have hsz := hacc.1
    apply List.ext_getElem?
    intro i
    by_cases hi : i < es.size
    · have hv := hacc.2 i acc[i] (by simp [hsz, hi])
      rw [hv]; simp [hsz, hi]
    · rw [List.getElem?_eq_none (by simp [hsz]; omega), List.getElem?_eq_none (by omega)]
  rw [ea]
  refine hQ vals h' tk' _ hperm (Nat.le_of_lt (Heap.lt_size hS')) fun b u e => ?_
  have lb := Heap.lt_size e
  refine hm.heap b u ?_ (hk2 b u (Nat.ne_of_lt lb) (hk b u (Heap.get?_push_of_some _ e)))
  simp only [List.mem_cons, List.not_mem_nil, or_false, not_or]
  exact ⟨Nat.ne_of_lt lb, Nat.ne_of_lt (Nat.lt_trans lb hit')⟩
end
end L2.PU

set_option Elab.async false
set_option linter.all false
set_option maxRecDepth 100000
set_option maxHeartbeats 4000000
namespace L2.PU
open PySem PySem.Spec PyProof.Rows

/-! ### texts in their order -/
def leS (a b : Str) : Bool := !ltCps b.cps.toList a.cps.toList
def srtS (xs : List Str) : List Str := xs.mergeSort leS
theorem leS_iff (a b : Str) : leS a b = true ↔ a.cps.toList ≤ b.cps.toList := by
  unfold leS; rw [ltCps_eq]; simp
theorem leS_trans (a b c : Str) (h1 : leS a b = true) (h2 : leS b c = true) : leS a c = true := by
  rw [leS_iff] at *; exact List.le_trans h1 h2
theorem leS_total (a b : Str) : (leS a b || leS b a) = true := by
  rw [Bool.or_eq_true, leS_iff, leS_iff]; exact List.le_total _ _
theorem leS_anti (a b : Str) (h1 : leS a b = true) (h2 : leS b a = true) : a = b := by
  rw [leS_iff] at *; exact Str.ext' (Array.toList_inj.mp (List.le_antisymm h1 h2))
theorem srtS_perm (xs : List Str) : (srtS xs).Perm xs := List.mergeSort_perm xs leS
theorem srtS_pair (xs : List Str) : (srtS xs).Pairwise (fun a b => leS a b = true) := List.pairwise_mergeSort leS_trans leS_total xs
theorem rising_pair : ∀ (l : List Str) (p : Str), risingS p l = true → (p :: l).Pairwise (fun a b => leS a b = true)
  | [], p, _ => by simp
  | x :: r, p, h => by
    have h' : (!ltCps x.cps.toList p.cps.toList && risingS x r) = true := h
    rw [Bool.and_eq_true] at h'
    have ih := rising_pair r x h'.2
    refine List.pairwise_cons.mpr ⟨fun y hy => ?_, ih⟩
    rcases List.mem_cons.mp hy with e | e
    · rw [e]; exact h'.1
    · exact leS_trans _ _ _ h'.1 (List.rel_of_pairwise_cons ih e)
theorem sortedS_pair : ∀ (l : List Str), sortedS l = true → l.Pairwise (fun a b => leS a b = true)
  | [], _ => .nil
  | x :: r, h => rising_pair r x h
theorem srtS_of {xs ys : List Str} (hs : sortedS ys = true) (hp : ys.Perm xs) : ys = srtS xs :=
  List.Perm.eq_of_pairwise (fun a b _ _ => leS_anti a b) (sortedS_pair ys hs) (srtS_pair xs) (hp.trans (srtS_perm xs).symm)
/-- as many, all of them met: the same -/
theorem perm_of_mem {α : Type} [DecidableEq α] : ∀ (xs ys : List α), xs.Nodup → (∀ k, k ∈ xs → k ∈ ys) → ys.length = xs.length → ys.Perm xs
  | [], ys, _, _, h => by cases ys with | nil => exact .refl _ | cons _ _ => simp at h
  | x :: xs, ys, hn, hm, h => by
    have hx := hm x (by simp)
    have hp := List.perm_cons_erase hx
    refine hp.trans (List.Perm.cons x (perm_of_mem xs (ys.erase x) (List.nodup_cons.mp hn).2 (fun k hk => ?_) ?_))
    · have ne : k ≠ x := fun e => (List.nodup_cons.mp hn).1 (e ▸ hk)
      exact (List.mem_erase_of_ne ne).mpr (hm k (by simp [hk]))
    · rw [List.length_erase_of_mem hx, h]; simp
theorem addS_nodup {σ : List Str} {v : Str} (h : σ.Nodup) : (addS σ v).Nodup := by
  unfold addS
  split
  · exact h
  · rename_i hc
    have hn : v ∉ σ := fun hm => hc (by simpa using hm)
    first
    | exact List.nodup_cons.mpr ⟨hn, h⟩
    | (rw [List.nodup_append]; exact ⟨h, by simp, by intro a ha b hb; simp at hb; subst hb; intro e; subst e; exact hn ha⟩)
theorem metS_nodup_from (vs : List Str) : ∀ (σ : List Str), σ.Nodup → (vs.foldl addS σ).Nodup := by
  induction vs with
  | nil => intro σ h; exact h
  | cons v r ih => intro σ h; exact ih _ (addS_nodup h)
theorem metS_nodup (vs : List Str) : (metS vs).Nodup := metS_nodup_from vs [] .nil
/-! ### sorted(x) -/
section
variable {prog : Program} {w : World} {A : Around} {E : Value → Shared → Prop} {s : Shared}
theorem sorted_of {x : Value} {xs : List Str} {Q : Value → Shared → Prop} (hh : A.handled = none) (h64 : xs.length < 64)
    (hc : ∀ (B : Around) (Q' : List Value → Shared → Prop), B.handled = none → (∀ vals ts h' tk d, StrsAre vals ts → ts.Perm xs → s.heap.objs.size ≤ h'.objs.size → (∀ b o, s.heap.get? b = some o → h'.get? b = some o) → Q' vals { s with heap := h', toks := tk, drawn := d }) → wpAny (model prog w) B (collect x) Q' E s)
    (h : ∀ out l h' tk d m, StrsAre out (srtS xs) → s.heap.objs.size ≤ l → h'.get? l = some { cls := .type "list", data := .seq out.toArray m } → (∀ b o, s.heap.get? b = some o → h'.get? b = some o) → Q (.ref l) { s with heap := h', toks := tk, drawn := d }) :
    wpAny (model prog w) A (call (.builtin "sorted") [x]) Q E s := by
  refine Calls.call_function_entry kind_sorted plain_sorted entry_sorted (args_sorted1 _) ?_
  unfold Builtin.«sorted»
  refine wpAny_bind (m := checkCount "sorted" 1 1 _) (wpAny_pure ?_)
  refine wpAny_bind (hc A.in1 _ (by simp [hh]) fun vals ts h1 tk d hS hp le hk => ?_)
  have hvl : vals.length < 64 := by rw [hS.len_eq, hp.length_eq]; exact h64
  refine wpAny_bind (wpAny_newList ?_)
  have hoL : (h1.push (seqObj "list" vals.toArray 0)).get? h1.objs.size = some (seqObj "list" vals.toArray 0) := Heap.get?_push_size _ rfl
  show wpAny _ _ _ _ _ { s with heap := h1.push (seqObj "list" vals.toArray 0), toks := tk, drawn := d }
  refine wpAny_bind (wpAny_holding (wpAny_call_entry slot_list_sort ⟨_, hoL, rfl⟩ entry_list_sort (list_sort_treeK strKind_oneLt hoL hS.keysOf (fun v₁ v₂ rest e => keyKind_strs (by rw [← e]; exact hS)) hvl fun st' a1 a2 => ⟨_, rfl, ?_⟩) (args_list_sort _)))
  refine wpAny_pure ⟨_, rfl, ?_⟩
  obtain ⟨ss', b1, b2, b3⟩ := sorted_out_str hS a1 a2
  have e := srtS_of b3 (b2.trans hp)
  subst e
  generalize (Array.map (fun x => x.snd) (arrOf st')) = out at b1 ⊢
  obtain ⟨ol⟩ := out
  have k1 := get?_update_seq hoL (fun _ => #[])
  have k2 := get?_update_seq (Heap.get?_push_of_some (seqObj "list" #[] 0) (Heap.get?_push_of_some (seqObj "tuple" vals.toArray 0) k1)) (fun _ => ol.toArray)
  refine h ol h1.objs.size _ tk d _ b1 le k2 fun b o e => ?_
  have lt := Heap.lt_size (hk b o e)
  have ne : h1.objs.size ≠ b := Nat.ne_of_gt lt
  show (sortedHeap _ _ _ _).get? b = some o
  unfold sortedHeap
  rw [Heap.get?_update_other _ _ ne]
  refine Heap.get?_push_of_some _ (Heap.get?_push_of_some _ ?_)
  rw [Heap.get?_update_other _ _ ne]
  exact Heap.get?_push_of_some _ (hk b o e)
theorem strs_of : ∀ (vals : List Value), (∀ v ∈ vals, ∃ k t, v = Value.str k t) → ∃ ts, StrsAre vals ts
  | [], _ => ⟨[], .nil⟩
  | v :: vs, h => by
    obtain ⟨k, t, e⟩ := h v (by simp)
    obtain ⟨ts, h2⟩ := strs_of vs fun v hv => h v (by simp [hv])
    subst e
    exact ⟨k :: ts, .cons k t h2⟩
theorem strs_mem : ∀ {vals : List Value} {ts : List Str}, StrsAre vals ts → ∀ {k : Str} {t : Tok}, Value.str k t ∈ vals → k ∈ ts
  | _, _, .cons y u r, k, t, h => by
    rcases List.mem_cons.mp h with e | e
    · injection e with e1; subst e1; simp
    · exact List.mem_cons_of_mem _ (strs_mem r e)
/-- sorted(a set of texts) -/
theorem sorted_set {a : Addr} {ss : List Str} {Q : Value → Shared → Prop} (hh : A.handled = none) (h64 : ss.length < 64) (hn : ss.Nodup) (z : s.heap.SetOf (PySem.strKind prog w) a (fun k => ss.contains k) ss.length) (zt : Txts w s.heap a)
    (h : ∀ out l h' tk d m, StrsAre out (srtS ss) → s.heap.objs.size ≤ l → h'.get? l = some { cls := .type "list", data := .seq out.toArray m } → (∀ b o, s.heap.get? b = some o → h'.get? b = some o) → Q (.ref l) { s with heap := h', toks := tk, drawn := d }) :
    wpAny (model prog w) A (call (.builtin "sorted") [.ref a]) Q E s := by
  obtain ⟨o, es, ep, t, ho, hx, hd, hel, hm, hb, hf, hsz⟩ := z
  obtain ⟨o2, ho2, es2, ep2, t2, hd2, hw, hp⟩ := zt
  rw [ho] at ho2
  cases ho2
  rw [hd] at hd2
  cases hd2
  have hs : sizeLine = 16777216 := sizeLine_eq
  refine sorted_of hh h64 (fun B Q' hB q => collect_set hB ho hx hd hf (by unfold scanBound at hb; omega) hw hp fun vals h' tk d pv le kp => ?_) h
  have hstr : ∀ v ∈ vals, ∃ k t, v = Value.str k t := by
    intro v hv
    obtain ⟨e, he, rfl⟩ := List.mem_map.mp (pv.subset hv)
    obtain ⟨⟨k, hk, _⟩, _⟩ := hel e he
    obtain ⟨t, et⟩ := Value.isStrOf_shape hk
    exact ⟨k, t, et⟩
  obtain ⟨ts, hS⟩ := strs_of vals hstr
  refine q vals ts h' tk d hS (perm_of_mem ss ts hn (fun k hk => ?_) ?_) le kp
  · obtain ⟨e, he, hi⟩ := (hm k).mp (by simpa using hk)
    obtain ⟨t, et⟩ := Value.isStrOf_shape hi
    refine strs_mem hS (t := t) (pv.symm.subset ?_)
    rw [← et]
    exact List.mem_map.mpr ⟨e, he, rfl⟩
  · rw [← hS.len_eq, pv.length_eq, List.length_map, Array.length_toList, hsz]
end
end L2.PU

set_option Elab.async false
set_option linter.all false
set_option maxRecDepth 100000
set_option maxHeartbeats 4000000
namespace L2.PU
open PySem PySem.Spec PyProof.Rows

/-- data without a heap -/
inductive D where
  | non | bl (b : Bool) | int (i : Int) | str (x : Str) | tup (ds : List D) | lst (ds : List D) | obj (C : Addr) (fs : List (Str × D))
  | dk (kvs : List (Key × D)) | dt (kvs : List (List Key × D)) | exc (C : Addr) | set (ss : List Str)
/-- an exception of the class at C stands there -/
def excAt (a C : Addr) (h : Heap) : Prop := ∃ o, h.get? a = some o ∧ o.cls = .ref C

mutual
/-- the value v of the abstract heap H bears the datum -/
inductive Is (K : PySem.W.Frag) (H : Hp) : D → V → Prop where
  | non : Is K H .non .non
  | bl (b : Bool) : Is K H (.bl b) (.bl b)
  | int (i : Int) : Is K H (.int i) (.int i)
  | str (x : Str) : Is K H (.str x) (.str x)
  | tup {a : Addr} {ds : List D} {vs : List V} (h : SqT K H a vs) (r : IsL K H ds vs) : Is K H (.tup ds) (.ref a)
  | lst {a : Addr} {ds : List D} {vs : List V} (h : SqL K H a vs) (r : IsL K H ds vs) : Is K H (.lst ds) (.ref a)
  | obj {a C dx : Addr} {fs : List (Str × D)} {vs : List (Str × V)} (h : H a = some (.ins C dx vs)) (r : IsF K H fs vs) : Is K H (.obj C fs) (.ref a)
  | dk {a : Addr} {kvs : List (Key × D)} {vs : List (Key × V)} (h : H a = some (.dK vs)) (r : IsK K H kvs vs) : Is K H (.dk kvs) (.ref a)
  | dt {a : Addr} {kvs : List (List Key × D)} {vs : List (List Key × V)} (h : H a = some (.dT vs)) (r : IsT K H kvs vs) : Is K H (.dt kvs) (.ref a)
  | exc {a C : Addr} (h : H a = some (.ext (excAt a C))) : Is K H (.exc C) (.ref a)
  | set {a : Addr} {ss : List Str} (h : H a = some (.set (fun k => ss.contains k) ss.length)) : Is K H (.set ss) (.ref a)
inductive IsK (K : PySem.W.Frag) (H : Hp) : List (Key × D) → List (Key × V) → Prop where
  | nil : IsK K H [] []
  | cons {x : Key} {d : D} {v : V} {ds : List (Key × D)} {vs : List (Key × V)} (h : Is K H d v) (r : IsK K H ds vs) : IsK K H ((x, d) :: ds) ((x, v) :: vs)
inductive IsT (K : PySem.W.Frag) (H : Hp) : List (List Key × D) → List (List Key × V) → Prop where
  | nil : IsT K H [] []
  | cons {x : List Key} {d : D} {v : V} {ds : List (List Key × D)} {vs : List (List Key × V)} (h : Is K H d v) (r : IsT K H ds vs) : IsT K H ((x, d) :: ds) ((x, v) :: vs)
inductive IsL (K : PySem.W.Frag) (H : Hp) : List D → List V → Prop where
  | nil : IsL K H [] []
  | cons {d : D} {v : V} {ds : List D} {vs : List V} (h : Is K H d v) (r : IsL K H ds vs) : IsL K H (d :: ds) (v :: vs)
inductive IsF (K : PySem.W.Frag) (H : Hp) : List (Str × D) → List (Str × V) → Prop where
  | nil : IsF K H [] []
  | cons {x : Str} {d : D} {v : V} {ds : List (Str × D)} {vs : List (Str × V)} (h : Is K H d v) (r : IsF K H ds vs) : IsF K H ((x, d) :: ds) ((x, v) :: vs)
end

section
variable {K : PySem.W.Frag} {H H' : Hp}
theorem SqT.mono {a : Addr} {xs : List V} (e : Same H H') (h : SqT K H a xs) : SqT K H' a xs := by
  rcases h with (h | ⟨o, h⟩) | h
  · exact .inl (.inl (e _ _ h))
  · exact .inl (.inr ⟨o, e _ _ h⟩)
  · exact .inr h
mutual
theorem Is.mono (e : Same H H') : ∀ {d : D} {v : V}, Is K H d v → Is K H' d v
  | _, _, .non => .non
  | _, _, .bl b => .bl b
  | _, _, .int i => .int i
  | _, _, .str x => .str x
  | _, _, .tup h r => .tup (SqT.mono e h) (IsL.mono e r)
  | _, _, .lst h r => .lst (e.seq h) (IsL.mono e r)
  | _, _, .obj h r => .obj (e _ _ h) (IsF.mono e r)
  | _, _, .dk h r => .dk (e _ _ h) (IsK.mono e r)
  | _, _, .dt h r => .dt (e _ _ h) (IsT.mono e r)
  | _, _, .exc h => .exc (e _ _ h)
  | _, _, .set h => .set (e _ _ h)
theorem IsK.mono (e : Same H H') : ∀ {ds : List (Key × D)} {vs : List (Key × V)}, IsK K H ds vs → IsK K H' ds vs
  | _, _, .nil => .nil
  | _, _, .cons h r => .cons (Is.mono e h) (IsK.mono e r)
theorem IsT.mono (e : Same H H') : ∀ {ds : List (List Key × D)} {vs : List (List Key × V)}, IsT K H ds vs → IsT K H' ds vs
  | _, _, .nil => .nil
  | _, _, .cons h r => .cons (Is.mono e h) (IsT.mono e r)
theorem IsL.mono (e : Same H H') : ∀ {ds : List D} {vs : List V}, IsL K H ds vs → IsL K H' ds vs
  | _, _, .nil => .nil
  | _, _, .cons h r => .cons (Is.mono e h) (IsL.mono e r)
theorem IsF.mono (e : Same H H') : ∀ {ds : List (Str × D)} {vs : List (Str × V)}, IsF K H ds vs → IsF K H' ds vs
  | _, _, .nil => .nil
  | _, _, .cons h r => .cons (Is.mono e h) (IsF.mono e r)
end
theorem IsL.length : ∀ {ds : List D} {vs : List V}, IsL K H ds vs → ds.length = vs.length
  | _, _, .nil => rfl
  | _, _, .cons _ r => congrArg (· + 1) (IsL.length r)
theorem IsL.get : ∀ {ds : List D} {vs : List V} {i : Nat} {d : D}, IsL K H ds vs → ds[i]? = some d → ∃ v, vs[i]? = some v ∧ Is K H d v
  | _, _, _, _, .nil, e => by simp at e
  | _, _, 0, _, .cons h _, e => by simp at e; subst e; exact ⟨_, rfl, h⟩
  | _, _, i + 1, d, .cons _ r, e => by
    obtain ⟨v, h1, h2⟩ := IsL.get (i := i) (d := d) r (by simpa using e)
    exact ⟨v, by simpa using h1, h2⟩
theorem IsL.getV : ∀ {ds : List D} {vs : List V} {i : Nat} {v : V}, IsL K H ds vs → vs[i]? = some v → ∃ d, ds[i]? = some d ∧ Is K H d v
  | _, _, _, _, .nil, e => by simp at e
  | _, _, 0, _, .cons h _, e => by simp at e; subst e; exact ⟨_, rfl, h⟩
  | _, _, i + 1, v, .cons _ r, e => by
    obtain ⟨d, h1, h2⟩ := IsL.getV (i := i) (v := v) r (by simpa using e)
    exact ⟨d, by simpa using h1, h2⟩
theorem IsL.append : ∀ {ds es : List D} {vs ws : List V}, IsL K H ds vs → IsL K H es ws → IsL K H (ds ++ es) (vs ++ ws)
  | _, _, _, _, .nil, s => s
  | _, _, _, _, .cons h r, s => .cons h (IsL.append r s)
theorem IsL.take : ∀ {ds : List D} {vs : List V} (n : Nat), IsL K H ds vs → IsL K H (ds.take n) (vs.take n)
  | _, _, 0, _ => .nil
  | _, _, _ + 1, .nil => .nil
  | _, _, n + 1, .cons h r => .cons h (IsL.take n r)
theorem IsL.drop : ∀ {ds : List D} {vs : List V} (n : Nat), IsL K H ds vs → IsL K H (ds.drop n) (vs.drop n)
  | _, _, 0, r => r
  | _, _, _ + 1, .nil => .nil
  | _, _, n + 1, .cons _ r => IsL.drop n r
theorem IsF.lookup : ∀ {fs : List (Str × D)} {vs : List (Str × V)} {x : Str} {d : D}, IsF K H fs vs → fs.lookup x = some d → ∃ v, vs.lookup x = some v ∧ Is K H d v
  | _, _, _, _, .nil, e => by simp at e
  | _, _, x, d, .cons (x := y) (d := d') (v := v') (ds := fs) (vs := vs) h r, e => by
    rw [List.lookup_cons] at e ⊢
    cases q : (x == y) with
    | true => rw [q] at e; simp at e; subst e; exact ⟨_, rfl, h⟩
    | false => rw [q] at e; exact IsF.lookup r e
theorem IsF.lookupNone : ∀ {fs : List (Str × D)} {vs : List (Str × V)} {x : Str}, IsF K H fs vs → fs.lookup x = none → vs.lookup x = none
  | _, _, _, .nil, _ => rfl
  | _, _, x, .cons (x := y) (d := d') (v := v') (ds := fs) (vs := vs) h r, e => by
    rw [List.lookup_cons] at e ⊢
    cases q : (x == y) with
    | true => rw [q] at e; simp at e
    | false => rw [q] at e; exact IsF.lookupNone r e
theorem IsF.length : ∀ {ds : List (Str × D)} {vs : List (Str × V)}, IsF K H ds vs → ds.length = vs.length
  | _, _, .nil => rfl
  | _, _, .cons _ r => congrArg (· + 1) (IsF.length r)
theorem isL_ints : ∀ (ns : List Int), IsL K H (ns.map D.int) (ns.map V.int)
  | [] => .nil
  | n :: r => .cons (.int n) (isL_ints r)
end

/-- what a slot bears: a datum that may be shared; a list of this run's own; the instance at a that is being made -/
inductive SV where
  | sh (d : D) | own (ds : List D) | oin (a C dx : Addr) (fs : List (Str × D))
abbrev Rho := List (Option SV)
def SV.cur : SV → D
  | .sh d => d
  | .own ds => .lst ds
  | .oin _ C _ fs => .obj C fs

open Classical in
noncomputable def Off (H : Hp) (O : Nat → Option Addr) : Hp := fun b => if ∃ i, O i = some b then none else H b
theorem Off.same (H : Hp) (O : Nat → Option Addr) : Same (Off H O) H := fun b o h => by
  unfold Off at h
  split at h
  · cases h
  · exact h
theorem Off.of {H : Hp} {O : Nat → Option Addr} {b : Addr} {o : HO} (h : H b = some o) (n : ∀ i, O i ≠ some b) : Off H O b = some o := by
  unfold Off
  rw [if_neg (fun ⟨i, e⟩ => n i e)]
  exact h
theorem Off.not {H : Hp} {O : Nat → Option Addr} {b : Addr} {o : HO} (h : Off H O b = some o) : ∀ i, O i ≠ some b := fun i e => by
  unfold Off at h
  rw [if_pos ⟨i, e⟩] at h
  cases h
theorem Off.mono {H H' : Hp} {O : Nat → Option Addr} (e : Same H H') : Same (Off H O) (Off H' O) := fun b o h => Off.of (e _ _ (Off.same H O b o h)) (Off.not h)
/-- fewer are hidden -/
theorem Off.less {H : Hp} {O O' : Nat → Option Addr} (e : ∀ i a, O' i = some a → ∃ j, O j = some a) : Same (Off H O) (Off H O') := fun b o h => Off.of (Off.same H O b o h) fun i q => by
  obtain ⟨j, z⟩ := e i b q
  exact Off.not h j z
/-- a hidden one is changed -/
theorem Off.upd {H : Hp} {O : Nat → Option Addr} {a : Addr} {o : HO} {i : Nat} (h : O i = some a) : Off (upd H a o) O = Off H O := by
  funext b
  unfold Off
  by_cases q : ∃ j, O j = some b
  · rw [if_pos q, if_pos q]
  · rw [if_neg q, if_neg q, upd_ne]
    intro z; subst z; exact q ⟨i, h⟩

/-- owned ones are lists and instances: data without these does not lean on them -/
def OwnK (H : Hp) (O : Nat → Option Addr) : Prop := ∀ i a, O i = some a → (∃ vs, H a = some (.lst vs)) ∨ ∃ C dx vs, H a = some (.ins C dx vs)
theorem OwnK.mono {H H' : Hp} {O : Nat → Option Addr} (e : Same H H') (h : OwnK H O) : OwnK H' O := fun i a q => by
  rcases h i a q with ⟨vs, w⟩ | ⟨C, dx, vs, w⟩
  · exact .inl ⟨vs, e _ _ w⟩
  · exact .inr ⟨C, dx, vs, e _ _ w⟩
def Slot (K : PySem.W.Frag) (H : Hp) (O : Nat → Option Addr) (σ : St) (i : Nat) : SV → Prop
  | .sh d => ∃ v, σ[i]? = some (some v) ∧ Is K (Off H O) d v
  | .own ds => ∃ a vs, O i = some a ∧ σ[i]? = some (some (.ref a)) ∧ H a = some (.lst vs) ∧ IsL K (Off H O) ds vs
  | .oin a C dx fs => O i = some a ∧ σ[i]? = some (some (.ref a)) ∧ dx ≠ a ∧ (∃ vs, H a = some (.ins C dx vs) ∧ IsF K (Off H O) fs vs)

/-- the slots' data, the entry's heap kept -/
def Rel (K : PySem.W.Frag) (H₀ : Hp) (ρ : Rho) (σ : St) (H : Hp) : Prop :=
  ∃ O : Nat → Option Addr, (∀ i j a, O i = some a → O j = some a → i = j) ∧ OwnK H O ∧ Same H₀ (Off H O) ∧ ρ.length = σ.length ∧ ∀ i sv, ρ[i]? = some (some sv) → Slot K H O σ i sv

section
variable {K : PySem.W.Frag} {H₀ H H' : Hp} {ρ : Rho} {σ : St}
theorem Slot.mono {O : Nat → Option Addr} {i : Nat} {sv : SV} (e : Same H H') (h : Slot K H O σ i sv) : Slot K H' O σ i sv := by
  cases sv with
  | sh d => obtain ⟨v, h1, h2⟩ := h; exact ⟨v, h1, h2.mono (Off.mono e)⟩
  | own ds => obtain ⟨a, vs, h1, h2, h3, h4⟩ := h; exact ⟨a, vs, h1, h2, e _ _ h3, h4.mono (Off.mono e)⟩
  | oin a C dx fs => obtain ⟨h1, h2, h3, vs, h4, h5⟩ := h; exact ⟨h1, h2, h3, vs, e _ _ h4, h5.mono (Off.mono e)⟩
theorem Rel.mono (e : Same H H') (r : Rel K H₀ ρ σ H) : Rel K H₀ ρ σ H' := by
  obtain ⟨O, h1, ho, h2, hl, h3⟩ := r
  exact ⟨O, h1, ho.mono e, h2.trans (Off.mono e), hl, fun i sv q => (h3 i sv q).mono e⟩
theorem Rel.get (r : Rel K H₀ ρ σ H) {i : Nat} {sv : SV} (q : ρ[i]? = some (some sv)) : ∃ v, σ[i]? = some (some v) ∧ Is K H sv.cur v := by
  obtain ⟨O, h1, ho, h2, hl, h3⟩ := r
  have z := h3 i sv q
  cases sv with
  | sh d => obtain ⟨v, e1, e2⟩ := z; exact ⟨v, e1, e2.mono (Off.same _ _)⟩
  | own ds => obtain ⟨a, vs, e1, e2, e3, e4⟩ := z; exact ⟨.ref a, e2, .lst (SqL.of e3) (e4.mono (Off.same _ _))⟩
  | oin a C dx fs => obtain ⟨e1, e2, e3, vs, e4, e5⟩ := z; exact ⟨.ref a, e2, .obj e4 (e5.mono (Off.same _ _))⟩
theorem Rel.kept (r : Rel K H₀ ρ σ H) : Same H₀ H := by
  obtain ⟨O, h1, ho, h2, _⟩ := r
  exact h2.trans (Off.same _ _)
end

mutual
/-- no list, no instance within: what bears it never changes -/
def D.imm : D → Bool
  | .non => true | .bl _ => true | .int _ => true | .str _ => true
  | .tup ds => immL ds
  | .lst _ => false
  | .obj _ _ => false
  | .dk _ => false
  | .dt _ => false
  | .exc _ => false
  | .set _ => false
def immL : List D → Bool
  | [] => true
  | d :: ds => d.imm && immL ds
end
section
variable {K : PySem.W.Frag} {H H' : Hp}
theorem SqT.alike {a : Addr} {xs : List V} (ht : ∀ b xs, H b = some (.tup xs) → H' b = some (.tup xs)) (hf : ∀ b o u, H b = some (.frz o u) → H' b = some (.frz o u)) (h : SqT K H a xs) : SqT K H' a xs := by
  rcases h with (h | ⟨o, h⟩) | h
  · exact .inl (.inl (ht _ _ h))
  · exact .inl (.inr ⟨o, hf _ _ _ h⟩)
  · exact .inr h
mutual
theorem Is.alike (ht : ∀ b xs, H b = some (.tup xs) → H' b = some (.tup xs)) (hf : ∀ b o u, H b = some (.frz o u) → H' b = some (.frz o u)) : ∀ {d : D} {v : V}, d.imm = true → Is K H d v → Is K H' d v
  | _, _, _, .non => .non
  | _, _, _, .bl b => .bl b
  | _, _, _, .int i => .int i
  | _, _, _, .str x => .str x
  | _, _, q, .tup h r => .tup (SqT.alike ht hf h) (IsL.alike ht hf (by simpa [D.imm] using q) r)
  | _, _, q, .lst h r => by simp [D.imm] at q
  | _, _, q, .obj h r => by simp [D.imm] at q
  | _, _, q, .dk h r => by simp [D.imm] at q
  | _, _, q, .dt h r => by simp [D.imm] at q
  | _, _, q, .exc h => by simp [D.imm] at q
  | _, _, q, .set h => by simp [D.imm] at q
theorem IsL.alike (ht : ∀ b xs, H b = some (.tup xs) → H' b = some (.tup xs)) (hf : ∀ b o u, H b = some (.frz o u) → H' b = some (.frz o u)) : ∀ {ds : List D} {vs : List V}, immL ds = true → IsL K H ds vs → IsL K H' ds vs
  | _, _, _, .nil => .nil
  | _, _, q, .cons h r => by
    rw [immL, Bool.and_eq_true] at q
    exact .cons (Is.alike ht hf q.1 h) (IsL.alike ht hf q.2 r)
end
theorem off_imm {O : Nat → Option Addr} (ho : OwnK H O) {d : D} {v : V} (q : d.imm = true) (h : Is K H d v) : Is K (Off H O) d v := by
  refine Is.alike (fun b xs e => Off.of e fun i z => ?_) (fun b o u e => Off.of e fun i z => ?_) q h
  · rcases ho i b z with ⟨vs, w⟩ | ⟨C, dx, vs, w⟩ <;> rw [w] at e <;> cases e
  · rcases ho i b z with ⟨vs, w⟩ | ⟨C, dx, vs, w⟩ <;> rw [w] at e <;> cases e
theorem offL_imm {O : Nat → Option Addr} (ho : OwnK H O) {ds : List D} {vs : List V} (q : immL ds = true) (h : IsL K H ds vs) : IsL K (Off H O) ds vs := by
  refine IsL.alike (fun b xs e => Off.of e fun i z => ?_) (fun b o u e => Off.of e fun i z => ?_) q h
  · rcases ho i b z with ⟨vs, w⟩ | ⟨C, dx, vs, w⟩ <;> rw [w] at e <;> cases e
  · rcases ho i b z with ⟨vs, w⟩ | ⟨C, dx, vs, w⟩ <;> rw [w] at e <;> cases e
end
end L2.PU

set_option Elab.async false
set_option linter.all false
set_option maxRecDepth 100000
set_option maxHeartbeats 4000000
namespace L2.PU
open PySem PySem.Spec PyProof.Rows

/-- what a part comes to: nothing is known; an exception of the class at that address; a thing -/
abbrev M (α : Type) := Option (Except Addr α)
def ok {α : Type} (a : α) : M α := some (.ok a)
def err {α : Type} (c : Addr) : M α := some (.error c)
def bnd {α β : Type} (m : M α) (k : α → M β) : M β := match m with
  | none => none
  | some (.error c) => some (.error c)
  | some (.ok a) => k a
@[simp] theorem bnd_ok {α β : Type} (a : α) (k : α → M β) : bnd (ok a) k = k a := rfl
@[simp] theorem bnd_err {α β : Type} (c : Addr) (k : α → M β) : bnd (err c : M α) k = err c := rfl
@[simp] theorem bnd_none {α β : Type} (k : α → M β) : bnd (none : M α) k = none := rfl
theorem ok_inj {α : Type} {a b : α} (h : ok a = ok b) : a = b := by cases h; rfl
theorem bnd_eq_ok {α β : Type} {m : M α} {k : α → M β} {b : β} (h : bnd m k = ok b) : ∃ a, m = ok a ∧ k a = ok b := by
  unfold bnd at h
  split at h
  · cases h
  · cases h
  · exact ⟨_, rfl, h⟩

/-- an exception of the class at c, behind a call that began at s: its own cells stand apart from Bs, which holds all that stood at s (as it is now, but the frames) and all that is tracked -/
def Fly (P : Program) (w : World) (outer : List Env) (s : Shared) (ea c : Addr) (H' : Hp) (s' : Shared) : Prop :=
  ∃ Bs a0, Heap.FlyingW Bs outer ea (.ref c) a0 s'.heap ∧ (∀ b o o', s.heap.get? b = some o' → b ∉ frs outer → s'.heap.get? b = some o → Bs.get? b = some o) ∧ HOk P w H' Bs
/-- the exception e, of the class at c, lies in the state: made here, or come from a call -/
def Exc (X : Cx) (pins : List (Addr × Obj)) (σ : St) (H : Hp) (c : Addr) (e : Value) (s : Shared) : Prop := ∃ ea, e = .ref ea ∧
  ((∃ h args, Heap.MadeExcOf h s.heap ea (.ref c) args ∧ Inv X pins σ H { s with heap := h }) ∨
   (∃ s1 H1, Inv X pins σ H1 s1 ∧ s.os = s1.os ∧ AllBare s.gens ∧ Un (frs X.stack) [] H1 H s1.heap s.heap ∧ Fly X.prog X.w X.stack s1 ea c H s))
/-- an exception of that class may leave -/
def Thr (X : Cx) (σ : St) (H : Hp) (c : Addr) : Prop := ∀ (pins : List (Addr × Obj)) (s : Shared) (H' : Hp) (e : Value), Same H H' → Exc X pins σ H' c e s → X.xe e s
theorem Thr.mono {X : Cx} {σ : St} {H H' : Hp} {c : Addr} (e : Same H H') (t : Thr X σ H c) : Thr X σ H' c := fun pins s H2 ev q x => t pins s H2 ev (e.trans q) x

def Res {α : Type} (X : Cx) (σ : St) (H : Hp) (Q : α → Prop) (m : M α) : Prop := match m with
  | none => False
  | some (.error c) => Thr X σ H c
  | some (.ok a) => Q a
theorem Res.bind {α β : Type} {X : Cx} {σ : St} {H : Hp} {Q : β → Prop} {m : M α} {k : α → M β} (h : Res X σ H Q (bnd m k)) : Res X σ H (fun a => Res X σ H Q (k a)) m := by
  unfold bnd at h
  split at h
  · exact h
  · exact h
  · exact h
theorem Res.mono {α : Type} {X : Cx} {σ : St} {H H' : Hp} {Q Q' : α → Prop} {m : M α} (e : Same H H') (h : Res X σ H Q m) (i : ∀ a, Q a → Q' a) : Res X σ H' Q' m := by
  unfold Res at *
  split at h
  · exact h
  · exact Thr.mono e h
  · exact i _ h
theorem Res.imp {α : Type} {X : Cx} {σ : St} {H : Hp} {Q Q' : α → Prop} {m : M α} (h : Res X σ H Q m) (i : ∀ a, Q a → Q' a) : Res X σ H Q' m := h.mono (Same.refl H) i

/-- an expression's reading by data; a test's; an argument list's -/
def tD (X : Cx) (B : Hp) (f : Rho → M D) : TE := fun σ H Q => ∃ ρ, Rel X.K B ρ σ H ∧ Res X σ H (fun d => ∀ v H', Same H H' → Is X.K H' d v → Q v H') (f ρ)
def tDT (X : Cx) (B : Hp) (f : Rho → M Bool) : TT := fun σ H Q => ∃ ρ, Rel X.K B ρ σ H ∧ Res X σ H (fun b => ∀ H', Same H H' → Q b H') (f ρ)
def tDA (X : Cx) (B : Hp) (f : Rho → M (List D)) : TA := fun σ H Q => ∃ ρ, Rel X.K B ρ σ H ∧ Res X σ H (fun ds => ∀ vs H', Same H H' → IsL X.K H' ds vs → Q vs H') (f ρ)
abbrev PD (X : Cx) (B : Hp) (e : Expr) (f : Rho → M D) : Prop := PE X e (tD X B f)
abbrev PDT (X : Cx) (B : Hp) (e : Expr) (f : Rho → M Bool) : Prop := PT X e (tDT X B f)
abbrev PDW (X : Cx) (B : Hp) (e : Expr) (f : Rho → M Bool) : Prop := PW X e (tDT X B f)
abbrev PDA (X : Cx) (B : Hp) (es : List Expr) (f : Rho → M (List D)) : Prop := PA X es (tDA X B f)

section
variable {X : Cx} {B : Hp} {e a b c : Expr} {es : List Expr} {pos : Pos}
theorem PE.of {t t' : TE} (h : PE X e t) (i : ∀ σ H Q, t' σ H Q → t σ H Q) : PE X e t' := fun pins s σ H Q I q => h pins s σ H Q I (i σ H Q q)
theorem PT.of {t t' : TT} (h : PT X e t) (i : ∀ σ H Q, t' σ H Q → t σ H Q) : PT X e t' := fun pins s σ H Q I q => h pins s σ H Q I (i σ H Q q)
theorem PW.of {t t' : TT} (h : PW X e t) (i : ∀ σ H Q, t' σ H Q → t σ H Q) : PW X e t' := fun wh pins s σ H Q I q => h wh pins s σ H Q I (i σ H Q q)
theorem PA.of {t t' : TA} (h : PA X es t) (i : ∀ σ H Q, t' σ H Q → t σ H Q) : PA X es t' := fun pos pins s σ H Q I q => h pos pins s σ H Q I (i σ H Q q)

/-! ### names, constants -/
def look (i : Nat) : Rho → M D := fun ρ => match ρ[i]? with
  | some (some sv) => ok sv.cur
  | _ => none
theorem pd_var (i : Nat) {x : Str} {pos : Pos} (hN : X.N[i]? = some x := by rfl) (hv : Vis X.env.scope x := by first | exact Or.inl rfl | exact Or.inr (Or.inl rfl) | exact Or.inr (Or.inr rfl)) (hd : (x == ("__debug__" : Str)) = false := by decide)
    (hcd : (x == ("__classdict__" : Str)) = false := by decide) : PD X B (.Name x pos) (look i) := by
  refine PE.of (pe_var hN hv hd hcd) fun σ H Q h => ?_
  obtain ⟨ρ, r, h⟩ := h
  unfold look at h
  split at h
  · rename_i sv q
    obtain ⟨v, e1, e2⟩ := r.get q
    exact ⟨v, e1, h v H (Same.refl H) e2⟩
  · exact False.elim h
def con (d : D) : Rho → M D := fun _ => ok d
theorem pd_int {i j pos} : PD X B (.Constant (.int i) j pos) (con (.int i)) := PE.of pe_int fun σ H Q ⟨ρ, r, h⟩ => h _ H (Same.refl H) (.int i)
theorem pd_bl {i j pos} : PD X B (.Constant (.bool i) j pos) (con (.bl i)) := PE.of pe_bl fun σ H Q ⟨ρ, r, h⟩ => h _ H (Same.refl H) (.bl i)
theorem pd_non {j pos} : PD X B (.Constant .none j pos) (con .non) := PE.of pe_non fun σ H Q ⟨ρ, r, h⟩ => h _ H (Same.refl H) .non
theorem pd_str {x j pos} : PD X B (.Constant (.str x) j pos) (con (.str x)) := PE.of pe_str fun σ H Q ⟨ρ, r, h⟩ => h _ H (Same.refl H) (.str x)

/-! ### two-place operations -/
def b2 (g : D → D → M D) (fa fb : Rho → M D) : Rho → M D := fun ρ => bnd (fa ρ) fun x => bnd (fb ρ) fun y => g x y
def R2ok (X : Cx) (r : R2) (g : D → D → M D) : Prop := ∀ (H : Hp) (x y : V) (dx dy d : D) (Q : VK), Is X.K H dx x → Is X.K H dy y → g dx dy = ok d → (∀ v H', Same H H' → Is X.K H' d v → Q v H') → r x y H Q
def NoErr {α β : Type} (g : α → β → M D) : Prop := ∀ x y c, g x y ≠ err c
variable {fa fb fc : Rho → M D}
theorem b2_red {r : R2} {g : D → D → M D} (hg : R2ok X r g) (hn : NoErr g) {σ : St} {H : Hp} {Q : VK} (h : tD X B (b2 g fa fb) σ H Q) : tOp r (tD X B fa) (tD X B fb) σ H Q := by
  obtain ⟨ρ, r1, h⟩ := h
  refine ⟨ρ, r1, (Res.bind h).imp fun dx h1 v H1 e1 i1 => ⟨ρ, r1.mono e1, (Res.bind h1).mono e1 fun dy h2 u H2 e2 i2 => ?_⟩⟩
  cases q : g dx dy with
  | none => rw [q] at h2; exact False.elim h2
  | some z =>
    cases z with
    | error c => exact absurd q (hn dx dy c)
    | ok d =>
      rw [q] at h2
      exact hg H2 v u dx dy d Q (i1.mono e2) i2 q fun w H3 e3 i3 => h2 w H3 ((e1.trans e2).trans e3) i3
theorem pd_op {op : Operator} {r : R2} {g : D → D → M D} (ho : OpR X (binaryOp op) r) (hg : R2ok X r g) (hn : NoErr g) (ha : PD X B a fa) (hb : PD X B b fb) : PD X B (.BinOp a op b pos) (b2 g fa fb) :=
  PE.of (pe_op ho ha hb) fun _ _ _ h => b2_red hg hn h
theorem pd_cmp {op : CmpOp} {r : R2} {g : D → D → M D} (ho : OpR X (compareOp op) r) (hg : R2ok X r g) (hn : NoErr g) (ha : PD X B a fa) (hb : PD X B b fb) (hm : behindInMarks op b = false) : PD X B (.Compare a [op] [b] pos) (b2 g fa fb) :=
  PE.of (pe_cmpR ho ha hb hm) fun _ _ _ h => b2_red hg hn h
/-- a bool's own truth -/
def tru : D → M Bool
  | .non => ok false
  | .bl b => ok b
  | .int i => ok (i != 0)
  | .tup ds => ok (!ds.isEmpty)
  | .lst ds => ok (!ds.isEmpty)
  | _ => none
def blOf : D → M Bool
  | .bl b => ok b
  | _ => none
def test (f : Rho → M D) : Rho → M Bool := fun ρ => bnd (f ρ) tru
def testB (f : Rho → M D) : Rho → M Bool := fun ρ => bnd (f ρ) blOf
theorem pdt_cmp {op : CmpOp} {r : R2} {g : D → D → M D} (ho : OpR X (compareOp op) r) (hg : R2ok X r g) (hn : NoErr g) (ha : PD X B a fa) (hb : PD X B b fb) (hm : behindInMarks op b = false) : PDT X B (.Compare a [op] [b] pos) (testB (b2 g fa fb)) := by
  refine PT.of (pt_cmpR ho ha hb hm) fun σ H Q h => ?_
  obtain ⟨ρ, r1, h⟩ := h
  refine b2_red hg hn ⟨ρ, r1, (Res.bind h).imp fun d h1 v H1 e1 i1 => ?_⟩
  unfold blOf at h1
  split at h1
  · rename_i k
    cases i1
    exact ⟨k, rfl, h1 H1 e1⟩
  · exact False.elim h1
theorem isEmpty_isL {K : PySem.W.Frag} {H : Hp} {ds : List D} {vs : List V} (r : IsL K H ds vs) : vs.isEmpty = ds.isEmpty := by cases r <;> rfl
theorem tru_V {K : PySem.W.Frag} {H : Hp} {d : D} {v : V} {k : Bool} (i : Is K H d v) (h : tru d = ok k) : TruV K v H k := by
  cases i with
  | non => exact (ok_inj h).symm
  | bl b => exact (ok_inj h).symm
  | int i => exact (ok_inj h).symm
  | str x => exact absurd h (by simp [tru, ok])
  | tup h1 r => exact .inr (.inl ⟨_, h1, by rw [isEmpty_isL r]; exact (ok_inj h).symm⟩)
  | lst h1 r => exact .inl ⟨_, h1, by rw [isEmpty_isL r]; exact (ok_inj h).symm⟩
  | obj h1 r => exact absurd h (by simp [tru, ok])
  | dk h1 r => exact absurd h (by simp [tru, ok])
  | dt h1 r => exact absurd h (by simp [tru, ok])
  | exc h1 => exact absurd h (by simp [tru, ok])
  | set h1 => exact absurd h (by simp [tru, ok])
theorem tru_noerr (d : D) (c : Addr) : tru d ≠ err c := by cases d <;> simp [tru, ok, err]
/-- a value as a test (a name, a call, an index, a field) -/
theorem pdt_val (ha : PD X B a fa) (he : ∀ whole, isTrue a X.env whole = (do let v ← whole; standAt a.pos; holding [v] (truthy v)) := by intro _; rfl) : PDT X B a (test fa) := by
  refine PT.of (pt_truth ha he) fun σ H Q h => ?_
  obtain ⟨ρ, r1, h⟩ := h
  refine ⟨ρ, r1, (Res.bind h).imp fun d h1 v H1 e1 i1 => ?_⟩
  cases q : tru d with
  | none => rw [q] at h1; exact False.elim h1
  | some z =>
    cases z with
    | error c => exact absurd q (tru_noerr d c)
    | ok k => rw [q] at h1; exact ⟨k, tru_V i1 q, h1 H1 e1⟩
/-! ### and, or, not -/
variable {ta tb tc : Rho → M Bool} {rest : List Expr}
def andB (f g : Rho → M Bool) : Rho → M Bool := fun ρ => bnd (f ρ) fun x => if x = true then g ρ else ok false
def orB (f g : Rho → M Bool) : Rho → M Bool := fun ρ => bnd (f ρ) fun x => if x = true then ok true else g ρ
def notB (f : Rho → M Bool) : Rho → M Bool := fun ρ => bnd (f ρ) fun x => ok (!x)
theorem pdw_and1 (ha : PDT X B a ta) : PDW X B (.BoolOp .And [a] pos) ta := pw_and1 ha
theorem pdw_or1 (ha : PDT X B a ta) : PDW X B (.BoolOp .Or [a] pos) ta := pw_or1 ha
theorem pdw_and (ha : PDT X B a ta) (hb : PDW X B (.BoolOp .And (b :: rest) pos) tb) : PDW X B (.BoolOp .And (a :: b :: rest) pos) (andB ta tb) := by
  refine PW.of (pw_and ha hb) fun σ H Q h => ?_
  obtain ⟨ρ, r1, h⟩ := h
  refine ⟨ρ, r1, (Res.bind h).imp fun x h1 H1 e1 => ?_⟩
  cases x with
  | true => exact ⟨ρ, r1.mono e1, Res.mono e1 h1 fun y q H2 e2 => q H2 (e1.trans e2)⟩
  | false => exact h1 H1 e1
theorem pdw_or (ha : PDT X B a ta) (hb : PDW X B (.BoolOp .Or (b :: rest) pos) tb) : PDW X B (.BoolOp .Or (a :: b :: rest) pos) (orB ta tb) := by
  refine PW.of (pw_or ha hb) fun σ H Q h => ?_
  obtain ⟨ρ, r1, h⟩ := h
  refine ⟨ρ, r1, (Res.bind h).imp fun x h1 H1 e1 => ?_⟩
  cases x with
  | false => exact ⟨ρ, r1.mono e1, Res.mono e1 h1 fun y q H2 e2 => q H2 (e1.trans e2)⟩
  | true => exact h1 H1 e1
theorem PDW.pdt {f : Rho → M Bool} (h : PDW X B e f) : PDT X B e f := h.pt
theorem pdt_not (ha : PDT X B a ta) : PDT X B (.UnaryOp .Not a pos) (notB ta) := by
  refine PT.of (pt_not ha) fun σ H Q h => ?_
  obtain ⟨ρ, r1, h⟩ := h
  exact ⟨ρ, r1, (Res.bind h).imp fun x h1 H1 e1 => h1 H1 e1⟩
/-- .. as values; each but the last is a bool -/
def andV (f g : Rho → M D) : Rho → M D := fun ρ => bnd (f ρ) fun x => bnd (blOf x) fun k => if k = true then g ρ else ok (.bl false)
def orV (f g : Rho → M D) : Rho → M D := fun ρ => bnd (f ρ) fun x => bnd (blOf x) fun k => if k = true then ok (.bl true) else g ρ
def notV (f : Rho → M D) : Rho → M D := fun ρ => bnd (f ρ) fun x => bnd (blOf x) fun k => ok (.bl (!k))
theorem blOf_res {σ : St} {H : Hp} {Q : Bool → Prop} {d : D} (h : Res X σ H Q (blOf d)) : ∃ k, d = .bl k ∧ Q k := by
  unfold blOf at h
  split at h
  · exact ⟨_, rfl, h⟩
  · exact False.elim h
theorem pd_one {op} (h : PD X B a fa) : PD X B (.BoolOp op [a] pos) fa := pe_one h
theorem pd_and (ha : PD X B a fa) (hb : PD X B (.BoolOp .And (b :: rest) pos) fb) : PD X B (.BoolOp .And (a :: b :: rest) pos) (andV fa fb) := by
  refine PE.of (pe_and ha hb) fun σ H Q h => ?_
  obtain ⟨ρ, r1, h⟩ := h
  refine ⟨ρ, r1, (Res.bind h).imp fun d h1 v H1 e1 i1 => ?_⟩
  obtain ⟨k, rfl, h2⟩ := blOf_res (Res.bind h1)
  cases i1
  refine ⟨k, rfl, ?_⟩
  cases k with
  | true => exact ⟨ρ, r1.mono e1, Res.mono e1 h2 fun y q u H2 e2 i2 => q u H2 (e1.trans e2) i2⟩
  | false => exact h2 _ H1 e1 (.bl false)
theorem pd_or (ha : PD X B a fa) (hb : PD X B (.BoolOp .Or (b :: rest) pos) fb) : PD X B (.BoolOp .Or (a :: b :: rest) pos) (orV fa fb) := by
  refine PE.of (pe_or ha hb) fun σ H Q h => ?_
  obtain ⟨ρ, r1, h⟩ := h
  refine ⟨ρ, r1, (Res.bind h).imp fun d h1 v H1 e1 i1 => ?_⟩
  obtain ⟨k, rfl, h2⟩ := blOf_res (Res.bind h1)
  cases i1
  refine ⟨k, rfl, ?_⟩
  cases k with
  | false => exact ⟨ρ, r1.mono e1, Res.mono e1 h2 fun y q u H2 e2 i2 => q u H2 (e1.trans e2) i2⟩
  | true => exact h2 _ H1 e1 (.bl true)
theorem pd_not (ha : PD X B a fa) : PD X B (.UnaryOp .Not a pos) (notV fa) := by
  refine PE.of (pe_not ha) fun σ H Q h => ?_
  obtain ⟨ρ, r1, h⟩ := h
  refine ⟨ρ, r1, (Res.bind h).imp fun d h1 v H1 e1 i1 => ?_⟩
  obtain ⟨k, rfl, h2⟩ := blOf_res (Res.bind h1)
  cases i1
  exact ⟨k, rfl, h2 _ H1 e1 (.bl _)⟩
def ifV (t : Rho → M Bool) (f g : Rho → M D) : Rho → M D := fun ρ => bnd (t ρ) fun k => if k = true then f ρ else g ρ
theorem pd_if (hc : PDT X B c tc) (ha : PD X B a fa) (hb : PD X B b fb) : PD X B (.IfExp c a b pos) (ifV tc fa fb) := by
  refine PE.of (pe_ifExp hc ha hb) fun σ H Q h => ?_
  obtain ⟨ρ, r1, h⟩ := h
  refine ⟨ρ, r1, (Res.bind h).imp fun k h1 H1 e1 => ?_⟩
  cases k with
  | true => exact ⟨ρ, r1.mono e1, Res.mono e1 h1 fun y q u H2 e2 i2 => q u H2 (e1.trans e2) i2⟩
  | false => exact ⟨ρ, r1.mono e1, Res.mono e1 h1 fun y q u H2 e2 i2 => q u H2 (e1.trans e2) i2⟩
/-! ### argument lists, tuples, lists -/
def nostar : Expr → Bool
  | .Starred .. => false
  | _ => true
theorem star_ok {e : Expr} {es : List Expr} {env : Env} (h : nostar e = true) : starEach (e :: es) env = (false, eval e env) :: starEach es env := by
  cases e <;> first | rfl | cases h
theorem star1 {e : Expr} {env : Env} (h : nostar e = true) : starEach [e] env = [(false, eval e env)] := star_ok h
theorem star2 {e f : Expr} {env : Env} (h : nostar e = true) (h' : nostar f = true) : starEach [e, f] env = [(false, eval e env), (false, eval f env)] := by rw [star_ok h, star1 h']
def aNil : Rho → M (List D) := fun _ => ok []
def aCons (f : Rho → M D) (g : Rho → M (List D)) : Rho → M (List D) := fun ρ => bnd (f ρ) fun x => bnd (g ρ) fun xs => ok (x :: xs)
variable {ga : Rho → M (List D)}
theorem pda_nil : PDA X B [] aNil := PA.of pa_nil fun σ H Q ⟨ρ, r, h⟩ => h [] H (Same.refl H) .nil
theorem pda_cons (ha : PD X B e fa) (hr : PDA X B es ga) (hs : starEach (e :: es) X.env = (false, eval e X.env) :: starEach es X.env := by exact star_ok rfl) : PDA X B (e :: es) (aCons fa ga) := by
  refine PA.of (pa_cons ha hr hs) fun σ H Q h => ?_
  obtain ⟨ρ, r1, h⟩ := h
  refine ⟨ρ, r1, (Res.bind h).imp fun d h1 v H1 e1 i1 => ⟨ρ, r1.mono e1, (Res.bind h1).mono e1 fun ds h2 vs H2 e2 i2 => ?_⟩⟩
  exact h2 (v :: vs) H2 (e1.trans e2) (.cons (i1.mono e2) i2)
theorem same_new {H : Hp} {p : Addr} (h : H p = none) (o : HO) : Same H (upd H p o) := fun b u q => by rw [upd_ne (ne_of_none q h)]; exact q
def mkT (g : Rho → M (List D)) : Rho → M D := fun ρ => bnd (g ρ) fun ds => if ds.length ≤ 1000 then ok (.tup ds) else none
def mkL (g : Rho → M (List D)) : Rho → M D := fun ρ => bnd (g ρ) fun ds => if ds.length ≤ 1000 then ok (.lst ds) else none
theorem le_line {n : Nat} (h : n ≤ 1000) : n ≤ sizeLine := Nat.le_of_lt (small1000 h)
theorem pd_tup {x1} (h : PDA X B es ga) : PD X B (.Tuple es x1 pos) (mkT ga) := by
  refine PE.of (pe_tup h) fun σ H Q h => ?_
  obtain ⟨ρ, r1, h⟩ := h
  refine ⟨ρ, r1, (Res.bind h).imp fun ds h1 vs H1 e1 i1 => ?_⟩
  by_cases hl : ds.length ≤ 1000
  · rw [if_pos hl] at h1
    exact ⟨by rw [← i1.length]; exact le_line hl, fun p hp => h1 _ _ (e1.trans (same_new hp _)) (.tup (SqT.of upd_same) (i1.mono (same_new hp _)))⟩
  · rw [if_neg hl] at h1; exact False.elim h1
theorem pd_lst (h : PDA X B es ga) : PD X B (.List es pos) (mkL ga) := by
  refine PE.of (pe_lst h) fun σ H Q h => ?_
  obtain ⟨ρ, r1, h⟩ := h
  refine ⟨ρ, r1, (Res.bind h).imp fun ds h1 vs H1 e1 i1 => ?_⟩
  by_cases hl : ds.length ≤ 1000
  · rw [if_pos hl] at h1
    exact ⟨by rw [← i1.length]; exact le_line hl, fun p hp => h1 _ _ (e1.trans (same_new hp _)) (.lst (SqL.of upd_same) (i1.mono (same_new hp _)))⟩
  · rw [if_neg hl] at h1; exact False.elim h1
end
end L2.PU

set_option Elab.async false
set_option linter.all false
set_option maxRecDepth 100000
set_option maxHeartbeats 4000000
namespace L2.PU
open PySem PySem.Spec PyProof.Rows

/-! ### arithmetic -/
def gAdd : D → D → M D
  | .int i, .int j => ok (.int (i + j))
  | _, _ => none
def gSub : D → D → M D
  | .int i, .int j => ok (.int (i - j))
  | _, _ => none
def mulB (i j : Int) : Bool := decide (Builtin.Int.intBits i ≤ 1048576) && decide (Builtin.Int.intBits j ≤ 1048576)
def gMul : D → D → M D
  | .int i, .int j => if mulB i j = true then ok (.int (i * j)) else none
  | _, _ => none
def gFdiv : D → D → M D
  | .int i, .int j => if 0 < j ∧ j < 1073741824 then ok (.int (i / j)) else none
  | _, _ => none
def gMod : D → D → M D
  | .int i, .int j => if 0 < j then ok (.int (i % j)) else none
  | _, _ => none
def gPow : D → D → M D
  | .int i, .int j => if 0 ≤ j ∧ j ≤ 1000 ∧ i.natAbs < 1000 then ok (.int (i ^ j.toNat)) else none
  | _, _ => none
section
variable {X : Cx} {B : Hp} {a b : Expr} {fa fb : Rho → M D} {pos : Pos}
theorem mulB_ok {i j : Int} (h : mulB i j = true) : IntMulOk i j := by
  unfold mulB at h
  rw [Bool.and_eq_true] at h
  exact IntMulOk.of_bits (of_decide_eq_true h.1) (of_decide_eq_true h.2)
theorem op_mulB : OpR X (binaryOp .Mult) (rI (fun i j => mulB i j = true) fun i j => .int (i * j)) := opI fun _ _ _ _ _ _ _ hc q => mul_int q (mulB_ok hc)
theorem r_int0 {h : Int → Int → Int} {g : D → D → M D} (hg : ∀ dx dy d, g dx dy = ok d → ∃ i j, dx = .int i ∧ dy = .int j ∧ d = .int (h i j)) : R2ok X (rI0 fun i j => .int (h i j)) g := by
  intro H x y dx dy d Q ix iy e q
  obtain ⟨i, j, rfl, rfl, rfl⟩ := hg _ _ _ e
  cases ix; cases iy
  exact ⟨i, j, rfl, rfl, q _ H (Same.refl H) (.int _)⟩
theorem r_int {C : Int → Int → Prop} {h : Int → Int → Int} {g : D → D → M D} (hg : ∀ dx dy d, g dx dy = ok d → ∃ i j, dx = .int i ∧ dy = .int j ∧ C i j ∧ d = .int (h i j)) : R2ok X (rI C fun i j => .int (h i j)) g := by
  intro H x y dx dy d Q ix iy e q
  obtain ⟨i, j, rfl, rfl, c, rfl⟩ := hg _ _ _ e
  cases ix; cases iy
  exact ⟨i, j, rfl, rfl, c, q _ H (Same.refl H) (.int _)⟩
theorem pd_add (ha : PD X B a fa) (hb : PD X B b fb) : PD X B (.BinOp a .Add b pos) (b2 gAdd fa fb) :=
  pd_op op_add (r_int0 fun dx dy d e => by
    cases dx <;> cases dy <;> first | (cases e; done) | exact ⟨_, _, rfl, rfl, (ok_inj e).symm⟩) (by intro x y c; cases x <;> cases y <;> (intro h; cases h)) ha hb
theorem pd_sub (ha : PD X B a fa) (hb : PD X B b fb) : PD X B (.BinOp a .Sub b pos) (b2 gSub fa fb) :=
  pd_op op_sub (r_int0 fun dx dy d e => by
    cases dx <;> cases dy <;> first | (cases e; done) | exact ⟨_, _, rfl, rfl, (ok_inj e).symm⟩) (by intro x y c; cases x <;> cases y <;> (intro h; cases h)) ha hb
theorem pd_mul (ha : PD X B a fa) (hb : PD X B b fb) : PD X B (.BinOp a .Mult b pos) (b2 gMul fa fb) :=
  pd_op op_mulB (r_int fun dx dy d e => by
    cases dx <;> cases dy <;> first | (cases e; done) | skip
    dsimp only [gMul] at e
    split at e
    · rename_i h; exact ⟨_, _, rfl, rfl, h, (ok_inj e).symm⟩
    · exact nomatch e) (by intro x y c; cases x <;> cases y <;> (intro h; first | (cases h; done) | (dsimp only [gMul] at h; split at h <;> exact nomatch h))) ha hb
theorem pd_fdiv (ha : PD X B a fa) (hb : PD X B b fb) : PD X B (.BinOp a .FloorDiv b pos) (b2 gFdiv fa fb) :=
  pd_op op_fdiv (r_int fun dx dy d e => by
    cases dx <;> cases dy <;> first | (cases e; done) | skip
    dsimp only [gFdiv] at e
    split at e
    · rename_i h; exact ⟨_, _, rfl, rfl, h, (ok_inj e).symm⟩
    · exact nomatch e) (by intro x y c; cases x <;> cases y <;> (intro h; first | (cases h; done) | (dsimp only [gFdiv] at h; split at h <;> exact nomatch h))) ha hb
theorem pd_mod (ha : PD X B a fa) (hb : PD X B b fb) : PD X B (.BinOp a .Mod b pos) (b2 gMod fa fb) :=
  pd_op op_mod (r_int fun dx dy d e => by
    cases dx <;> cases dy <;> first | (cases e; done) | skip
    dsimp only [gMod] at e
    split at e
    · rename_i h; exact ⟨_, _, rfl, rfl, h, (ok_inj e).symm⟩
    · exact nomatch e) (by intro x y c; cases x <;> cases y <;> (intro h; first | (cases h; done) | (dsimp only [gMod] at h; split at h <;> exact nomatch h))) ha hb
theorem pd_pow (ha : PD X B a fa) (hb : PD X B b fb) : PD X B (.BinOp a .Pow b pos) (b2 gPow fa fb) :=
  pd_op op_pow (r_int fun dx dy d e => by
    cases dx <;> cases dy <;> first | (cases e; done) | skip
    dsimp only [gPow] at e
    split at e
    · rename_i h; exact ⟨_, _, rfl, rfl, ⟨h.1, by omega, by have := h.2.2; omega⟩, (ok_inj e).symm⟩
    · exact nomatch e) (by intro x y c; cases x <;> cases y <;> (intro h; first | (cases h; done) | (dsimp only [gPow] at h; split at h <;> exact nomatch h))) ha hb

/-! ### comparisons -/
def gLt : D → D → M D
  | .int i, .int j => ok (.bl (decide (i < j)))
  | _, _ => none
def gLe : D → D → M D
  | .int i, .int j => ok (.bl (decide (i ≤ j)))
  | _, _ => none
def gGt : D → D → M D
  | .int i, .int j => ok (.bl (decide (j < i)))
  | _, _ => none
def gGe : D → D → M D
  | .int i, .int j => ok (.bl (decide (j ≤ i)))
  | _, _ => none
/-- == of flat data -/
def eqF : D → D → Option Bool
  | .non, .non => some true
  | .non, .int _ => some false
  | .int _, .non => some false
  | .non, .bl _ => some false
  | .bl _, .non => some false
  | .non, .str _ => some false
  | .str _, .non => some false
  | .int i, .int j => some (decide (i = j))
  | .bl i, .bl j => some (decide (i = j))
  | .str i, .str j => some (decide (i = j))
  | .int _, .str _ => some false
  | .str _, .int _ => some false
  | .bl _, .str _ => some false
  | .str _, .bl _ => some false
  | _, _ => none
def gEq (x y : D) : M D := match eqF x y with
  | some b => ok (.bl b)
  | none => none
def gNe (x y : D) : M D := match eqF x y with
  | some b => ok (.bl (!b))
  | none => none
def isNon : D → Bool
  | .non => true
  | _ => false
def gIs : D → D → M D
  | x, .non => ok (.bl (isNon x))
  | _, _ => none
def gIsNot : D → D → M D
  | x, .non => ok (.bl (!isNon x))
  | _, _ => none
theorem r_intB {h : Int → Int → Bool} {g : D → D → M D} (hg : ∀ dx dy d, g dx dy = ok d → ∃ i j, dx = .int i ∧ dy = .int j ∧ d = .bl (h i j)) : R2ok X (rI0 fun i j => .bl (h i j)) g := by
  intro H x y dx dy d Q ix iy e q
  obtain ⟨i, j, rfl, rfl, rfl⟩ := hg _ _ _ e
  cases ix; cases iy
  exact ⟨i, j, rfl, rfl, q _ H (Same.refl H) (.bl _)⟩
theorem r_lt : R2ok X (rI0 fun i j => .bl (decide (i < j))) gLt := r_intB fun dx dy d e => by
    cases dx <;> cases dy <;> first | (cases e; done) | exact ⟨_, _, rfl, rfl, (ok_inj e).symm⟩
theorem r_le : R2ok X (rI0 fun i j => .bl (decide (i ≤ j))) gLe := r_intB fun dx dy d e => by
    cases dx <;> cases dy <;> first | (cases e; done) | exact ⟨_, _, rfl, rfl, (ok_inj e).symm⟩
theorem r_gt : R2ok X (rI0 fun i j => .bl (decide (j < i))) gGt := r_intB fun dx dy d e => by
    cases dx <;> cases dy <;> first | (cases e; done) | exact ⟨_, _, rfl, rfl, (ok_inj e).symm⟩
theorem r_ge : R2ok X (rI0 fun i j => .bl (decide (j ≤ i))) gGe := r_intB fun dx dy d e => by
    cases dx <;> cases dy <;> first | (cases e; done) | exact ⟨_, _, rfl, rfl, (ok_inj e).symm⟩
theorem n_lt : NoErr gLt := by intro x y c; cases x <;> cases y <;> (intro h; exact nomatch h)
theorem n_le : NoErr gLe := by intro x y c; cases x <;> cases y <;> (intro h; exact nomatch h)
theorem n_gt : NoErr gGt := by intro x y c; cases x <;> cases y <;> (intro h; exact nomatch h)
theorem n_ge : NoErr gGe := by intro x y c; cases x <;> cases y <;> (intro h; exact nomatch h)
theorem n_is : NoErr gIs := by intro x y c; cases y <;> (intro h; exact nomatch h)
theorem n_isnot : NoErr gIsNot := by intro x y c; cases y <;> (intro h; exact nomatch h)
theorem n_eq : NoErr gEq := by intro x y c h; unfold gEq at h; split at h <;> exact nomatch h
theorem n_ne : NoErr gNe := by intro x y c h; unfold gNe at h; split at h <;> exact nomatch h
theorem eqF_V {K : PySem.W.Frag} {H : Hp} {dx dy : D} {x y : V} {b : Bool} (ix : Is K H dx x) (iy : Is K H dy y) (e : eqF dx dy = some b) : scal x y = true ∧ decide (x = y) = b := by
  cases ix <;> cases iy <;> first
    | (cases e; done)
    | (have e' := Option.some.inj e; subst e'; exact ⟨rfl, by simp⟩)
theorem r_eq : R2ok X rEq gEq := by
  intro H x y dx dy d Q ix iy e q
  unfold gEq at e
  split at e
  · rename_i b hb
    obtain ⟨h1, h2⟩ := eqF_V ix iy hb
    have e' := ok_inj e; subst e'
    exact ⟨h1, by rw [h2]; exact q _ H (Same.refl H) (.bl _)⟩
  · exact nomatch e
theorem r_ne : R2ok X rNe gNe := by
  intro H x y dx dy d Q ix iy e q
  unfold gNe at e
  split at e
  · rename_i b hb
    obtain ⟨h1, h2⟩ := eqF_V ix iy hb
    have e' := ok_inj e; subst e'
    exact ⟨h1, by rw [h2]; exact q _ H (Same.refl H) (.bl _)⟩
  · exact nomatch e
theorem isNon_V {K : PySem.W.Frag} {H : Hp} {dx : D} {x : V} (ix : Is K H dx x) : decide (x = V.non) = isNon dx := by
  cases ix <;> simp [isNon]
theorem r_is : R2ok X (fun x y H Q => y = .non ∧ Q (.bl (decide (x = .non))) H) gIs := by
  intro H x y dx dy d Q ix iy e q
  cases iy <;> first | (cases e; done) | skip
  have e' := ok_inj e; subst e'
  exact ⟨rfl, by rw [isNon_V ix]; exact q _ H (Same.refl H) (.bl _)⟩
theorem r_isnot : R2ok X (fun x y H Q => y = .non ∧ Q (.bl (!decide (x = .non))) H) gIsNot := by
  intro H x y dx dy d Q ix iy e q
  cases iy <;> first | (cases e; done) | skip
  have e' := ok_inj e; subst e'
  exact ⟨rfl, by rw [isNon_V ix]; exact q _ H (Same.refl H) (.bl _)⟩
theorem pd_lt (ha : PD X B a fa) (hb : PD X B b fb) : PD X B (.Compare a [.Lt] [b] pos) (b2 gLt fa fb) := pd_cmp op_lt r_lt n_lt ha hb (nomark _)
theorem pd_le (ha : PD X B a fa) (hb : PD X B b fb) : PD X B (.Compare a [.LtE] [b] pos) (b2 gLe fa fb) := pd_cmp op_le r_le n_le ha hb (nomark _)
theorem pd_gt (ha : PD X B a fa) (hb : PD X B b fb) : PD X B (.Compare a [.Gt] [b] pos) (b2 gGt fa fb) := pd_cmp op_gt r_gt n_gt ha hb (nomark _)
theorem pd_ge (ha : PD X B a fa) (hb : PD X B b fb) : PD X B (.Compare a [.GtE] [b] pos) (b2 gGe fa fb) := pd_cmp op_ge r_ge n_ge ha hb (nomark _)
theorem pd_eq (ha : PD X B a fa) (hb : PD X B b fb) : PD X B (.Compare a [.Eq] [b] pos) (b2 gEq fa fb) := pd_cmp op_eq r_eq n_eq ha hb (nomark _)
theorem pd_ne (ha : PD X B a fa) (hb : PD X B b fb) : PD X B (.Compare a [.NotEq] [b] pos) (b2 gNe fa fb) := pd_cmp op_ne r_ne n_ne ha hb (nomark _)
theorem pd_is (ha : PD X B a fa) (hb : PD X B b fb) : PD X B (.Compare a [.Is] [b] pos) (b2 gIs fa fb) := pd_cmp op_isN r_is n_is ha hb (nomark _)
theorem pd_isnot (ha : PD X B a fa) (hb : PD X B b fb) : PD X B (.Compare a [.IsNot] [b] pos) (b2 gIsNot fa fb) := pd_cmp op_notN r_isnot n_isnot ha hb (nomark _)
theorem pdt_lt (ha : PD X B a fa) (hb : PD X B b fb) : PDT X B (.Compare a [.Lt] [b] pos) (testB (b2 gLt fa fb)) := pdt_cmp op_lt r_lt n_lt ha hb (nomark _)
theorem pdt_le (ha : PD X B a fa) (hb : PD X B b fb) : PDT X B (.Compare a [.LtE] [b] pos) (testB (b2 gLe fa fb)) := pdt_cmp op_le r_le n_le ha hb (nomark _)
theorem pdt_gt (ha : PD X B a fa) (hb : PD X B b fb) : PDT X B (.Compare a [.Gt] [b] pos) (testB (b2 gGt fa fb)) := pdt_cmp op_gt r_gt n_gt ha hb (nomark _)
theorem pdt_ge (ha : PD X B a fa) (hb : PD X B b fb) : PDT X B (.Compare a [.GtE] [b] pos) (testB (b2 gGe fa fb)) := pdt_cmp op_ge r_ge n_ge ha hb (nomark _)
theorem pdt_eq (ha : PD X B a fa) (hb : PD X B b fb) : PDT X B (.Compare a [.Eq] [b] pos) (testB (b2 gEq fa fb)) := pdt_cmp op_eq r_eq n_eq ha hb (nomark _)
theorem pdt_ne (ha : PD X B a fa) (hb : PD X B b fb) : PDT X B (.Compare a [.NotEq] [b] pos) (testB (b2 gNe fa fb)) := pdt_cmp op_ne r_ne n_ne ha hb (nomark _)
theorem pdt_is (ha : PD X B a fa) (hb : PD X B b fb) : PDT X B (.Compare a [.Is] [b] pos) (testB (b2 gIs fa fb)) := pdt_cmp op_isN r_is n_is ha hb (nomark _)
theorem pdt_isnot (ha : PD X B a fa) (hb : PD X B b fb) : PDT X B (.Compare a [.IsNot] [b] pos) (testB (b2 gIsNot fa fb)) := pdt_cmp op_notN r_isnot n_isnot ha hb (nomark _)

/-! ### an item, a slice -/
def gIx : D → D → M D
  | .lst ds, .int i => match atI ds i with | some d => ok d | none => none
  | .tup ds, .int i => match atI ds i with | some d => ok d | none => none
  | .str z, .int i => if z.length ≤ 1000 then (match atI z.cps.toList i with | some c => ok (.str ⟨#[c]⟩) | none => none) else none
  | _, _ => none
theorem n_ix : NoErr gIx := by intro x y c; cases x <;> cases y <;> (intro h; first | (cases h; done) | (dsimp only [gIx] at h; (repeat' split at h) <;> exact nomatch h))
theorem atI_isL {K : PySem.W.Frag} {H : Hp} {ds : List D} {vs : List V} {i : Int} {d : D} (r : IsL K H ds vs) (e : atI ds i = some d) : ∃ v, atI vs i = some v ∧ Is K H d v := by
  unfold atI at e ⊢
  rw [r.length] at e
  cases q : ixN vs.length i with
  | none => rw [q] at e; exact nomatch e
  | some j => rw [q] at e; exact r.get e
theorem r_ix : R2ok X (rIx X.K) gIx := by
  intro H x y dx dy d Q ix iy e q
  cases ix with
  | lst h r =>
    cases iy <;> first | (cases e; done) | skip
    dsimp only [gIx] at e
    split at e
    · rename_i d' hd
      have e' := ok_inj e; subst e'
      obtain ⟨v, h1, h2⟩ := atI_isL r hd
      exact .inl ⟨_, _, _, v, rfl, rfl, h, h1, q _ H (Same.refl H) h2⟩
    · exact nomatch e
  | tup h r =>
    cases iy <;> first | (cases e; done) | skip
    dsimp only [gIx] at e
    split at e
    · rename_i d' hd
      have e' := ok_inj e; subst e'
      obtain ⟨v, h1, h2⟩ := atI_isL r hd
      exact .inr (.inl ⟨_, _, _, v, rfl, rfl, h, h1, q _ H (Same.refl H) h2⟩)
    · exact nomatch e
  | str z =>
    cases iy <;> first | (cases e; done) | skip
    dsimp only [gIx] at e
    split at e
    · rename_i hz
      split at e
      · rename_i c hc
        have e' := ok_inj e; subst e'
        exact .inr (.inr ⟨_, _, c, rfl, rfl, Nat.le_trans hz (by decide), hc, q _ H (Same.refl H) (.str _)⟩)
      · exact nomatch e
    · exact nomatch e
  | _ => cases iy <;> exact nomatch e
theorem pd_ix (ha : PD X B a fa) (hb : PD X B b fb) (hs : PlainIx b) : PD X B (.Subscript a b pos) (b2 gIx fa fb) := PE.of (pe_ix ix_seq ha hb hs) fun _ _ _ h => b2_red r_ix n_ix h

/-! ### slices of lists (a part: left out, or an int) -/
def oPart (f : Rho → M D) : Rho → M (Option Int) := fun ρ => bnd (f ρ) fun d => match d with | .int i => ok (some i) | _ => none
def oNone : Rho → M (Option Int) := fun _ => ok none
def tDO (X : Cx) (B : Hp) (f : Rho → M (Option Int)) : TO := fun σ H Q => ∃ ρ, Rel X.K B ρ σ H ∧ Res X σ H (fun o => ∀ H', Same H H' → Q o H') (f ρ)
theorem pdo_none : PO X none (tDO X B oNone) := fun pins s σ H Q I ⟨ρ, r, h⟩ => po_none pins s σ H Q I (h H (Same.refl H))
theorem pdo_some {e : Expr} (he : PD X B e fa) : PO X (some e) (tDO X B (oPart fa)) := fun pins s σ H Q I ⟨ρ, r, h⟩ => by
  refine po_some he pins s σ H Q I ⟨ρ, r, (Res.bind h).imp fun d h1 v H1 e1 i1 => ?_⟩
  cases i1 <;> first | exact False.elim h1 | exact ⟨_, rfl, h1 H1 e1⟩
def cutD (xs : List D) (lo hi : Option Int) : List D := (xs.drop (HT.sIx xs.length 0 lo)).take (HT.sIx xs.length xs.length hi - HT.sIx xs.length 0 lo)
/-- a part of a text -/
def strCut (z : Str) (lo hi : Option Int) : Str := ⟨((z.cps.toList.drop (HT.sIx z.length 0 lo)).take (HT.sIx z.length z.length hi - HT.sIx z.length 0 lo)).toArray⟩
theorem cut_whole {α : Type} (xs : List α) {i j : Nat} (h : i = 0) (h' : j = xs.length) : (xs.drop i).take (j - i) = xs := by
  subst h h'
  rw [List.drop_zero, Nat.sub_zero, List.take_length]
section
variable {prog : Program} {w : World} {A : Around} {E : Value → Shared → Prop} {s : Shared}
theorem getItem_tuple_whole {t sl : Addr} {items : Array Value} {vl vu : Value} {lo hi : Option Int} {Q : Value → Shared → Prop} (ht : IsTup s.heap t items) (hs : s.heap.IsSliceOf sl vl vu .none) (pl : IsPart vl lo) (pu : IsPart vu hi)
    (hw : HT.sIx items.size 0 lo = 0 ∧ HT.sIx items.size items.size hi = items.size) (h : Q (.ref t) s) : wpAny (model prog w) A (getItem (.ref t) (.ref sl)) Q E s := by
  obtain ⟨os, hos, hcs, hds⟩ := id hs
  have hTs : s.TypeIs (.ref sl) "slice" := ⟨os, hos, hcs⟩
  unfold getItem
  try with_reducible refine wpAny_holding ?_
  first | refine wpAny_bind (wpAny_pure ?_) | skip
  refine wpAny_bind (wpAny_sequenceKey ht.typeIs (by decide) ?_)
  refine wpAny_bind (wpAny_callSpecial?_slot (name := Str.ofString "__getitem__") ht.typeIs PyProof.Rows.slot_tuple_getitem
    (wpAny_call_entry PyProof.Rows.slot_tuple_getitem ht.typeIs entry_tuple_getitem ?_ (args_tuple_getitem _ _)))
  show wpAny _ _ (Builtin.Tuple.tupleItemsOf (.ref t) >>= _) _ _ s
  refine wpAny_bind (tupleItemsOf_ ht ?_)
  refine wpAny_bind (wpAny_typeOf hTs ?_)
  rw [if_pos (by decide)]
  refine wpAny_bind (HT.sliceApplied_gen hs pl pu ?_)
  show wpAny _ _ (if (((HT.sIx items.size 0 lo : Nat) : Int) == 0 && (1 : Int) == 1 && (HT.sIx items.size items.size hi - HT.sIx items.size 0 lo) == items.size) = true then _ else _) _ _ s
  rw [if_pos (by rw [hw.1, hw.2]; simp)]
  refine wpAny_bind (m := Builtin.Tuple.tupleIsExact _) (wpAny_bind (m := typeOf _) (wpAny_typeOf ht.typeIs (wpAny_pure ?_)))
  rw [if_pos (by decide)]
  exact wpAny_bind (wpAny_rule (wpAny_bind (wpAny_pure (wpAny_pure ⟨_, rfl, wpAny_pure h⟩))))
theorem strPicked_cut (z : Str) (l u : Option (Int × Tok)) : slicePicked z l u none = (List.range (HT.sIx z.length z.length (u.map (·.1)) - HT.sIx z.length 0 (l.map (·.1)))).map (HT.sIx z.length 0 (l.map (·.1)) + ·) := by
  have cl : ∀ (i : Int) (d : Nat), max 0 (min (if i < 0 then i + (z.length : Int) else i) (z.length : Int)) = ((HT.sIx z.length d (some i) : Nat) : Int) := by
    intro i d
    show _ = (((if i < 0 then (i + (z.length : Int)).toNat else min i.toNat z.length) : Nat) : Int)
    by_cases hv : i < 0
    · simp only [if_pos hv]; omega
    · simp only [if_neg hv]; omega
  have e : slicePicked z l u none = sliceRange ((HT.sIx z.length 0 (l.map (·.1)) : Nat) : Int) ((HT.sIx z.length z.length (u.map (·.1)) : Nat) : Int) 1 := by
    unfold slicePicked Builtin.Str.strSliceIndices
    simp only [Option.map_none, Option.getD_none, show (1 : Int) > 0 by decide, if_true]
    congr 1
    · cases l with
      | none => rfl
      | some i => exact cl i.1 0
    · cases u with
      | none => rfl
      | some i => exact cl i.1 z.length
  rw [e, sliceRange_one]
end
section
variable {X : Cx}
def rSlW (K : PySem.W.Frag) : V → Option Int → Option Int → Hp → VK → Prop := fun x lo hi H Q => ∃ a xs, x = .ref a ∧ SqT K H a xs ∧ (HT.sIx xs.length 0 lo = 0 ∧ HT.sIx xs.length xs.length hi = xs.length) ∧ Q (.ref a) H
theorem sl_tupW : SlR X (rSlW X.K) := by
  intro pins s σ H x v vl vu lo hi sl Q I rx hs pl pu h
  obtain ⟨a, xs, rfl, hx, hw, q⟩ := h
  cases rx
  obtain ⟨its, r, ht, hz⟩ := I.tuple hx
  have hlen : its.toArray.size = xs.length := by rw [List.size_toArray]; exact r.length.symm
  exact ⟨"tuple", _, PyProof.Rows.slot_tuple_getitem.lookup, ht.typeIs, getItem_tuple_whole ht hs pl pu (by rw [hlen]; exact hw) ⟨.ref a, H, I, rfl, q⟩⟩
def rSlS : V → Option Int → Option Int → Hp → VK → Prop := fun x lo hi H Q => ∃ z, x = .str z ∧ z.length ≤ sizeLine ∧ Q (.str (strCut z lo hi)) H
theorem part_of {v : Value} {o : Option Int} (p : IsPart v o) : ∃ l : Option (Int × Tok), v = partValue l ∧ l.map (·.1) = o := by
  cases p with
  | none => exact ⟨none, rfl, rfl⟩
  | int i t => exact ⟨some (i, t), rfl, rfl⟩
theorem sl_str : SlR X rSlS := by
  intro pins s σ H x v vl vu lo hi sl Q I rx hs pl pu h
  obtain ⟨z, rfl, hz, q⟩ := h
  obtain ⟨t, rfl⟩ := rx
  obtain ⟨l, rfl, rfl⟩ := part_of pl
  obtain ⟨u, rfl, rfl⟩ := part_of pu
  refine ⟨"str", _, slot_str_getitem.lookup, typeIs_str s z t, ?_⟩
  refine wpAny_getItem_str_slice (l := l) (u := u) (st := none) hs rfl ?_
  have hp := strPicked_cut z l u
  have hj : HT.sIx z.length z.length (u.map (·.1)) ≤ z.length := HT.sIx_le _ _ (Nat.le_refl _) _
  have hi0 : HT.sIx z.length 0 (l.map (·.1)) ≤ z.length := HT.sIx_le _ 0 (Nat.zero_le _) _
  have hc : z.cps.toList.length = z.length := by simp [Str.length]
  unfold sliceMade
  rw [hp]
  split
  · rename_i hh
    simp only [Option.map_none, Option.getD_none, List.length_map, List.length_range, Bool.and_eq_true, beq_iff_eq] at hh
    have e : strCut z (l.map (·.1)) (u.map (·.1)) = z := by
      unfold strCut
      rw [cut_whole _ (by omega) (by omega)]
    exact ⟨.str z, H, I, ⟨t, rfl⟩, by rw [e] at q; exact q⟩
  · rw [pick_run]
    refine ⟨?_, ⟨.str (strCut z (l.map (·.1)) (u.map (·.1))), H, I.tok _, ⟨_, rfl⟩, q⟩⟩
    show ((z.cps.toList.drop (HT.sIx z.length 0 (l.map (·.1)))).take _).toArray.size ≤ sizeLine
    rw [List.size_toArray, List.length_take, List.length_drop, hc]
    omega
end
def gCut : D → Option Int → Option Int → M D
  | .lst ds, lo, hi => ok (.lst (cutD ds lo hi))
  | .tup ds, lo, hi => ok (.tup (cutD ds lo hi))
  | .str z, lo, hi => if z.length ≤ 1000 then ok (.str (strCut z lo hi)) else none
  | _, _, _ => none
def cut3 (fa : Rho → M D) (fl fh : Rho → M (Option Int)) : Rho → M D := fun ρ => bnd (fa ρ) fun x => bnd (fl ρ) fun l => bnd (fh ρ) fun h => gCut x l h
theorem isL_cut {K : PySem.W.Frag} {H : Hp} {ds : List D} {vs : List V} (r : IsL K H ds vs) (lo hi : Option Int) : IsL K H (cutD ds lo hi) (cutV vs lo hi) := by
  unfold cutD cutV
  rw [r.length]
  exact (r.drop _).take _
theorem pd_slice {e : Expr} {lo hi : Option Expr} {fl fh : Rho → M (Option Int)} {p2 : Pos} (he : PD X B e fa) (hl : PO X lo (tDO X B fl)) (hu : PO X hi (tDO X B fh)) : PD X B (.Subscript e (.Slice lo hi none p2) pos) (cut3 fa fl fh) := by
  refine PE.of (pe_slice (SlR.or sl_list (SlR.or sl_tup (SlR.or sl_tupW sl_str))) he hl hu) fun σ H Q h => ?_
  obtain ⟨ρ, r1, h⟩ := h
  refine ⟨ρ, r1, (Res.bind h).imp fun d h1 v H1 e1 i1 => ⟨ρ, r1.mono e1, (Res.bind h1).mono e1 fun l h2 H2 e2 => ⟨ρ, (r1.mono e1).mono e2, (Res.bind h2).mono (e1.trans e2) fun u h3 H3 e3 => ?_⟩⟩⟩
  have i3 := (i1.mono e2).mono e3
  cases i3 with
  | lst hh r => exact .inl ⟨_, _, rfl, hh, fun p hp => h3 _ _ (((e1.trans e2).trans e3).trans (same_new hp _)) (.lst (SqL.of upd_same) ((isL_cut r l u).mono (same_new hp _)))⟩
  | tup hh r =>
    rename_i a' ds' vs'
    have hlen := r.length
    by_cases hn : HT.sIx vs'.length 0 l = 0 ∧ HT.sIx vs'.length vs'.length u = vs'.length
    · have e : cutD ds' l u = ds' := by
        unfold cutD
        rw [hlen]
        exact cut_whole _ hn.1 (by rw [hn.2, hlen])
      refine .inr (.inr (.inl ⟨_, _, rfl, hh, hn, ?_⟩))
      have h4 := h3 _ _ ((e1.trans e2).trans e3) (show Is X.K H3 (.tup (cutD ds' l u)) (.ref a') by rw [e]; exact .tup hh r)
      exact h4
    · exact .inr (.inl ⟨_, _, rfl, hh, hn, fun p hp => h3 _ _ (((e1.trans e2).trans e3).trans (same_new hp _)) (.tup (SqT.of upd_same) ((isL_cut r l u).mono (same_new hp _)))⟩)
  | str z =>
    dsimp only [gCut] at h3
    split at h3
    · rename_i hz
      exact .inr (.inr (.inr ⟨_, rfl, Nat.le_trans hz (by decide), h3 _ _ ((e1.trans e2).trans e3) (.str _)⟩))
    · exact False.elim h3
  | _ => exact False.elim h3
end
end L2.PU

set_option Elab.async false
set_option linter.all false
set_option maxRecDepth 100000
set_option maxHeartbeats 4000000
namespace L2.PU
open PySem PySem.Spec PyProof.Rows

/-! ### the kinds of data, as isinstance sees them -/
def tyN : D → Option String
  | .non => some "NoneType"
  | .bl _ => some "bool"
  | .int _ => some "int"
  | .str _ => some "str"
  | .tup _ => some "tuple"
  | .lst _ => some "list"
  | .obj _ _ => none
  | .dk _ => some "dict"
  | .dt _ => some "dict"
  | .exc _ => none
  | .set _ => none
def isB (t T : String) : Bool := t == T || (t == "bool" && T == "int")
def kTys : List String := ["tuple", "list", "bool", "str", "int", "dict"]
theorem kit_tab (K : PySem.W.Frag) {d : D} {t T : String} (ht : tyN d = some t) (hT : T ∈ kTys) : PySem.W.kitOne K (.type t) (.type T) = some (isB t T) := by
  unfold kTys at hT
  simp only [List.mem_cons, List.not_mem_nil, or_false] at hT
  cases d <;> (have e := ht; unfold tyN at e; first | (cases e; done) | skip) <;> (have e' := Option.some.inj e; subst e') <;> rcases hT with rfl | rfl | rfl | rfl | rfl | rfl <;> kernel_rfl
section
variable {X : Cx} {B : Hp} {pins : List (Addr × Obj)} {σ : St} {H : Hp} {s : Shared}
theorem kit_of {d : D} {x : V} {u : Value} {t : String} (I : Inv X pins σ H s) (i : Is X.K H d x) (r : RelV x u) (ht : tyN d = some t) :
    ∃ HH : Heap → Prop, PySem.W.KitX X.K u (.type t) HH ∧ HH s.heap ∧ u ≠ .builtin "__main__.__loader__#opaque" := by
  cases i with
  | non => cases r; cases ht; exact ⟨_, PySem.W.kitx_none, True.intro, fun z => nomatch z⟩
  | bl b => cases r; cases ht; exact ⟨_, PySem.W.kitx_bool, True.intro, fun z => nomatch z⟩
  | int b => obtain ⟨t, rfl⟩ := r; cases ht; exact ⟨_, PySem.W.kitx_int, True.intro, fun z => nomatch z⟩
  | str b => obtain ⟨t, rfl⟩ := r; cases ht; exact ⟨_, PySem.W.kitx_str, True.intro, fun z => nomatch z⟩
  | lst h rr =>
    cases r; cases ht
    obtain ⟨its, _, ⟨o, n, e, hc, _, _⟩, _⟩ := I.list h
    exact ⟨_, PySem.W.kitx_list, ⟨o, e, hc⟩, fun z => nomatch z⟩
  | tup h rr =>
    cases r; cases ht
    obtain ⟨its, _, ⟨o, e, hc, _, _⟩, _⟩ := I.tuple h
    exact ⟨_, PySem.W.kitx_tuple, ⟨o, e, hc⟩, fun z => nomatch z⟩
  | obj h rr => cases ht
  | dk h rr =>
    cases r; cases ht
    obtain ⟨_, _, vs, _, o, es, ep, e1, e2, _⟩ := (show ObjOk X.prog X.w H s.heap _ (.dK _) from I.hok _ _ h)
    exact ⟨_, PySem.W.kitx_dict, ⟨o, e1, e2.1⟩, fun z => nomatch z⟩
  | dt h rr =>
    cases r; cases ht
    obtain ⟨_, _, vs, _, o, es, ep, e1, e2, _⟩ := (show ObjOk X.prog X.w H s.heap _ (.dT _) from I.hok _ _ h)
    exact ⟨_, PySem.W.kitx_dict, ⟨o, e1, e2.1⟩, fun z => nomatch z⟩
  | exc h => cases ht
  | set h => cases ht
def kitL (t : String) : List String → Bool
  | [] => false
  | T :: r => if isB t T = true then true else kitL t r
theorem kitAny_tab (K : PySem.W.Frag) {d : D} {t : String} (ht : tyN d = some t) : ∀ {Ts : List String}, (∀ T ∈ Ts, T ∈ kTys) → PySem.W.kitAny K (.type t) (Ts.map Value.type) = some (kitL t Ts)
  | [], _ => rfl
  | T :: r, h => by
    show (match PySem.W.kitOne K (.type t) (.type T) with | some true => some true | some false => PySem.W.kitAny K (.type t) (r.map Value.type) | none => none) = _
    rw [kit_tab K ht (h T (by simp))]
    unfold kitL
    cases q : isB t T with
    | true => rfl
    | false => exact kitAny_tab K ht fun T' hT => h T' (by simp [hT])
end
section
variable {X : Cx} {B : Hp} {e : Expr} {fa : Rho → M D} {pos p p2 : Pos}
def isi (T : String) (f : Rho → M D) : Rho → M D := fun ρ => bnd (f ρ) fun d => match tyN d with | some t => ok (.bl (isB t T)) | none => none
def isi2 (Ts : List String) (f : Rho → M D) : Rho → M D := fun ρ => bnd (f ρ) fun d => match tyN d with | some t => ok (.bl (kitL t Ts)) | none => none
theorem pd_isi {x : Str} {T : String} (hg : Gl X "isinstance") (hm : X.mg "isinstance" = none) (hg2 : Gl X x) (hm2 : X.mg x = none) (hv : bootBuiltins x = some (.type T)) (hT : T ∈ kTys) (ha : PD X B e fa) (hn : x ≠ "__name__" := by decide) (hd : (x == ("__debug__" : Str)) = false := by decide)
    (he : starEach [e, .Name x p2] X.env = [(false, eval e X.env), (false, eval (.Name x p2) X.env)] := by exact star2 rfl rfl) (he2 : starEach [.Name x p2] X.env = [(false, eval (.Name x p2) X.env)] := by exact star1 rfl) : PD X B (.Call (.Name "isinstance" p) [e, .Name x p2] [] pos) (isi T fa) := by
  have hc : CallR X (.builtin "isinstance") (fun xs H Q => ∃ d y t, xs = [y, .ty T] ∧ Is X.K H d y ∧ tyN d = some t ∧ Q (.bl (isB t T)) H) := by
    intro pins s σ H xs us Q I r h
    obtain ⟨d, y, t, rfl, i, ht, q⟩ := h
    obtain ⟨u, w', rfl, r1, r2⟩ := vals2 r
    cases r2
    obtain ⟨HH, k1, k2, k3⟩ := kit_of I i r1 ht
    exact PySem.W.kia_one k1 I.kIn k2 (kit_tab X.K ht hT) k3 fun tk => ⟨.bl _, H, I.tok _, rfl, q⟩
  refine PE.of (pe_callB hc hg hm boot_isinstance (pa_cons ha (pa_cons (pe_bltn hg2 hm2 hv (v := V.ty T) rfl hn hd) pa_nil he2) (by rw [he, he2])) (he := by rw [he, he2]) (hpl := by rw [he2]; rfl)) fun σ H Q h => ?_
  obtain ⟨ρ, r1, h⟩ := h
  refine ⟨ρ, r1, (Res.bind h).imp fun d h1 v H1 e1 i1 => ?_⟩
  cases q : tyN d with
  | none => rw [q] at h1; exact False.elim h1
  | some t => rw [q] at h1; exact ⟨d, v, t, rfl, i1, q, h1 _ H1 e1 (.bl _)⟩
theorem pd_isi2 {x y : Str} {T U : String} {k : Nat} {p3 p4 : Pos} (hg : Gl X "isinstance") (hm : X.mg "isinstance" = none) (hg2 : Gl X x) (hm2 : X.mg x = none) (hv : bootBuiltins x = some (.type T)) (hT : T ∈ kTys) (hg3 : Gl X y) (hm3 : X.mg y = none) (hv3 : bootBuiltins y = some (.type U)) (hU : U ∈ kTys) (ha : PD X B e fa)
    (hn : x ≠ "__name__" := by decide) (hd : (x == ("__debug__" : Str)) = false := by decide) (hn2 : y ≠ "__name__" := by decide) (hd2 : (y == ("__debug__" : Str)) = false := by decide)
    (he : starEach [e, .Tuple [.Name x p2, .Name y p3] k p4] X.env = [(false, eval e X.env), (false, eval (.Tuple [.Name x p2, .Name y p3] k p4) X.env)] := by exact star2 rfl rfl) (he2 : starEach [.Tuple [.Name x p2, .Name y p3] k p4] X.env = [(false, eval (.Tuple [.Name x p2, .Name y p3] k p4) X.env)] := by exact star1 rfl)
    (he3 : starEach [.Name x p2, .Name y p3] X.env = [(false, eval (.Name x p2) X.env), (false, eval (.Name y p3) X.env)] := by exact star2 rfl rfl) (he4 : starEach [.Name y p3] X.env = [(false, eval (.Name y p3) X.env)] := by exact star1 rfl) :
    PD X B (.Call (.Name "isinstance" p) [e, .Tuple [.Name x p2, .Name y p3] k p4] [] pos) (isi2 [T, U] fa) := by
  have hc : CallR X (.builtin "isinstance") (fun xs H Q => ∃ d y a t, xs = [y, .ref a] ∧ Is X.K H d y ∧ H a = some (.tup [.ty T, .ty U]) ∧ tyN d = some t ∧ Q (.bl (kitL t [T, U])) H) := by
    intro pins s σ H xs us Q I r h
    obtain ⟨d, y, a, t, rfl, i, hh, ht, q⟩ := h
    obtain ⟨u, w', rfl, r1, r2⟩ := vals2 r
    cases r2
    obtain ⟨HH, k1, k2, k3⟩ := kit_of I i r1 ht
    obtain ⟨z, its, rv, ob, o1, o2, ⟨n, o3⟩, o4⟩ := (show ObjOk X.prog X.w H s.heap a (.tup [.ty T, .ty U]) from I.hok a _ hh)
    obtain ⟨w1, w2, rfl, q1, q2⟩ := vals2 rv
    cases q1; cases q2
    obtain ⟨c0, d0, dt, sl⟩ := ob
    simp only at o2 o3
    subst o2; subst o3
    exact PySem.W.kia_tup (its := [Value.type T, Value.type U]) k1 I.kIn k2 o1 (kitAny_tab X.K ht (Ts := [T, U]) (by intro z hz; rcases List.mem_cons.mp hz with rfl | hz; exact hT; rcases List.mem_singleton.mp hz with rfl; exact hU)) k3 fun tk => ⟨.bl _, H, I.tok _, rfl, q⟩
  refine PE.of (pe_callB hc hg hm boot_isinstance (pa_cons ha (pa_cons (pe_tup (pa_cons (pe_bltn hg2 hm2 hv (v := V.ty T) rfl hn hd) (pa_cons (pe_bltn hg3 hm3 hv3 (v := V.ty U) rfl hn2 hd2) pa_nil he4) (by rw [he3, he4]))) pa_nil he2) (by rw [he, he2])) (he := by rw [he, he2]) (hpl := by rw [he2]; rfl)) fun σ H Q h => ?_
  obtain ⟨ρ, r1, h⟩ := h
  refine ⟨ρ, r1, (Res.bind h).imp fun d h1 v H1 e1 i1 => ?_⟩
  refine ⟨by show 2 ≤ sizeLine; decide, fun a ha' => ?_⟩
  cases q : tyN d with
  | none => rw [q] at h1; exact False.elim h1
  | some t => rw [q] at h1; exact ⟨d, v, a, t, rfl, i1.mono (same_new ha' _), upd_same, q, h1 _ _ (e1.trans (same_new ha' _)) (.bl _)⟩

/-! ### len; min of two -/
def lenD : D → M D
  | .tup ds => ok (.int ds.length)
  | .lst ds => ok (.int ds.length)
  | _ => none
def f1 (g : D → M D) (f : Rho → M D) : Rho → M D := fun ρ => bnd (f ρ) g
theorem pd_len (hg : Gl X "len") (hm : X.mg "len" = none) (ha : PD X B e fa) (he : starEach [e] X.env = [(false, eval e X.env)] := by exact star1 rfl) : PD X B (.Call (.Name "len" p) [e] [] pos) (f1 lenD fa) := by
  refine PE.of (pe_callB call_len_seq hg hm PySem.boot_len (pa_cons ha pa_nil he) (he := by rw [he]; rfl) (hpl := by rfl)) fun σ H Q h => ?_
  obtain ⟨ρ, r1, h⟩ := h
  refine ⟨ρ, r1, (Res.bind h).imp fun d h1 v H1 e1 i1 => ?_⟩
  cases i1 with
  | lst hh r => exact ⟨_, _, rfl, .inl hh, by rw [← r.length]; exact h1 _ H1 e1 (.int _)⟩
  | tup hh r => exact ⟨_, _, rfl, .inr hh, by rw [← r.length]; exact h1 _ H1 e1 (.int _)⟩
  | _ => exact False.elim h1
def gMin : D → D → M D
  | .int i, .int j => ok (.int (if j < i then j else i))
  | _, _ => none
theorem pd_min2 {a b : Expr} {fb : Rho → M D} (hcm : X.calm = true) (hg : Gl X "min") (hm : X.mg "min" = none) (ha : PD X B a fa) (hb : PD X B b fb) (he : starEach [a, b] X.env = [(false, eval a X.env), (false, eval b X.env)] := by exact star2 rfl rfl) (he2 : starEach [b] X.env = [(false, eval b X.env)] := by exact star1 rfl) :
    PD X B (.Call (.Name "min" p) [a, b] [] pos) (b2 gMin fa fb) := by
  refine PE.of (pe_callB (call_min2 hcm) hg hm boot_min (pa_cons ha (pa_cons hb pa_nil he2) (by rw [he, he2])) (he := by rw [he, he2]) (hpl := by rw [he2]; rfl)) fun σ H Q h => ?_
  obtain ⟨ρ, r1, h⟩ := h
  refine ⟨ρ, r1, (Res.bind h).imp fun d h1 v H1 e1 i1 => ⟨ρ, r1.mono e1, (Res.bind h1).mono e1 fun d2 h2 v2 H2 e2 i2 => ?_⟩⟩
  cases i1 <;> first | exact False.elim h2 | skip
  cases i2 <;> first | exact False.elim h2 | skip
  exact ⟨_, _, rfl, h2 _ H2 (e1.trans e2) (.int _)⟩
end

/-! ### statements -/
inductive Out where
  | nx (ρ : Rho) | rt (d : D) | bk (ρ : Rho) | ct (ρ : Rho) | ex (c : Addr) (ρ : Rho)
def ExcAt (c : Addr) (e : Value) (s : Shared) : Prop := ∃ a o, e = .ref a ∧ s.heap.get? a = some o ∧ o.cls = .ref c
def Good (X : Cx) (B : Hp) (E : Ends) : Out → Prop
  | .nx ρ => ∀ σ H, Rel X.K B ρ σ H → E.nx σ H
  | .rt d => ∀ v H, Same B H → Is X.K H d v → E.rt v H
  | .bk ρ => ∀ σ H, Rel X.K B ρ σ H → E.bk σ H
  | .ct ρ => ∀ σ H, Rel X.K B ρ σ H → E.ct σ H
  | .ex c ρ => ∀ (pins : List (Addr × Obj)) (s : Shared) (σ : St) (H : Hp) (e : Value), Rel X.K B ρ σ H → Exc X pins σ H c e s → X.xe e s
def GoodO (X : Cx) (B : Hp) (E : Ends) : Option Out → Prop
  | none => False
  | some o => Good X B E o
def tDS (X : Cx) (B : Hp) (F : Rho → Option Out) : TS := fun E σ H => ∃ ρ, Rel X.K B ρ σ H ∧ GoodO X B E (F ρ)
abbrev PDS (X : Cx) (B : Hp) (st : Stmt) (F : Rho → Option Out) : Prop := PS X st (tDS X B F)
abbrev PDB (X : Cx) (B : Hp) (st : List Stmt) (F : Rho → Option Out) : Prop := PSs X st (tDS X B F)
/-- an expression's outcome within a statement -/
def lft {α : Type} (m : M α) (ρ : Rho) (k : α → Option Out) : Option Out := match m with
  | none => none
  | some (.error c) => some (.ex c ρ)
  | some (.ok a) => k a
@[simp] theorem lft_ok {α : Type} (a : α) (ρ : Rho) (k : α → Option Out) : lft (ok a) ρ k = k a := rfl
@[simp] theorem lft_err {α : Type} (c : Addr) (ρ : Rho) (k : α → Option Out) : lft (err c : M α) ρ k = some (.ex c ρ) := rfl
theorem lft_red {α : Type} {X : Cx} {B : Hp} {E : Ends} {σ : St} {H : Hp} {ρ : Rho} {m : M α} {k : α → Option Out} (r : Rel X.K B ρ σ H) (h : GoodO X B E (lft m ρ k)) : Res X σ H (fun a => GoodO X B E (k a)) m := by
  unfold lft at h
  split at h
  · exact h
  · exact fun pins s H' e q x => h pins s σ H' e (r.mono q) x
  · exact h
section
variable {X : Cx} {B : Hp} {e c : Expr} {fa : Rho → M D} {tc : Rho → M Bool} {pos pos' : Pos} {st : Stmt} {sts rest : List Stmt} {F G : Rho → Option Out}
theorem PS.of {t t' : TS} (h : PS X st t) (i : ∀ E σ H, t' E σ H → t E σ H) : PS X st t' := fun pins s σ H E I q => h pins s σ H E I (i E σ H q)
theorem PSs.of {t t' : TS} (h : PSs X sts t) (i : ∀ E σ H, t' E σ H → t E σ H) : PSs X sts t' := fun pins s σ H E I q => h pins s σ H E I (i E σ H q)
def sNil : Rho → Option Out := fun ρ => some (.nx ρ)
def sSeq (F G : Rho → Option Out) : Rho → Option Out := fun ρ => match F ρ with
  | some (.nx ρ') => G ρ'
  | o => o
theorem pdb_nil : PDB X B [] sNil := PSs.of pss_nil fun E σ H ⟨ρ, r, h⟩ => h σ H r
theorem pdb_cons (h1 : PDS X B st F) (h2 : PDB X B rest G) : PDB X B (st :: rest) (sSeq F G) := by
  refine PSs.of (pss_cons h1 h2) fun E σ H h => ?_
  obtain ⟨ρ, r, h⟩ := h
  refine ⟨ρ, r, ?_⟩
  unfold sSeq at h
  cases q : F ρ with
  | none => rw [q] at h; exact h
  | some o =>
    rw [q] at h
    cases o with
    | nx ρ' => exact fun σ' H' r' => ⟨ρ', r', h⟩
    | rt d => exact h
    | bk ρ' => exact h
    | ct ρ' => exact h
    | ex c ρ' => exact h
def sRet (f : Rho → M D) : Rho → Option Out := fun ρ => lft (f ρ) ρ fun d => some (.rt d)
theorem pds_ret (he : PD X B e fa) : PDS X B (.Return (some e) pos) (sRet fa) := by
  refine PS.of (ps_ret he) fun E σ H h => ?_
  obtain ⟨ρ, r, h⟩ := h
  exact ⟨ρ, r, (lft_red r h).imp fun d h1 v H1 e1 i1 => h1 v H1 (r.kept.trans e1) i1⟩
def sDrop (f : Rho → M D) : Rho → Option Out := fun ρ => lft (f ρ) ρ fun _ => some (.nx ρ)
theorem pds_expr (he : PD X B e fa) (hs : swapsWith e none pos.line X.env = pure false := by rfl) : PDS X B (.Expr e pos) (sDrop fa) := by
  refine PS.of (ps_expr he hs) fun E σ H h => ?_
  obtain ⟨ρ, r, h⟩ := h
  exact ⟨ρ, r, (lft_red r h).imp fun d h1 v H1 e1 i1 => h1 σ H1 (r.mono e1)⟩
theorem pds_pass : PDS X B (.Pass pos) sNil := PS.of ps_pass fun E σ H ⟨ρ, r, h⟩ => h σ H r
theorem pds_doc {x j pos pos'} : PDS X B (.Expr (.Constant (.str x) j pos) pos') sNil := PS.of ps_doc fun E σ H ⟨ρ, r, h⟩ => h σ H r
theorem pds_break : PDS X B (.Break pos) (fun ρ => some (.bk ρ)) := PS.of ps_break fun E σ H ⟨ρ, r, h⟩ => h σ H r
theorem pds_continue : PDS X B (.Continue pos) (fun ρ => some (.ct ρ)) := PS.of ps_continue fun E σ H ⟨ρ, r, h⟩ => h σ H r
/-- what is never reached -/
theorem pds_never : PDS X B st (fun _ => none) := PS.of ps_never fun E σ H ⟨ρ, r, h⟩ => h
theorem pdb_never : PDB X B sts (fun _ => none) := PSs.of pss_never fun E σ H ⟨ρ, r, h⟩ => h
def sIf (t : Rho → M Bool) (F G : Rho → Option Out) : Rho → Option Out := fun ρ => lft (t ρ) ρ fun k => if k = true then F ρ else G ρ
theorem pds_if {a b : List Stmt} (hc : PDT X B c tc) (ha : PDB X B a F) (hb : PDB X B b G) : PDS X B (.If c a b pos) (sIf tc F G) := by
  refine PS.of (ps_if hc ha hb) fun E σ H h => ?_
  obtain ⟨ρ, r, h⟩ := h
  refine ⟨ρ, r, (lft_red r h).imp fun k h1 H1 e1 => ?_⟩
  cases k with
  | true => exact ⟨ρ, r.mono e1, h1⟩
  | false => exact ⟨ρ, r.mono e1, h1⟩

/-! ### name = value -/
/-- a shared datum at slot i -/
def SV.rel : SV → SV
  | .sh d => .sh d
  | .own ds => .sh (.lst ds)
  | .oin a C dx fs => .sh (.obj C fs)
def free (ρ : Rho) : Rho := ρ.map fun o => o.map SV.rel
def setV (i : Nat) (d : D) (ρ : Rho) : Rho := if d.imm = true then ρ.set i (some (.sh d)) else (free ρ).set i (some (.sh d))
theorem Rel.set_sh {K : PySem.W.Frag} {H₀ H : Hp} {ρ : Rho} {σ : St} {i : Nat} {d : D} {v : V} (O : Nat → Option Addr) (h1 : ∀ i j a, O i = some a → O j = some a → i = j) (ho : OwnK H O) (h2 : Same H₀ (Off H O)) (hl : ρ.length = σ.length) (h3 : ∀ j sv, ρ[j]? = some (some sv) → j ≠ i → Slot K H O σ j sv)
    (iv : Is K (Off H O) d v) : Rel K H₀ (ρ.set i (some (.sh d))) (σ.set i (some v)) H := by
  have hO : ∀ (j : Nat) (a : Addr), (if j = i then none else O j) = some a → O j = some a := fun j a q => by
    split at q
    · cases q
    · exact q
  have less : Same (Off H O) (Off H fun j => if j = i then none else O j) := Off.less fun j a q => ⟨j, hO j a q⟩
  refine ⟨fun j => if j = i then none else O j, fun j k a q1 q2 => h1 j k a (hO j a q1) (hO k a q2), fun j a q => ho j a (hO j a q), h2.trans less, by rw [List.length_set, List.length_set, hl], fun j sv q => ?_⟩
  by_cases e : j = i
  · subst e
    have hj : j < ρ.length := by
      have := (List.getElem?_eq_some_iff.mp q).1
      rwa [List.length_set] at this
    rw [List.getElem?_set_self hj] at q
    have q' := Option.some.inj (Option.some.inj q)
    subst q'
    exact ⟨v, List.getElem?_set_self (by rw [← hl]; exact hj), iv.mono less⟩
  · rw [List.getElem?_set_ne (Ne.symm e)] at q
    have z := h3 j sv q e
    cases sv with
    | sh d' => obtain ⟨v', e1, e2⟩ := z; exact ⟨v', by rw [List.getElem?_set_ne (Ne.symm e)]; exact e1, e2.mono less⟩
    | own ds => obtain ⟨a, vs, e1, e2, e3, e4⟩ := z; exact ⟨a, vs, by show (if j = i then none else O j) = some a; rw [if_neg e]; exact e1, by rw [List.getElem?_set_ne (Ne.symm e)]; exact e2, e3, e4.mono less⟩
    | oin a C dx fs => obtain ⟨e1, e2, e3, vs, e4, e5⟩ := z; exact ⟨by show (if j = i then none else O j) = some a; rw [if_neg e]; exact e1, by rw [List.getElem?_set_ne (Ne.symm e)]; exact e2, e3, vs, e4, e5.mono less⟩
theorem Rel.freed {K : PySem.W.Frag} {H₀ H : Hp} {ρ : Rho} {σ : St} (r : Rel K H₀ ρ σ H) : Rel K H₀ (free ρ) σ H := by
  obtain ⟨O, h1, ho, h2, hl, h3⟩ := id r
  have e0 : Off H (fun _ => none) = H := by funext b; unfold Off; rw [if_neg (fun ⟨i, e⟩ => nomatch e)]
  refine ⟨fun _ => none, (by intro _ _ _ q; cases q), (by intro _ _ q; cases q), by rw [e0]; exact r.kept, by unfold free; rw [List.length_map, hl], fun i sv q => ?_⟩
  unfold free at q
  rw [List.getElem?_map] at q
  obtain ⟨o, e1, e2⟩ := Option.map_eq_some_iff.mp q
  cases o with
  | none => cases e2
  | some sv0 =>
    have e2' : sv0.rel = sv := Option.some.inj e2
    subst e2'
    obtain ⟨v, e3, e4⟩ := r.get e1
    have : sv0.rel = .sh sv0.cur := by cases sv0 <;> rfl
    rw [this]
    exact ⟨v, e3, by rw [e0]; exact e4⟩
theorem Rel.setV {K : PySem.W.Frag} {H₀ H : Hp} {ρ : Rho} {σ : St} {i : Nat} {d : D} {v : V} (r : Rel K H₀ ρ σ H) (iv : Is K H d v) : Rel K H₀ (setV i d ρ) (σ.set i (some v)) H := by
  unfold PU.setV
  by_cases q : d.imm = true
  · rw [if_pos q]
    obtain ⟨O, h1, ho, h2, hl, h3⟩ := r
    exact Rel.set_sh O h1 ho h2 hl (fun j sv e _ => h3 j sv e) (off_imm ho q iv)
  · rw [if_neg q]
    obtain ⟨O, h1, ho, h2, hl, h3⟩ := r.freed
    -- nothing is owned
    have e0 : Off H (fun _ => none) = H := by funext b; unfold Off; rw [if_neg (fun ⟨i, e⟩ => nomatch e)]
    have s0 : Same (Off H O) (Off H fun _ => none) := Off.less (by intro j a q; cases q)
    refine Rel.set_sh (fun _ => none) (by intro _ _ _ q; cases q) (by intro _ _ q; cases q) (h2.trans s0) hl (fun j sv e _ => ?_) (by rw [e0]; exact iv)
    unfold free at e
    rw [List.getElem?_map] at e
    obtain ⟨o, e1, e2⟩ := Option.map_eq_some_iff.mp e
    cases o with
    | none => cases e2
    | some sv0 =>
      have e2' : sv0.rel = sv := Option.some.inj e2
      subst e2'
      have z := h3 j sv0.rel (by unfold free; rw [List.getElem?_map, e1]; rfl)
      have : sv0.rel = .sh sv0.cur := by cases sv0 <;> rfl
      rw [this] at z ⊢
      obtain ⟨v', f1, f2⟩ := z
      exact ⟨v', f1, f2.mono s0⟩
def sSet (i : Nat) (f : Rho → M D) : Rho → Option Out := fun ρ => lft (f ρ) ρ fun d => some (.nx (setV i d ρ))
theorem pds_set {i : Nat} {x : Str} (hN : X.N.Nodup) (hi : X.N[i]? = some x) (hx : Loc X.env.scope x) (he : PD X B e fa) (hs : swapsWith e (some (.Name x pos')) pos.line X.env = pure false := by rfl) (hf : X.fn x = true ∨ X.env.scope.names.lookup x = some .local := by first | exact .inl rfl | exact .inr rfl | assumption) :
    PDS X B (.Assign [.Name x pos'] e pos) (sSet i fa) := by
  refine PS.of (ps_set hN hi hx he hs hf) fun E σ H h => ?_
  obtain ⟨ρ, r, h⟩ := h
  exact ⟨ρ, r, (lft_red r h).imp fun d h1 v H1 e1 i1 => h1 _ H1 ((r.mono e1).setV i1)⟩
end
end L2.PU

set_option Elab.async false
set_option linter.all false
set_option maxRecDepth 100000
set_option maxHeartbeats 4000000
namespace L2.PU
open PySem PySem.Spec PyProof.Rows

/-! ### what a def promises, by data -/
def spR (K : PySem.W.Frag) (H : Hp) (Q : VK) (E : XK) : M D → Prop
  | none => False
  | some (.error c) => ∀ H', Same H H' → E (.ref c) none H'
  | some (.ok d) => ∀ v H', Same H H' → Is K H' d v → Q v H'
def spD (K : PySem.W.Frag) (n : Nat) (F : List D → M D) : Sp := fun vs H Q E => ∃ ds, IsL K H ds vs ∧ vs.length = n ∧ spR K H Q E (F ds)
/-- how an exception lies behind a call -/
def CXD (P : Program) (w : World) : CXT := fun outer H s E e s' => ∃ (c ea : Addr) (H' : Hp), e = .ref ea ∧ s'.os = s.os ∧ AllBare s'.gens ∧ Un (frs outer) [] H H' s.heap s'.heap ∧ Fly P w outer s ea c H' s' ∧ E (.ref c) none H'
abbrev FnD (P : Program) (w : World) (K : PySem.W.Frag) (mg : Str → Option Value) (base : Heap) (k : Nat) (f : Addr) (fd : FuncData) (ps : List Str) (F : List D → M D) : Prop := FnOk P w K mg base (CXD P w) k f fd ps (spD K ps.length F)
/-- a def of the text by its name -/
def Def (P : Program) (w : World) (K : PySem.W.Frag) (mg : Str → Option Value) (base : Heap) (k : Nat) (x : Str) (F : List D → M D) : Prop :=
  ∃ f fd ps, mg x = some (.ref f) ∧ PySem.W.keepIn K (.ref f) = true ∧ Binds K fd ps [] ∧ (∀ ds r, F ds = some r → ds.length = ps.length) ∧ FnD P w K mg base k f fd ps F
/-- a method by its class and name -/
def Mth (P : Program) (w : World) (K : PySem.W.Frag) (mg : Str → Option Value) (base : Heap) (k : Nat) (C : Addr) (m : Str) (F : List D → M D) : Prop :=
  ∃ f fd ps, Cls K C ∧ Meth K C m f ∧ Binds K fd ps [] ∧ (∀ ds r, F ds = some r → ds.length = ps.length) ∧ FnD P w K mg base k f fd ps F
theorem Def.mono {P : Program} {w : World} {K : PySem.W.Frag} {mg : Str → Option Value} {base : Heap} {j k : Nat} {x : Str} {F : List D → M D} (h : Def P w K mg base j x F) (q : j ≤ k) : Def P w K mg base k x F := by
  obtain ⟨f, fd, ps, h1, h2, h3, hl, h4⟩ := h
  exact ⟨f, fd, ps, h1, h2, h3, hl, h4.mono q⟩
theorem Mth.mono {P : Program} {w : World} {K : PySem.W.Frag} {mg : Str → Option Value} {base : Heap} {j k : Nat} {C : Addr} {x : Str} {F : List D → M D} (h : Mth P w K mg base j C x F) (q : j ≤ k) : Mth P w K mg base k C x F := by
  obtain ⟨f, fd, ps, h1, h2, h3, hl, h4⟩ := h
  exact ⟨f, fd, ps, h1, h2, h3, hl, h4.mono q⟩

section
variable {X : Cx} {B : Hp} {k : Nat} {f : Addr} {fd : FuncData} {ps : List Str} {F : List D → M D} {pins : List (Addr × Obj)} {σ : St} {H : Hp} {s : Shared} {Q : VK} {us : List Value} {vs : List V} {ds : List D}
/-- the callee runs -/
theorem run_D (G : FnD X.prog X.w X.K X.mg X.base k f fd ps F) (hr : Room k X.A) (hb : Binds X.K fd ps []) (I : Inv X pins σ H s) (r : Vals vs us) (i : IsL X.K H ds vs)
    (h : Res X σ H (fun d => ∀ v H', Same H H' → Is X.K H' d v → Q v H') (F ds)) (hL : ∀ ds r, F ds = some r → ds.length = ps.length) : wpAny (model X.prog X.w) X.A (call (.ref f) us) (EP X pins σ Q) X.xe s := by
  have hn : ds.length = ps.length := by
    cases q : F ds with
    | none => rw [q] at h; exact False.elim h
    | some z => exact hL ds z q
  have hl : (us ++ []).length = ps.length := by rw [List.append_nil, ← r.length, ← i.length]; exact hn
  have hbb := hb s us I.kIn hl
  rw [List.append_nil] at hbb
  have hsp : spD X.K ps.length F vs H Q (fun cv _ H' => ∃ c, cv = .ref c ∧ Same H H' ∧ Thr X σ H c) := by
    refine ⟨ds, i, by rw [← i.length]; exact hn, ?_⟩
    cases q : F ds with
    | none => rw [q] at h; exact False.elim h
    | some z =>
      rw [q] at h
      cases z with
      | error c => exact fun H' e => ⟨c, rfl, e, h⟩
      | ok d => exact h
  refine wpAny_call (codeAny_mono (G.run X.A X.stack s H ⟨us, []⟩ us vs Q _ hr I.env0 hbb r hsp) fun r s' hq => ?_)
  cases r with
  | error e =>
    obtain ⟨c, ea, H', ee, os, bare, un, fl, c', ec, sm', th⟩ := hq
    cases ec
    exact th pins s' H' e sm' ⟨ea, ee, .inr ⟨s, H, I, os, bare, un, fl⟩⟩
  | ok fl =>
    cases fl with
    | ret u => exact I.after hq
    | next => exact False.elim hq
    | brk => exact False.elim hq
    | cont => exact False.elim hq

variable {x m : Str} {p pos apos : Pos} {e o : Expr} {es : List Expr} {ga : Rho → M (List D)} {fo : Rho → M D} {C : Addr}
def app (F : List D → M D) (g : Rho → M (List D)) : Rho → M D := fun ρ => bnd (g ρ) F
theorem app_red {R : List V → Hp → Prop} (hR : ∀ ds vs H1, Same H H1 → IsL X.K H1 ds vs → Res X σ H1 (fun d => ∀ v H', Same H1 H' → Is X.K H' d v → Q v H') (F ds) → R vs H1) (h : tD X B (app F ga) σ H Q) : tDA X B ga σ H R := by
  obtain ⟨ρ, r, h⟩ := h
  exact ⟨ρ, r, (Res.bind h).imp fun ds h1 vs H1 e1 i1 => hR ds vs H1 e1 i1 (h1.mono e1 fun d q v H2 e2 i2 => q v H2 (e1.trans e2) i2)⟩
theorem pd_call (G : Def X.prog X.w X.K X.mg X.base k x F) (hr : Room k X.A) (hg : Gl X x) (ha : PDA X B (e :: es) ga) (hdb : (x == ("__debug__" : Str)) = false := by decide) (he : starEach (e :: es) X.env = (false, eval e X.env) :: starEach es X.env := by exact star_ok rfl)
    (hpl : (backTo pos (starEach es X.env)).any (·.1) = false := by rfl) : PD X B (.Call (.Name x p) (e :: es) [] pos) (app F ga) := by
  intro pins s σ H Q I h
  obtain ⟨f, fd, ps, h1, h2, h3, hl, h4⟩ := G
  refine wpAny_Call_Name_kw (ld_glob I hg h1 ?_ hdb)
  refine PySem.W.callWith_K (h₀ := X.base) I.ok.mod.kin h2 (thn (ha pos pins s σ H _ I (app_red (R := fun vs H1 => ∃ ds, IsL X.K H1 ds vs ∧ Res X σ H1 (fun d => ∀ v H', Same H1 H' → Is X.K H' d v → Q v H') (F ds)) (fun ds vs H1 e1 i1 h1 => ⟨ds, i1, h1⟩) h)) fun us s1 ⟨vs, H1, I1, r, ds, i1, q⟩ => ⟨I1.kIn, ?_⟩) he hpl
  exact run_D h4 hr h3 I1 r i1 q hl
theorem pd_call0 (G : Def X.prog X.w X.K X.mg X.base k x F) (hr : Room k X.A) (hg : Gl X x) (hdb : (x == ("__debug__" : Str)) = false := by decide) : PD X B (.Call (.Name x p) [] [] pos) (fun _ => F []) := by
  intro pins s σ H Q I h
  obtain ⟨f, fd, ps, h1, h2, h3, hl, h4⟩ := G
  obtain ⟨ρ, r, h⟩ := h
  refine wpAny_Call_Name_kw (ld_glob I hg h1 ?_ hdb)
  exact PySem.W.callWith_K0 I.kIn h2 (run_D (us := []) (vs := []) (ds := []) h4 hr h3 I .nil .nil h hl)
/-- o.m(..): by the class of the object -/
def appM (m : Str) (FM : Addr → Option (List D → M D)) (fo : Rho → M D) (g : Rho → M (List D)) : Rho → M D := fun ρ => bnd (fo ρ) fun x => match x with
  | .obj C fs => match FM C, fs.lookup m with
    | some F, none => bnd (g ρ) fun ds => F (x :: ds)
    | _, _ => none
  | _ => none
theorem pd_meth {pl : Sem Bool} {FM : Addr → Option (List D → M D)} (G : ∀ C F, FM C = some F → Mth X.prog X.w X.K X.mg X.base k C m F) (hr : Room k X.A) (he : PD X B o fo) (ha : PDA X B (e :: es) ga)
    (hst : starEach (e :: es) X.env = (false, eval e X.env) :: starEach es X.env := by exact star_ok rfl) (hpl : (backTo pos (starEach es X.env)).any (·.1) = false := by rfl)
    (ht : eval (.Call (.Attribute o m apos) (e :: es) [] pos) X.env = (do
      let ov ← eval o X.env
      standAt apos.atName
      let (f, first) ← holding [ov] (getMethod ov m pl)
      callWith pos f first (backTo pos (starEach (e :: es) X.env)) (backToKw pos (keywordEach [] X.env))) := by rfl) :
    PD X B (.Call (.Attribute o m apos) (e :: es) [] pos) (appM m FM fo ga) := by
  intro pins s σ H Q I h
  obtain ⟨ρ, r, h⟩ := h
  refine PySem.W.methodCall_KW (pl := pl) (thn (he pins s σ H (fun v H1 => ∃ a C dx fs vs F, v = .ref a ∧ H1 a = some (.ins C dx vs) ∧ IsF X.K H1 fs vs ∧ fs.lookup m = none ∧ FM C = some F ∧ Same H H1 ∧ Res X σ H (fun ds => Res X σ H (fun d => ∀ v H', Same H H' → Is X.K H' d v → Q v H') (F (.obj C fs :: ds))) (ga ρ)) I ⟨ρ, r, (Res.bind h).imp fun d h1 v H1 e1 i1 => ?_⟩) fun u s1 ⟨x, H1, I1, rx, a, C, dx, fs, vs, F, ex, ea, ifs, l, hF, e1, q⟩ => ?_) ht
  · cases i1 with
    | obj hh rr =>
      dsimp only at h1
      split at h1
      · rename_i F hF hl; exact ⟨_, _, _, _, _, F, rfl, hh, rr, hl, hF, e1, Res.bind h1⟩
      · exact False.elim h1
    | _ => exact False.elim h1
  subst ex
  obtain rfl : u = Value.ref a := rx
  obtain ⟨f, fd, ps, h1, h2, h3, hl, h4⟩ := G C F hF
  refine getmeth_ok I1 ea h1 h2 (ifs.lookupNone l) ?_
  have q' : tDA X B ga σ H1 (fun vs' H2 => ∃ ds, Same H1 H2 ∧ IsL X.K H2 ds vs' ∧ Res X σ H (fun d => ∀ v H', Same H H' → Is X.K H' d v → Q v H') (F (.obj C fs :: ds))) :=
    ⟨ρ, r.mono e1, Res.mono e1 q fun ds q1 vs' H2 e2 i2 => ⟨ds, e2, i2, q1⟩⟩
  refine PySem.W.callWith_K (first := [.ref a]) (h₀ := X.base) I.ok.mod.kin h2.kp (thn (ha pos pins s1 σ H1 _ I1 q') fun us s2 ⟨vs', H2, I2, r2, ds, e2, i2, q2⟩ => ⟨I2.kIn, ?_⟩) hst hpl
  exact run_D (us := .ref a :: us) (vs := .ref a :: vs') (ds := .obj C fs :: ds) h4 hr h3 I2 (.cons rfl r2) (.cons (.obj (e2 _ _ ea) (ifs.mono e2)) i2) (q2.mono (e1.trans e2) fun d z v H' e' i' => z v H' ((e1.trans e2).trans e') i') hl

/-! ### attributes; cs: the classes that are known -/
def fld (cs : Addr → Bool) (f : Str) (fo : Rho → M D) : Rho → M D := fun ρ => bnd (fo ρ) fun x => match x with
  | .obj C fs => if cs C = true then (match fs.lookup f with | some d => ok d | none => none) else none
  | _ => none
theorem pd_fld {cs : Addr → Bool} {f : Str} (hC : ∀ C, cs C = true → Cls X.K C ∧ NoAttr X.K C f) (he : PD X B o fo) (hb : attributeBase o f X.env (eval o X.env) = eval o X.env := by rfl) : PD X B (.Attribute o f pos) (fld cs f fo) := by
  refine PE.of (pe_fld he hb) fun σ H Q h => ?_
  obtain ⟨ρ, r, h⟩ := h
  refine ⟨ρ, r, (Res.bind h).imp fun d h1 v H1 e1 i1 => ?_⟩
  cases i1 with
  | obj hh rr =>
    rename_i a C dx fs vs
    dsimp only at h1
    split at h1
    · rename_i hc
      split at h1
      · rename_i d hl
        obtain ⟨v, q1, q2⟩ := rr.lookup hl
        exact ⟨a, C, dx, vs, v, rfl, hh, (hC C hc).1, (hC C hc).2, q1, h1 v H1 e1 q2⟩
      · exact False.elim h1
    · exact False.elim h1
  | _ => exact False.elim h1

/-! ### C(..) -/
def hid (H : Hp) (a : Addr) : Hp := fun b => if b = a then none else H b
theorem hid_same (H : Hp) (a : Addr) : Same (hid H a) H := fun b o h => by
  unfold hid at h
  split at h
  · cases h
  · exact h
def spI (K : PySem.W.Frag) (C : Addr) (n : Nat) (F : List D → M (List (Str × D))) : Sp := fun vs H Q E => ∃ a dx ws ds, vs = .ref a :: ws ∧ H a = some (.ins C dx []) ∧ dx ≠ a ∧ IsL K (hid H a) ds ws ∧ vs.length = n ∧ (match F ds with
  | none => False
  | some (.error c) => ∀ H', Same (hid H a) H' → E (.ref c) none H'
  | some (.ok fs) => ∀ H' fvs, H' a = some (.ins C dx fvs) → IsF K H' fs fvs → Same (hid H a) H' → Q .non H')
/-- a class of the text by its name: what its __init__ makes of the arguments -/
def Ctor (P : Program) (w : World) (K : PySem.W.Frag) (mg : Str → Option Value) (base : Heap) (k : Nat) (x : Str) (C : Addr) (F : List D → M (List (Str × D))) : Prop :=
  ∃ f fd ps, mg x = some (.ref C) ∧ Mk K C f ∧ Binds K fd ps [] ∧ (∀ ds r, F ds = some r → ds.length + 1 = ps.length) ∧ FnOk P w K mg base (CXD P w) k f fd ps (spI K C ps.length F)
theorem Ctor.mono {P : Program} {w : World} {K : PySem.W.Frag} {mg : Str → Option Value} {base : Heap} {j k : Nat} {x : Str} {C : Addr} {F : List D → M (List (Str × D))} (h : Ctor P w K mg base j x C F) (q : j ≤ k) : Ctor P w K mg base k x C F := by
  obtain ⟨f, fd, ps, h1, h2, h3, hl, h4⟩ := h
  exact ⟨f, fd, ps, h1, h2, h3, hl, h4.mono q⟩
def mkO (C : Addr) (F : List D → M (List (Str × D))) (ds : List D) : M D := bnd (F ds) fun fs => ok (.obj C fs)
theorem run_mk {ps : List Str} {F : List D → M (List (Str × D))} (Mm : Mk X.K C f) (G : FnOk X.prog X.w X.K X.mg X.base (CXD X.prog X.w) k f fd ps (spI X.K C ps.length F)) (hr : Room (k + 1) X.A) (hb : Binds X.K fd ps []) (I : Inv X pins σ H s) (r : Vals vs us) (i : IsL X.K H ds vs)
    (h : Res X σ H (fun d => ∀ v H', Same H H' → Is X.K H' d v → Q v H') (mkO C F ds)) (hL : ∀ ds r, F ds = some r → ds.length + 1 = ps.length) : wpAny (model X.prog X.w) X.A (call (.ref C) us) (EP X pins σ Q) X.xe s := by
  have hF : ∃ z, F ds = some z := by
    cases q : F ds with
    | none => unfold mkO at h; rw [q] at h; exact False.elim h
    | some z => exact ⟨z, rfl⟩
  obtain ⟨z, hz⟩ := hF
  have hn := hL ds z hz
  have hsp : ∀ x dx, H x = none → H dx = none → dx ≠ x → spI X.K C ps.length F (.ref x :: vs) (upd (upd H dx (.own x)) x (.ins C dx [])) (fun v H2 => v = .non ∧ Q (.ref x) H2) (fun cv _ H' => ∃ c, cv = .ref c ∧ Same H H' ∧ Thr X σ H c) := by
    intro x dx hx hdx ne
    have sm : Same H (hid (upd (upd H dx (.own x)) x (.ins C dx [])) x) := fun b o q => by
      have hb : b ≠ x := ne_of_none q hx
      unfold hid
      rw [if_neg hb, upd_ne hb, upd_ne (ne_of_none q hdx)]
      exact q
    refine ⟨x, dx, vs, ds, rfl, upd_same, ne, i.mono sm, by rw [List.length_cons, ← i.length]; exact hn, ?_⟩
    unfold mkO at h
    rw [hz] at h ⊢
    cases z with
    | error c => exact fun H' e => ⟨c, rfl, sm.trans e, h⟩
    | ok fs => exact fun H' fvs e1 e2 e3 => ⟨rfl, h _ H' (sm.trans e3) (.obj e1 e2)⟩
  have hq := hsp (s.heap.objs.size + 1) s.heap.objs.size (I.hok.fresh (Nat.le_succ _)) (I.hok.fresh (Nat.le_refl _)) (Nat.ne_of_lt (Nat.lt_succ_self _))
  have I2 := Inv.made (C := C) I
  have r2 : Vals (V.ref (s.heap.objs.size + 1) :: vs) (Value.ref (s.heap.objs.size + 1) :: us) := .cons rfl r
  have hl : ((Value.ref (s.heap.objs.size + 1) :: us) ++ []).length = ps.length := by
    rw [List.append_nil, List.length_cons, ← r.length, ← i.length]; exact hn
  have hbb := hb { s with heap := (s.heap.push PySem.W.emptyDict).push (PySem.W.instObj C s.heap.objs.size) } (Value.ref (s.heap.objs.size + 1) :: us) I2.kIn hl
  rw [List.append_nil] at hbb
  refine wpAny_call (make_map (f := f) I.kIn Mm.makes Mm.init (beq_iff_eq.mp Mm.fn) (codeAny_mono (G.run _ X.stack _ _ ⟨Value.ref (s.heap.objs.size + 1) :: us, []⟩ (Value.ref (s.heap.objs.size + 1) :: us) _ _ _ (hr.make C us [])
    (I2.env0.make C us []) hbb r2 hq) fun r s' hq' => ?_))
  cases r with
  | error e =>
    obtain ⟨c, ea, H', ee, os, bare, un, fl, c', ec, sm', th⟩ := hq'
    cases ec
    exact th pins s' H' e sm' ⟨ea, ee, .inr ⟨_, _, I2, os, bare, un, fl⟩⟩
  | ok fl =>
    cases fl with
    | ret u =>
      obtain ⟨v, H', I3, rv, ev, q3⟩ := I2.after hq'
      subst ev
      exact ⟨rv, ⟨V.ref (s.heap.objs.size + 1), H', I3, rfl, q3⟩⟩
    | next => exact False.elim hq'
    | brk => exact False.elim hq'
    | cont => exact False.elim hq'
theorem pd_make {F : List D → M (List (Str × D))} (G : Ctor X.prog X.w X.K X.mg X.base k x C F) (hr : Room (k + 1) X.A) (hg : Gl X x) (ha : PDA X B (e :: es) ga) (hdb : (x == ("__debug__" : Str)) = false := by decide) (he : starEach (e :: es) X.env = (false, eval e X.env) :: starEach es X.env := by exact star_ok rfl)
    (hpl : (backTo pos (starEach es X.env)).any (·.1) = false := by rfl) : PD X B (.Call (.Name x p) (e :: es) [] pos) (app (mkO C F) ga) := by
  intro pins s σ H Q I h
  obtain ⟨f, fd, ps, h1, h2, h3, hl, h4⟩ := G
  refine wpAny_Call_Name_kw (ld_glob I hg h1 ?_ hdb)
  refine PySem.W.callWith_K (h₀ := X.base) I.ok.mod.kin h2.kp (thn (ha pos pins s σ H _ I (app_red (R := fun vs H1 => ∃ ds, IsL X.K H1 ds vs ∧ Res X σ H1 (fun d => ∀ v H', Same H1 H' → Is X.K H' d v → Q v H') (mkO C F ds)) (fun ds vs H1 e1 i1 h1 => ⟨ds, i1, h1⟩) h)) fun us s1 ⟨vs, H1, I1, r, ds, i1, q⟩ => ⟨I1.kIn, ?_⟩) he hpl
  exact run_mk h2 h4 hr h3 I1 r i1 q hl
theorem pd_make0 {F : List D → M (List (Str × D))} (G : Ctor X.prog X.w X.K X.mg X.base k x C F) (hr : Room (k + 1) X.A) (hg : Gl X x) (hdb : (x == ("__debug__" : Str)) = false := by decide) : PD X B (.Call (.Name x p) [] [] pos) (fun _ => mkO C F []) := by
  intro pins s σ H Q I h
  obtain ⟨f, fd, ps, h1, h2, h3, hl, h4⟩ := G
  obtain ⟨ρ, r, h⟩ := h
  refine wpAny_Call_Name_kw (ld_glob I hg h1 ?_ hdb)
  exact PySem.W.callWith_K0 I.kIn h2.kp (run_mk (us := []) (vs := []) (ds := []) h2 h4 hr h3 I .nil .nil h hl)
end
end L2.PU

set_option Elab.async false
set_option linter.all false
set_option maxRecDepth 100000
set_option maxHeartbeats 4000000
namespace L2.PU
open PySem PySem.Spec PyProof.Rows

/-! ### targets -/
def tDG (X : Cx) (B : Hp) (G : D → Rho → Option Rho) : TG := fun v σ H Q => ∃ ρ d ρ', Rel X.K B ρ σ H ∧ Is X.K H d v ∧ G d ρ = some ρ' ∧ ∀ σ' H', Rel X.K B ρ' σ' H' → Q σ' H'
abbrev PDG (X : Cx) (B : Hp) (tg : Expr) (G : D → Rho → Option Rho) : Prop := PG X tg (tDG X B G)
def tDGs (X : Cx) (B : Hp) (G : List D → Rho → Option Rho) : TGs := fun vs σ H Q => ∃ ρ ds ρ', Rel X.K B ρ σ H ∧ IsL X.K H ds vs ∧ G ds ρ = some ρ' ∧ ∀ σ' H', Rel X.K B ρ' σ' H' → Same H H' → Q σ' H'
section
variable {X : Cx} {B : Hp} {tg : Expr} {pos : Pos} {x : Str}
def gN (i : Nat) : D → Rho → Option Rho := fun d ρ => some (setV i d ρ)
theorem pdg_name {i : Nat} (hN : X.N.Nodup) (hi : X.N[i]? = some x) (hx : Loc X.env.scope x) (hf : X.fn x = true ∨ X.env.scope.names.lookup x = some .local := by first | exact .inl rfl | exact .inr rfl | assumption) : PDG X B (.Name x pos) (gN i) := by
  intro pins s σ H v u Q I r h
  obtain ⟨ρ, d, ρ', r1, i1, e, q⟩ := h
  cases e
  exact pg_name hN hi hx hf pins s σ H v u Q I r (q _ H (r1.setV i1))
/-- two names -/
def gN2 (i j : Nat) : D → Rho → Option Rho := fun d ρ => match d with
  | .tup [a, b] => some (setV j b (setV i a ρ))
  | _ => none
theorem pdg_tup2 {i j : Nat} {y : Str} {p1 p2 : Pos} {k : Nat} (hc : X.calm = true) (hN : X.N.Nodup) (hi : X.N[i]? = some x) (hx : Loc X.env.scope x) (hj : X.N[j]? = some y) (hy : Loc X.env.scope y)
    (hf : X.fn x = true ∨ X.env.scope.names.lookup x = some .local := by first | exact .inl rfl | exact .inr rfl | assumption) (hf2 : X.fn y = true ∨ X.env.scope.names.lookup y = some .local := by first | exact .inl rfl | exact .inr rfl | assumption) :
    PDG X B (.Tuple [.Name x p1, .Name y p2] k pos) (gN2 i j) := by
  intro pins s σ H v u Q I r h
  obtain ⟨ρ, d, ρ', r1, i1, e, q⟩ := h
  unfold gN2 at e
  split at e
  · rename_i a b
    cases e
    cases i1 with
    | tup hh rr =>
      cases rr with
      | cons ia rr =>
        cases rr with
        | cons ib rr =>
          cases rr
          refine pg_tup (n := 2) hc (pgs_cons (pg_name hN hi hx hf) (pgs_cons (pg_name hN hj hy hf2) pgs_nil)) rfl rfl pins s σ H _ u Q I r ?_
          refine ⟨_, _, rfl, hh, rfl, _, _, rfl, _, _, rfl, rfl, ?_⟩
          exact q _ H ((r1.setV ia).setV ib)
  · cases e
end

/-! ### loops -/
def loop (G : D → Rho → Option Rho) (F : Rho → Option Out) : List D → Rho → Option Out
  | [], ρ => some (.nx ρ)
  | d :: ds, ρ => match G d ρ with
    | none => none
    | some ρ1 => match F ρ1 with
      | some (.nx ρ2) => loop G F ds ρ2
      | some (.ct ρ2) => loop G F ds ρ2
      | some (.bk ρ2) => some (.nx ρ2)
      | some (.rt d) => some (.rt d)
      | some (.ex c ρ2) => some (.ex c ρ2)
      | none => none
/-- the iterator yields these data as long as the heap keeps B -/
structure ItD (K : PySem.W.Frag) (J : It) (ds : List D) (B : Hp) : Prop where
  go : ∀ j H, Same B H → j < ds.length → J.go j H
  yld : ∀ j H x H', Same B H → J.yld j H x H' → j < ds.length → H' = H ∧ ∃ d, ds[j]? = some d ∧ Is K H d x
  stop : ∀ j H, Same B H → ds.length ≤ j → J.stop j H
theorem itd_list {K : PySem.W.Frag} {a : Addr} {ds : List D} {vs : List V} {B : Hp} (h : SqL K B a vs) (r : IsL K B ds vs) : ItD K (Itl K a) ds B where
  go := fun j H e q => ⟨vs, vs[j]'(by rw [← r.length]; exact q), e.seq h, by simp [show j < vs.length by rw [← r.length]; exact q]⟩
  yld := fun j H x H' e y q => by
    obtain ⟨y1, y2⟩ := y
    obtain ⟨d, h1, h2⟩ := r.getV (y2 vs (e.seq h))
    exact ⟨y1, d, h1, h2.mono e⟩
  stop := fun j H e q => ⟨vs, e.seq h, by rw [← r.length]; exact q⟩
theorem itd_tup {K : PySem.W.Frag} {a : Addr} {ds : List D} {vs : List V} {B : Hp} (h : SqT K B a vs) (r : IsL K B ds vs) : ItD K (Itt K a) ds B where
  go := fun j H e q => ⟨vs, vs[j]'(by rw [← r.length]; exact q), SqT.mono e h, by simp [show j < vs.length by rw [← r.length]; exact q]⟩
  yld := fun j H x H' e y q => by
    obtain ⟨y1, y2⟩ := y
    obtain ⟨d, h1, h2⟩ := r.getV (y2 vs (SqT.mono e h))
    exact ⟨y1, d, h1, h2.mono e⟩
  stop := fun j H e q => ⟨vs, SqT.mono e h, by rw [← r.length]; exact q⟩
def rng (lo : Int) (n : Nat) : List D := (List.range n).map fun (j : Nat) => D.int (lo + (j : Int))
theorem itd_rng {K : PySem.W.Frag} (lo : Int) (n : Nat) (B : Hp) : ItD K (Itr lo n) (rng lo n) B where
  go := fun j H e q => by unfold rng at q; rw [List.length_map, List.length_range] at q; exact q
  yld := fun j H x H' e y q => by
    unfold rng at q; rw [List.length_map, List.length_range] at q
    obtain ⟨y1, y2⟩ := y
    subst y2
    refine ⟨y1, .int (lo + j), ?_, .int _⟩
    unfold rng
    rw [List.getElem?_map, List.getElem?_range q]; rfl
  stop := fun j H e q => by unfold rng at q; rw [List.length_map, List.length_range] at q; exact q
section
variable {X : Cx} {B : Hp} {tg iter : Expr} {pos : Pos} {G : D → Rho → Option Rho} {F : Rho → Option Out} {body : List Stmt}
theorem Rel.sub {K : PySem.W.Frag} {B B' : Hp} {ρ : Rho} {σ : St} {H : Hp} (e : Same B B') (r : Rel K B' ρ σ H) : Rel K B ρ σ H := by
  obtain ⟨O, h1, ho, h2, hl, h3⟩ := r
  exact ⟨O, h1, ho, e.trans h2, hl, h3⟩
theorem Good.sub {E : Ends} {B' : Hp} (e : Same B B') {o : Out} (h : Good X B E o) : Good X B' E o := by
  cases o with
  | nx ρ => exact fun σ H r => h σ H (r.sub e)
  | rt d => exact fun v H r i => h v H (e.trans r) i
  | bk ρ => exact fun σ H r => h σ H (r.sub e)
  | ct ρ => exact fun σ H r => h σ H (r.sub e)
  | ex c ρ => exact fun pins s σ H ev r x => h pins s σ H ev (r.sub e) x
/-- what the iterator must bring -/
def IterOk (X : Cx) (B : Hp) (σ : St) (ds : List D) (ρ1 : Rho) (J : It) (H1 : Hp) : Prop := ∃ B', ItD X.K J ds B' ∧ Rel X.K B' ρ1 σ H1 ∧ Same B B'
theorem for_red {J : It} {H1 : Hp} {σ : St} {E : Ends} {ds : List D} {ρ1 : Rho} (hi : IterOk X B σ ds ρ1 J H1) (h : GoodO X B E (loop G F ds ρ1)) {g : TG} {tb : TS} (hg : ∀ B v σ H Q, tDG X B G v σ H Q → g v σ H Q) (hb : ∀ B E σ H, tDS X B F E σ H → tb E σ H) :
    ∃ W : Nat → Nat → St → Hp → Prop, (∃ m, W 0 m σ H1) ∧ ∀ i m σ H, W i m σ H →
      (J.stop i H ∧ E.nx σ H) ∨ (J.go i H ∧ ∃ N : St → Hp → Prop, (∀ σ' H', N σ' H' → ∃ m', m' < m ∧ W (i + 1) m' σ' H') ∧ ∀ x H', J.yld i H x H' → g x σ H' fun σ2 H2 => tb { E with nx := N, ct := N, bk := E.nx } σ2 H2) := by
  obtain ⟨B', hJ, r1, sB⟩ := hi
  refine ⟨fun j m σ H => m = ds.length - j ∧ j ≤ ds.length ∧ ∃ ρj, Rel X.K B' ρj σ H ∧ GoodO X B E (loop G F (ds.drop j) ρj), ⟨ds.length, by simp, Nat.zero_le _, ρ1, r1, by simpa using h⟩, ?_⟩
  rintro j m σ H ⟨rfl, hj, ρj, rj, gj⟩
  have sH : Same B' H := rj.kept
  by_cases hlt : j < ds.length
  · have hd : ds.drop j = ds[j] :: ds.drop (j + 1) := List.drop_eq_getElem_cons hlt
    rw [hd] at gj
    refine .inr ⟨hJ.go j H sH hlt, fun σ' H' => ∃ ρ', Rel X.K B' ρ' σ' H' ∧ GoodO X B E (loop G F (ds.drop (j + 1)) ρ'), fun σ' H' ⟨ρ', r', g'⟩ => ⟨ds.length - (j + 1), by omega, rfl, hlt, ρ', r', g'⟩, fun x H' y => ?_⟩
    obtain ⟨e1, d, e2, e3⟩ := hJ.yld j H x H' sH y hlt
    subst e1
    have ed : ds[j] = d := by rw [List.getElem?_eq_getElem hlt] at e2; exact Option.some.inj e2
    rw [ed] at gj
    unfold loop at gj
    cases q : G d ρj with
    | none => rw [q] at gj; exact False.elim gj
    | some ρa =>
      rw [q] at gj
      refine hg B' x σ H' _ ⟨ρj, d, ρa, rj, e3, q, fun σ2 H2 r2 => hb B' _ σ2 H2 ⟨ρa, r2, ?_⟩⟩
      dsimp only at gj
      cases qf : F ρa with
      | none => rw [qf] at gj; exact False.elim gj
      | some o =>
        rw [qf] at gj
        cases o with
        | nx ρ2 => exact fun σ3 H3 r3 => ⟨ρ2, r3, gj⟩
        | ct ρ2 => exact fun σ3 H3 r3 => ⟨ρ2, r3, gj⟩
        | bk ρ2 => exact fun σ3 H3 r3 => gj σ3 H3 (r3.sub sB)
        | rt d => exact fun v H3 s3 i3 => gj v H3 (sB.trans s3) i3
        | ex c ρ2 => exact fun pins s σ3 H3 ev r3 x3 => gj pins s σ3 H3 ev (r3.sub sB) x3
  · have e : ds.drop j = [] := List.drop_eq_nil_of_le (by omega)
    rw [e] at gj
    exact .inl ⟨hJ.stop j H sH (by omega), gj σ H (rj.sub sB)⟩
/-- the data of a list or a tuple -/
def itD : D → M (List D)
  | .lst ds => ok ds
  | .tup ds => ok ds
  | _ => none
def iD (X : Cx) (tl : TE) : TI := fun σ H R => tl σ H fun x H1 => (∃ a, x = .ref a ∧ (∃ xs, SqL X.K H1 a xs) ∧ R (Itl X.K a) H1) ∨ (∃ a, x = .ref a ∧ (∃ xs, SqT X.K H1 a xs) ∧ R (Itt X.K a) H1)
theorem pi_D {l : Expr} {tl : TE} (hl : PE X l tl) : PI X tg l (iD X tl) := by
  intro pins s σ H R I h
  refine thn (hl pins s σ H _ I h) fun v s1 ⟨x, H1, I1, r1, q1⟩ => ?_
  rcases q1 with ⟨a, e, ⟨xs, hq⟩, q⟩ | ⟨a, e, ⟨xs, hq⟩, q⟩
  · subst e
    cases r1
    obtain ⟨its, rv, p, hz⟩ := I1.list hq
    refine wpAny_pyIter_list p.isList ?_
    refine ⟨s1.heap.objs.size, [s1.heap.objs.size], _, _, H1, rfl, I1.kept (t' := s1.toks) fun b o e => Heap.get?_push_of_some _ e, turn_list a _, ⟨_, Heap.get?_push_size _ rfl, rfl, rfl⟩, fun b hb => ?_, q⟩
    have e : b = s1.heap.objs.size := by simpa using hb
    subst e
    exact I1.fpOk (Nat.le_refl _) (I1.hok.fresh (Nat.le_refl _))
  · subst e
    cases r1
    obtain ⟨its, rv, p, hz⟩ := I1.tuple hq
    refine wpAny_pyIter_tuple (show s1.heap.IsTuple a its.toArray from p) ?_
    refine ⟨s1.heap.objs.size, [s1.heap.objs.size], _, _, H1, rfl, I1.kept (t' := s1.toks) fun b o e => Heap.get?_push_of_some _ e, turn_tuple a _, ⟨_, Heap.get?_push_size _ rfl, rfl, rfl⟩, fun b hb => ?_, q⟩
    have e : b = s1.heap.objs.size := by simpa using hb
    subst e
    exact I1.fpOk (Nat.le_refl _) (I1.hok.fresh (Nat.le_refl _))
theorem pds_forG {wi : TI} {S : Rho → Option Out} (hp : PassesOwn (model X.prog X.w) X.A X.env X.xe) (hc : X.calm = true) (hi : PI X tg iter wi) (hg : ∀ B, PDG X B tg G) (hb : ∀ B, PDB X B body F)
    (hr : ∀ E σ H R, tDS X B S E σ H → (∀ J H1 ds ρ1, IterOk X B σ ds ρ1 J H1 → GoodO X B E (loop G F ds ρ1) → R J H1) → wi σ H R) (hs : ∀ x, foldedSetIterable iter X.env x = pure x := by intro _; rfl) : PDS X B (.For tg iter body [] pos) S := by
  have hg' : PG X tg (fun v σ H Q => ∃ B, tDG X B G v σ H Q) := fun pins s σ H v u Q I r ⟨B, h⟩ => hg B pins s σ H v u Q I r h
  have hb' : PSs X body (fun E σ H => ∃ B, tDS X B F E σ H) := fun pins s σ H E I ⟨B, h⟩ => hb B pins s σ H E I h
  refine PS.of (ps_for hp hc hi hg' hb' hs) fun E σ H h => ?_
  exact hr E σ H _ h fun J H1 ds ρ1 i1 g1 => for_red (g := fun v σ H Q => ∃ B, tDG X B G v σ H Q) (tb := fun E σ H => ∃ B, tDS X B F E σ H) i1 g1 (fun B v σ H Q q => ⟨B, q⟩) fun B E σ H q => ⟨B, q⟩
/-- over a name's list or tuple -/
def relAt (i : Nat) (ρ : Rho) : Rho := match ρ[i]? with
  | some (some (.own _)) => free ρ
  | some (some (.oin _ _ _ _)) => free ρ
  | _ => ρ
def sForN (i : Nat) (G : D → Rho → Option Rho) (F : Rho → Option Out) : Rho → Option Out := fun ρ => match look i ρ with
  | some (.ok d) => (match itD d with
    | some (.ok ds) => loop G F ds (relAt i ρ)
    | _ => none)
  | _ => none
/-- the whole heap stays as the base -/
theorem Rel.base {K : PySem.W.Frag} {B : Hp} {ρ : Rho} {σ : St} {H : Hp} (r : Rel K B ρ σ H) : ∃ B', Rel K B' ρ σ H ∧ Same B B' ∧ Same B' H ∧ (∀ (i : Nat) (d : D), ρ[i]? = some (some (SV.sh d)) → ∃ v, σ[i]? = some (some v) ∧ Is K B' d v) ∧ (∀ d v, d.imm = true → Is K H d v → Is K B' d v) := by
  obtain ⟨O, h1, ho, h2, hl, h3⟩ := r
  exact ⟨Off H O, ⟨O, h1, ho, Same.refl _, hl, h3⟩, h2, Off.same _ _, fun i d q => h3 i _ q, fun d v q i => off_imm ho q i⟩
theorem Rel.baseAll {K : PySem.W.Frag} {B : Hp} {ρ : Rho} {σ : St} {H : Hp} (r : Rel K B ρ σ H) : Rel K H (free ρ) σ H := by
  have e0 : Off H (fun _ => none) = H := by funext b; unfold Off; rw [if_neg (fun ⟨i, e⟩ => nomatch e)]
  refine ⟨fun _ => none, (by intro _ _ _ q; cases q), (by intro _ _ q; cases q), by rw [e0]; exact Same.refl _, ?_, fun i sv q => ?_⟩
  · obtain ⟨O, _, _, _, hl, _⟩ := r.freed
    exact hl
  · unfold free at q
    rw [List.getElem?_map] at q
    obtain ⟨o, e1, e2⟩ := Option.map_eq_some_iff.mp q
    cases o with
    | none => cases e2
    | some sv0 =>
      have e2' : sv0.rel = sv := Option.some.inj e2
      subst e2'
      obtain ⟨v, e3, e4⟩ := r.get e1
      have : sv0.rel = .sh sv0.cur := by cases sv0 <;> rfl
      rw [this]
      exact ⟨v, e3, by rw [e0]; exact e4⟩
theorem iter_of {K : PySem.W.Frag} {H : Hp} {d : D} {v : V} {ds : List D} (i : Is K H d v) (h : itD d = ok ds) : ∃ a vs, v = .ref a ∧ IsL K H ds vs ∧ (SqL K H a vs ∨ SqT K H a vs) := by
  cases i with
  | lst hh r => have := ok_inj h; subst this; exact ⟨_, _, rfl, r, .inl hh⟩
  | tup hh r => have := ok_inj h; subst this; exact ⟨_, _, rfl, r, .inr hh⟩
  | _ => exact nomatch h
theorem pds_forN (i : Nat) {x : Str} {p : Pos} (hN : X.N[i]? = some x) (hv : Vis X.env.scope x) (hp : PassesOwn (model X.prog X.w) X.A X.env X.xe) (hc : X.calm = true) (hg : ∀ B, PDG X B tg G) (hb : ∀ B, PDB X B body F)
    (hd : (x == ("__debug__" : Str)) = false := by decide) (hcd : (x == ("__classdict__" : Str)) = false := by decide) (hs : ∀ y, foldedSetIterable (.Name x p) X.env y = pure y := by intro _; rfl) : PDS X B (.For tg (.Name x p) body [] pos) (sForN i G F) := by
  refine pds_forG hp hc (pi_D (pe_var hN hv hd hcd)) hg hb (fun E σ H R h k => ?_) hs
  obtain ⟨ρ, r, h⟩ := h
  unfold sForN look at h
  split at h
  · rename_i d0 hd0
    split at hd0
    · rename_i sv q
      have e := ok_inj hd0
      subst e
      split at h
      · rename_i ds hds
        obtain ⟨v, e1, e2⟩ := r.get q
        obtain ⟨a, vs, rfl, il, hq⟩ := iter_of e2 hds
        refine ⟨_, e1, ?_⟩
        have key : ∃ B' vs, Rel X.K B' (relAt i ρ) σ H ∧ Same B B' ∧ IsL X.K B' ds vs ∧ (SqL X.K B' a vs ∨ SqT X.K B' a vs) := by
          cases sv with
          | sh d =>
            obtain ⟨B', b1, b2, b3, b4, b5⟩ := r.base
            obtain ⟨v', f1, f2⟩ := b4 i d q
            rw [e1] at f1
            have := Option.some.inj (Option.some.inj f1); subst this
            obtain ⟨a', vs', ea, il', hq'⟩ := iter_of f2 hds
            cases ea
            have e : relAt i ρ = ρ := by unfold relAt; rw [q]
            exact ⟨B', vs', by rw [e]; exact b1, b2, il', hq'⟩
          | own ds' =>
            have e : relAt i ρ = free ρ := by unfold relAt; rw [q]
            exact ⟨H, vs, by rw [e]; exact r.baseAll, r.kept, il, hq⟩
          | oin a C dx fs =>
            have e : relAt i ρ = free ρ := by unfold relAt; rw [q]
            exact ⟨H, vs, by rw [e]; exact r.baseAll, r.kept, il, hq⟩
        obtain ⟨B', vs', k1, k2, k3, k4⟩ := key
        rcases k4 with k4 | k4
        · exact .inl ⟨a, rfl, ⟨_, k1.kept.seq k4⟩, k _ H ds (relAt i ρ) ⟨B', itd_list k4 k3, k1, k2⟩ h⟩
        · exact .inr ⟨a, rfl, ⟨_, SqT.mono k1.kept k4⟩, k _ H ds (relAt i ρ) ⟨B', itd_tup k4 k3, k1, k2⟩ h⟩
      · exact False.elim h
    · exact nomatch hd0
  · exact False.elim h
/-- over any expression's list or tuple -/
def sForE (f : Rho → M D) (G : D → Rho → Option Rho) (F : Rho → Option Out) : Rho → Option Out := fun ρ => lft (f ρ) ρ fun d => match itD d with
  | some (.ok ds) => loop G F ds (if d.imm = true then ρ else free ρ)
  | _ => none
theorem pds_forE {fa : Rho → M D} (hp : PassesOwn (model X.prog X.w) X.A X.env X.xe) (hc : X.calm = true) (he : PD X B iter fa) (hg : ∀ B, PDG X B tg G) (hb : ∀ B, PDB X B body F) (hs : ∀ y, foldedSetIterable iter X.env y = pure y := by intro _; rfl) : PDS X B (.For tg iter body [] pos) (sForE fa G F) := by
  refine pds_forG hp hc (pi_D he) hg hb (fun E σ H R h k => ?_) hs
  obtain ⟨ρ, r, h⟩ := h
  refine ⟨ρ, r, (lft_red r h).imp fun d h1 v H1 e1 i1 => ?_⟩
  split at h1
  · rename_i ds hds
    obtain ⟨a, vs, rfl, il, hq⟩ := iter_of i1 hds
    have r1 := r.mono e1
    have key : ∃ B' vs, Rel X.K B' (if d.imm = true then ρ else free ρ) σ H1 ∧ Same B B' ∧ IsL X.K B' ds vs ∧ (SqL X.K B' a vs ∨ SqT X.K B' a vs) := by
      by_cases q : d.imm = true
      · obtain ⟨B', b1, b2, b3, b4, b5⟩ := r1.base
        obtain ⟨a', vs', ea, il', hq'⟩ := iter_of (b5 d _ q i1) hds
        cases ea
        rw [if_pos q]
        exact ⟨B', vs', b1, b2, il', hq'⟩
      · rw [if_neg q]
        exact ⟨H1, vs, r1.baseAll, r1.kept, il, hq⟩
    obtain ⟨B', vs', k1, k2, k3, k4⟩ := key
    rcases k4 with k4 | k4
    · exact .inl ⟨a, rfl, ⟨_, k1.kept.seq k4⟩, k _ H1 ds _ ⟨B', itd_list k4 k3, k1, k2⟩ h1⟩
    · exact .inr ⟨a, rfl, ⟨_, SqT.mono k1.kept k4⟩, k _ H1 ds _ ⟨B', itd_tup k4 k3, k1, k2⟩ h1⟩
  · exact False.elim h1
/-- range(n), range(a, b) -/
def sForR1 (f : Rho → M D) (G : D → Rho → Option Rho) (F : Rho → Option Out) : Rho → Option Out := fun ρ => lft (f ρ) ρ fun d => match d with
  | .int j => if j < 2 ^ 62 ∧ -(2 ^ 62) ≤ j then loop G F (rng 0 j.toNat) ρ else none
  | _ => none
theorem pds_forR1 {a : Expr} {fa : Rho → M D} {p p1 : Pos} (hgl : Gl X "range") (hm : X.mg "range" = none) (hp : PassesOwn (model X.prog X.w) X.A X.env X.xe) (hc : X.calm = true) (he : PD X B a fa) (hg : ∀ B, PDG X B tg G) (hb : ∀ B, PDB X B body F)
    (hst : starEach [a] X.env = [(false, eval a X.env)] := by exact star1 rfl) (hs : ∀ y, foldedSetIterable (.Call (.Name "range" p) [a] [] p1) X.env y = pure y := by intro _; rfl) : PDS X B (.For tg (.Call (.Name "range" p) [a] [] p1) body [] pos) (sForR1 fa G F) := by
  refine pds_forG hp hc (pi_range1 hgl hm (pa_cons he pa_nil hst) hst) hg hb (fun E σ H R h k => ?_) hs
  obtain ⟨ρ, r, h⟩ := h
  refine ⟨ρ, r, (lft_red r h).imp fun d h1 v H1 e1 i1 => ?_⟩
  cases i1 <;> first | exact False.elim h1 | skip
  rename_i j
  dsimp only at h1
  split at h1
  · rename_i hj
    obtain ⟨B', b1, b2, b3, b4, b5⟩ := (r.mono e1).base
    exact ⟨j, rfl, hj.2, hj.1, k _ H1 _ ρ ⟨B', itd_rng 0 j.toNat B', b1, b2⟩ h1⟩
  · exact False.elim h1
def sForR2 (f g : Rho → M D) (G : D → Rho → Option Rho) (F : Rho → Option Out) : Rho → Option Out := fun ρ => lft (f ρ) ρ fun d => lft (g ρ) ρ fun d2 => match d, d2 with
  | .int i, .int j => if (-(2 ^ 62) ≤ i ∧ i < 2 ^ 62 ∧ -(2 ^ 62) ≤ j ∧ j < 2 ^ 62) then loop G F (rng i (j - i).toNat) ρ else none
  | _, _ => none
theorem pds_forR2 {a b : Expr} {fa fb : Rho → M D} {p p1 : Pos} (hgl : Gl X "range") (hm : X.mg "range" = none) (hp : PassesOwn (model X.prog X.w) X.A X.env X.xe) (hc : X.calm = true) (he : PD X B a fa) (he2 : PD X B b fb) (hg : ∀ B, PDG X B tg G) (hb : ∀ B, PDB X B body F)
    (hst : starEach [a, b] X.env = [(false, eval a X.env), (false, eval b X.env)] := by exact star2 rfl rfl) (hst2 : starEach [b] X.env = [(false, eval b X.env)] := by exact star1 rfl) (hs : ∀ y, foldedSetIterable (.Call (.Name "range" p) [a, b] [] p1) X.env y = pure y := by intro _; rfl) : PDS X B (.For tg (.Call (.Name "range" p) [a, b] [] p1) body [] pos) (sForR2 fa fb G F) := by
  refine pds_forG hp hc (pi_range2 hgl hm (pa_cons he (pa_cons he2 pa_nil hst2) (by rw [hst, hst2])) hst hst2) hg hb (fun E σ H R h k => ?_) hs
  obtain ⟨ρ, r, h⟩ := h
  refine ⟨ρ, r, (lft_red r h).imp fun d h1 v H1 e1 i1 => ⟨ρ, r.mono e1, (lft_red (r.mono e1) h1).imp fun d2 h2 v2 H2 e2 i2 => ?_⟩⟩
  cases i1 <;> first | exact False.elim h2 | skip
  cases i2 <;> first | exact False.elim h2 | skip
  rename_i i j
  dsimp only at h2
  split at h2
  · rename_i hj
    obtain ⟨B', b1, b2, b3, b4, b5⟩ := ((r.mono e1).mono e2).base
    exact ⟨i, j, rfl, hj, k _ H2 _ ρ ⟨B', itd_rng i (j - i).toNat B', b1, b2⟩ h2⟩
  · exact False.elim h2
end
end L2.PU

set_option Elab.async false
set_option linter.all false
set_option maxRecDepth 100000
set_option maxHeartbeats 4000000
namespace L2.PU
open PySem PySem.Spec PyProof.Rows

/-! ### self.f = value, while the instance is being made -/
def putD (f : Str) (v : D) : List (Str × D) → List (Str × D)
  | [] => [(f, v)]
  | (g, x) :: r => if g = f then (g, v) :: r else (g, x) :: putD f v r
theorem isF_put {K : PySem.W.Frag} {H : Hp} {f : Str} {d : D} {v : V} (i : Is K H d v) : ∀ {fs : List (Str × D)} {vs : List (Str × V)}, IsF K H fs vs → IsF K H (putD f d fs) (putF f v vs)
  | _, _, .nil => .cons i .nil
  | _, _, .cons (x := g) h r => by
    unfold putD putF
    by_cases q : g = f
    · rw [if_pos q, if_pos q]; exact .cons i r
    · rw [if_neg q, if_neg q]; exact .cons h (isF_put i r)
section
variable {X : Cx} {B : Hp} {e : Expr} {fa : Rho → M D} {pos pos' p : Pos} {x f : Str}
theorem Rel.put {K : PySem.W.Frag} {B H : Hp} {ρ : Rho} {σ : St} {i : Nat} {a C dx : Addr} {fs : List (Str × D)} {d : D} {v : V} (O : Nat → Option Addr) (h1 : ∀ i j a, O i = some a → O j = some a → i = j) (ho : OwnK H O) (h2 : Same B (Off H O)) (hl : ρ.length = σ.length)
    (h3 : ∀ i sv, ρ[i]? = some (some sv) → Slot K H O σ i sv) (q : ρ[i]? = some (some (.oin a C dx fs))) (iv : Is K (Off H O) d v) {vs : List (Str × V)} (hv : H a = some (.ins C dx vs)) : Rel K B (ρ.set i (some (.oin a C dx (putD f d fs)))) σ (upd H a (.ins C dx (putF f v vs))) := by
  obtain ⟨z1, z2, z3, vs', z4, z5⟩ := h3 i _ q
  rw [hv] at z4
  cases z4
  have eo : Off (upd H a (.ins C dx (putF f v vs))) O = Off H O := Off.upd z1
  refine ⟨O, h1, fun j b qj => ?_, by rw [eo]; exact h2, by rw [List.length_set, hl], fun j sv qj => ?_⟩
  · by_cases e : b = a
    · subst e; exact .inr ⟨C, dx, _, upd_same⟩
    · rcases ho j b qj with ⟨ws, w⟩ | ⟨C', dx', ws, w⟩
      · exact .inl ⟨ws, by rw [upd_ne e]; exact w⟩
      · exact .inr ⟨C', dx', ws, by rw [upd_ne e]; exact w⟩
  · by_cases e : j = i
    · subst e
      have hj : j < ρ.length := (List.getElem?_eq_some_iff.mp q).1
      rw [List.getElem?_set_self hj] at qj
      have q' := Option.some.inj (Option.some.inj qj)
      subst q'
      exact ⟨z1, z2, z3, _, upd_same, by rw [eo]; exact isF_put iv z5⟩
    · rw [List.getElem?_set_ne (Ne.symm e)] at qj
      have z := h3 j sv qj
      cases sv with
      | sh d' => obtain ⟨v', e1, e2⟩ := z; exact ⟨v', e1, by rw [eo]; exact e2⟩
      | own ds =>
        obtain ⟨b, ws, e1, e2, e3, e4⟩ := z
        have nb : b ≠ a := fun w => e (h1 j i a (by rw [← w]; exact e1) z1)
        exact ⟨b, ws, e1, e2, by rw [upd_ne nb]; exact e3, by rw [eo]; exact e4⟩
      | oin b C' dx' fs' =>
        obtain ⟨e1, e2, e3, ws, e4, e5⟩ := z
        have nb : b ≠ a := fun w => e (h1 j i a (by rw [← w]; exact e1) z1)
        exact ⟨e1, e2, e3, ws, by rw [upd_ne nb]; exact e4, by rw [eo]; exact e5⟩
def putAt (cs : Addr → Bool) (i : Nat) (f : Str) (d : D) (ρ : Rho) : Option Out := match ρ[i]? with
  | some (some (.oin a C dx fs)) => if cs C = true ∧ fs.length < 1000 then some (.nx (ρ.set i (some (.oin a C dx (putD f d fs))))) else none
  | _ => none
def sFldI (cs : Addr → Bool) (i : Nat) (f : Str) (fa : Rho → M D) : Rho → Option Out := fun ρ => lft (fa ρ) ρ fun d => if d.imm = true then putAt cs i f d ρ else none
theorem pds_fldI {cs : Addr → Bool} {i : Nat} (hC : ∀ C, cs C = true → Cls X.K C ∧ NoAttr X.K C f) (hN : X.N[i]? = some x) (hv : Vis X.env.scope x) (he : PD X B e fa) (hs : swapsWith e (some (.Attribute (.Name x p) f pos')) pos.line X.env = pure false := by rfl)
    (hd : (x == ("__debug__" : Str)) = false := by decide) (hcd : (x == ("__classdict__" : Str)) = false := by decide) : PDS X B (.Assign [.Attribute (.Name x p) f pos'] e pos) (sFldI cs i f fa) := by
  refine PS.of (ps_fld (pe_var hN hv hd hcd) he hs) fun E σ H h => ?_
  obtain ⟨ρ, r, h⟩ := h
  refine ⟨ρ, r, (lft_red r h).imp fun d h1 v H1 e1 i1 => ?_⟩
  split at h1
  · rename_i hm
    unfold putAt at h1
    split at h1
    · rename_i a C dx fs q
      split at h1
      · rename_i hc
        obtain ⟨O, g1, go, g2, gl, g3⟩ := r.mono e1
        obtain ⟨z1, z2, z3, vs, z4, z5⟩ := g3 i _ q
        exact ⟨_, z2, a, C, dx, vs, rfl, z4, (hC C hc.1).1, (hC C hc.1).2, by rw [← z5.length]; exact hc.2, h1 σ _ (Rel.put O g1 go g2 gl g3 q (off_imm go hm i1) z4)⟩
      · exact False.elim h1
    · exact False.elim h1
  · exact False.elim h1
def sFldN (cs : Addr → Bool) (i : Nat) (f : Str) (j : Nat) : Rho → Option Out := fun ρ => match ρ[j]? with
  | some (some (.sh d)) => putAt cs i f d ρ
  | _ => none
theorem pds_fldN {cs : Addr → Bool} {i j : Nat} {y : Str} {p2 : Pos} (hC : ∀ C, cs C = true → Cls X.K C ∧ NoAttr X.K C f) (hN : X.N[i]? = some x) (hv : Vis X.env.scope x) (hN2 : X.N[j]? = some y) (hv2 : Vis X.env.scope y) (hs : swapsWith (.Name y p2) (some (.Attribute (.Name x p) f pos')) pos.line X.env = pure false := by rfl)
    (hd : (x == ("__debug__" : Str)) = false := by decide) (hcd : (x == ("__classdict__" : Str)) = false := by decide) (hd2 : (y == ("__debug__" : Str)) = false := by decide) (hcd2 : (y == ("__classdict__" : Str)) = false := by decide) : PDS X B (.Assign [.Attribute (.Name x p) f pos'] (.Name y p2) pos) (sFldN cs i f j) := by
  refine PS.of (ps_fld (pe_var hN hv hd hcd) (pe_var hN2 hv2 hd2 hcd2) hs) fun E σ H h => ?_
  obtain ⟨ρ, r, h⟩ := h
  unfold sFldN at h
  split at h
  · rename_i d qd
    unfold putAt at h
    split at h
    · rename_i a C dx fs q
      split at h
      · rename_i hc
        obtain ⟨O, g1, go, g2, gl, g3⟩ := r
        obtain ⟨v, y1, y2⟩ := g3 j _ qd
        obtain ⟨z1, z2, z3, vs, z4, z5⟩ := g3 i _ q
        exact ⟨v, y1, _, z2, a, C, dx, vs, rfl, z4, (hC C hc.1).1, (hC C hc.1).2, by rw [← z5.length]; exact hc.2, h σ _ (Rel.put O g1 go g2 gl g3 q y2 z4)⟩
      · exact False.elim h
    · exact False.elim h
  · exact False.elim h
end

/-! ### a def by its body (no exception leaves it) -/
def rho0 (N : List Str) (ds : List D) : Rho := ds.map (fun d => some (.sh d)) ++ List.replicate (N.length - ds.length) none
def fnRes : Option Out → M D
  | some (.rt d) => ok d
  | some (.nx _) => ok .non
  | some (.ex c _) => err c
  | _ => none
theorem get_append_map {α β : Type} {f : α → β} : ∀ {l : List α} {r : List β} {i : Nat} {b : β}, (l.map f ++ r)[i]? = some b → (∃ a, l[i]? = some a ∧ b = f a) ∨ (l.length ≤ i ∧ r[i - l.length]? = some b)
  | l, r, i, b, h => by
    by_cases q : i < l.length
    · rw [List.getElem?_append_left (by simpa using q), List.getElem?_map] at h
      obtain ⟨a, e1, e2⟩ := Option.map_eq_some_iff.mp h
      exact .inl ⟨a, e1, e2.symm⟩
    · rw [List.getElem?_append_right (by simpa using q), List.length_map] at h
      exact .inr ⟨by omega, h⟩
theorem start_get {N : List Str} {vs : List V} {i : Nat} {v : V} (h : vs[i]? = some v) : (start N vs)[i]? = some (some v) := by
  unfold start
  have q : i < vs.length := (List.getElem?_eq_some_iff.mp h).1
  rw [List.getElem?_append_left (by simpa using q), List.getElem?_map, h]; rfl
theorem start_length {N : List Str} {vs : List V} (h : vs.length ≤ N.length) : (start N vs).length = N.length := by
  unfold start; rw [List.length_append, List.length_map, List.length_replicate]; omega
theorem rho0_length {N : List Str} {ds : List D} (h : ds.length ≤ N.length) : (rho0 N ds).length = N.length := by
  unfold rho0; rw [List.length_append, List.length_map, List.length_replicate]; omega
theorem rel_start {K : PySem.W.Frag} {H : Hp} {N : List Str} {ds : List D} {vs : List V} (i : IsL K H ds vs) (hl : ds.length ≤ N.length) : Rel K H (rho0 N ds) (start N vs) H := by
  have e0 : Off H (fun _ => none) = H := by funext b; unfold Off; rw [if_neg (fun ⟨i, e⟩ => nomatch e)]
  refine ⟨fun _ => none, (by intro _ _ _ q; cases q), (by intro _ _ q; cases q), by rw [e0]; exact Same.refl _, by rw [rho0_length hl, start_length (by rw [← i.length]; exact hl)], fun j sv q => ?_⟩
  unfold rho0 at q
  rcases get_append_map q with ⟨d, e1, e2⟩ | ⟨_, e2⟩
  · cases e2
    obtain ⟨v, h1, h2⟩ := i.get e1
    exact ⟨v, start_get h1, by rw [e0]; exact h2⟩
  · rw [List.getElem?_replicate] at e2
    split at e2 <;> cases e2
section
variable {P : Program} {w : World} {K : PySem.W.Frag} {mg : Str → Option Value} {base : Heap}
abbrev cxN (P : Program) (w : World) (K : PySem.W.Frag) (mg : Str → Option Value) (base : Heap) (N : List Str) (qual : Str) (scope : Scope) (f : Addr) (cd : Value) (A : Around) (outer : List Env) (s : Shared) (H : Hp) (E : XK) : Cx :=
  (cxOf (CXD P w) P w K mg base N qual scope f cd A outer s H E).nox
theorem fn_D {x qual : Str} {st : Stmt} {f : Addr} {fd : FuncData} {N ps : List Str} {k : Nat} {F : List D → M D} (Fu : Fun K x qual st f fd) (S : FnScope N ps (defScope st)) (hL : ∀ ds r, F ds = some r → ds.length = ps.length)
    (hbody : ∀ (cdv : Value) (A : Around) (outer : List Env) (s : Shared) (H : Hp) (E : XK), Room k (A.deeper (envOfC qual (defScope st) s.heap.objs.size f cdv)) →
      ∃ F', (∀ B, PDB (cxN P w K mg base N qual (defScope st) f cdv A outer s H E) B (defBody st) F') ∧ ∀ ds r, F ds = some r → ∃ d, r = .ok d ∧ fnRes (F' (rho0 N ds)) = ok d) : FnD P w K mg base (k + 1) f fd ps F := by
  obtain ⟨oc, od, kV, doc, pm, an, cdv, ct, osl, rfl, lk, hcd⟩ := Fu.ex
  refine fn_of lk hcd S (fun vs H Q E ⟨ds, i, hl, _⟩ => hl) fun A outer s H vs Q E hr hsp => ?_
  obtain ⟨F', hF, hq⟩ := hbody cdv A outer s H E hr
  refine ⟨_, (hF H).nox, ?_⟩
  obtain ⟨ds, i, hl, h⟩ := hsp
  have hn : ps.length ≤ N.length := by have := congrArg List.length S.pre; rw [List.length_take] at this; omega
  cases q : F ds with
  | none => rw [q] at h; exact False.elim h
  | some r =>
    rw [q] at h
    obtain ⟨d, rfl, e⟩ := hq ds r q
    refine ⟨rho0 N ds, rel_start i (by rw [i.length, hl]; exact hn), ?_⟩
    cases qf : F' (rho0 N ds) with
    | none => rw [qf] at e; cases e
    | some o =>
      rw [qf] at e
      cases o with
      | rt d' => have := ok_inj e; subst this; exact fun v H' s' i' => h v H' s' i'
      | nx ρ => have := ok_inj e; subst this; exact fun σ' H' r' => h _ H' r'.kept .non
      | bk ρ => cases e
      | ct ρ => cases e
      | ex c ρ => cases e
/-- __init__: the first slot is the instance -/
def rhoI (N : List Str) (a C dx : Addr) (ds : List D) : Rho := some (.oin a C dx []) :: (ds.map (fun d => some (.sh d)) ++ List.replicate (N.length - (ds.length + 1)) none)
theorem rel_startI {H : Hp} {N : List Str} {a C dx : Addr} {ds : List D} {vs : List V} (ha : H a = some (.ins C dx [])) (hd : dx ≠ a) (i : IsL K (hid H a) ds vs) (hl : ds.length + 1 ≤ N.length) : Rel K (hid H a) (rhoI N a C dx ds) (start N (.ref a :: vs)) H := by
  have e0 : Off H (fun j => if j = 0 then some a else none) = hid H a := by
    funext b; unfold Off hid
    by_cases q : b = a
    · rw [if_pos q, if_pos ⟨0, by simp [q]⟩]
    · rw [if_neg q, if_neg]
      rintro ⟨j, e⟩
      dsimp only at e
      split at e
      · cases e; exact q rfl
      · cases e
  refine ⟨fun j => if j = 0 then some a else none, fun j k b q1 q2 => ?_, fun j b q => ?_, by rw [e0]; exact Same.refl _, ?_, fun j sv q => ?_⟩
  · by_cases z1 : j = 0
    · by_cases z2 : k = 0
      · omega
      · simp [z2] at q2
    · simp [z1] at q1
  · by_cases z1 : j = 0
    · simp [z1] at q; subst q; exact .inr ⟨C, dx, [], ha⟩
    · simp [z1] at q
  · rw [start_length (by rw [List.length_cons, ← i.length]; exact hl)]
    unfold rhoI
    rw [List.length_cons, List.length_append, List.length_map, List.length_replicate]
    omega
  · cases j with
    | zero =>
      unfold rhoI at q
      cases q
      exact ⟨rfl, start_get rfl, hd, [], ha, .nil⟩
    | succ j =>
      unfold rhoI at q
      rw [List.getElem?_cons_succ] at q
      rcases get_append_map q with ⟨d, e1, e2⟩ | ⟨_, e2⟩
      · cases e2
        obtain ⟨v, h1, h2⟩ := i.get e1
        exact ⟨v, start_get (by rw [List.getElem?_cons_succ]; exact h1), by rw [e0]; exact h2⟩
      · rw [List.getElem?_replicate] at e2
        split at e2 <;> cases e2
def iniRes (a C dx : Addr) : Option Out → M (List (Str × D))
  | some (.nx (some (.oin a' C' dx' fs) :: _)) => if a' = a ∧ C' = C ∧ dx' = dx then ok fs else none
  | _ => none
theorem init_D {x qual : Str} {st : Stmt} {f C : Addr} {fd : FuncData} {N ps : List Str} {k : Nat} {F : List D → M (List (Str × D))} (Fu : Fun K x qual st f fd) (S : FnScope N ps (defScope st)) (hL : ∀ ds r, F ds = some r → ds.length + 1 = ps.length)
    (hbody : ∀ (cdv : Value) (A : Around) (outer : List Env) (s : Shared) (H : Hp) (E : XK), Room k (A.deeper (envOfC qual (defScope st) s.heap.objs.size f cdv)) →
      ∃ F', (∀ B, PDB (cxN P w K mg base N qual (defScope st) f cdv A outer s H E) B (defBody st) F') ∧ ∀ ds r a dx, F ds = some r → ∃ fs, r = .ok fs ∧ iniRes a C dx (F' (rhoI N a C dx ds)) = ok fs) : FnOk P w K mg base (CXD P w) (k + 1) f fd ps (spI K C ps.length F) := by
  obtain ⟨oc, od, kV, doc, pm, an, cdv, ct, osl, rfl, lk, hcd⟩ := Fu.ex
  refine fn_of lk hcd S (fun vs H Q E ⟨a, dx, ws, ds, _, _, _, _, hl, _⟩ => hl) fun A outer s H vs Q E hr hsp => ?_
  obtain ⟨F', hF, hq⟩ := hbody cdv A outer s H E hr
  obtain ⟨a, dx, ws, ds, rfl, ha, hd, i, hl, h⟩ := hsp
  refine ⟨_, (hF (hid H a)).nox, ?_⟩
  have hn : ps.length ≤ N.length := by have := congrArg List.length S.pre; rw [List.length_take] at this; omega
  cases q : F ds with
  | none => rw [q] at h; exact False.elim h
  | some r =>
    rw [q] at h
    obtain ⟨fs, rfl, e⟩ := hq ds r a dx q
    refine ⟨rhoI N a C dx ds, rel_startI ha hd i (by rw [i.length]; rw [List.length_cons] at hl; omega), ?_⟩
    unfold iniRes at e
    split at e
    · rename_i a' C' dx' fs' rest qf
      split at e
      · rename_i hh
        obtain ⟨rfl, rfl, rfl⟩ := hh
        have := ok_inj e; subst this
        rw [qf]
        intro σ' H' r'
        obtain ⟨O, g1, go, g2, gl, g3⟩ := r'
        obtain ⟨z1, z2, z3, vs', z4, z5⟩ := g3 0 _ rfl
        exact h H' vs' z4 (z5.mono (Off.same _ _)) (g2.trans (Off.same _ _))
      · cases e
    · cases e
end
end L2.PU

set_option Elab.async false
set_option linter.all false
set_option maxRecDepth 100000
set_option maxHeartbeats 4000000
namespace L2.PU
open PySem PySem.Spec PyProof.Rows

/-! ### running a denotation -/
theorem sSeq_nx {F G : Rho → Option Out} {ρ ρ' : Rho} (h : F ρ = some (.nx ρ')) : sSeq F G ρ = G ρ' := by unfold sSeq; rw [h]
theorem sSeq_rt {F G : Rho → Option Out} {ρ : Rho} {d : D} (h : F ρ = some (.rt d)) : sSeq F G ρ = some (.rt d) := by unfold sSeq; rw [h]
theorem sIf_t {t : Rho → M Bool} {F G : Rho → Option Out} {ρ : Rho} (h : t ρ = ok true) : sIf t F G ρ = F ρ := by unfold sIf; rw [h]; rfl
theorem sIf_f {t : Rho → M Bool} {F G : Rho → Option Out} {ρ : Rho} (h : t ρ = ok false) : sIf t F G ρ = G ρ := by unfold sIf; rw [h]; rfl
theorem sRet_ok {f : Rho → M D} {ρ : Rho} {d : D} (h : f ρ = ok d) : sRet f ρ = some (.rt d) := by unfold sRet; rw [h]; rfl
theorem sSet_ok {i : Nat} {f : Rho → M D} {ρ : Rho} {d : D} (h : f ρ = ok d) : sSet i f ρ = some (.nx (setV i d ρ)) := by unfold sSet; rw [h]; rfl
theorem setV_imm {i : Nat} {d : D} {ρ : Rho} (h : d.imm = true) : setV i d ρ = ρ.set i (some (.sh d)) := by unfold setV; rw [if_pos h]
theorem sForR1_ok {f : Rho → M D} {G : D → Rho → Option Rho} {F : Rho → Option Out} {ρ : Rho} {j : Int} (h : f ρ = ok (.int j)) (h1 : j < 2 ^ 62) (h2 : -(2 ^ 62) ≤ j) : sForR1 f G F ρ = loop G F (rng 0 j.toNat) ρ := by
  unfold sForR1
  rw [h, lft_ok]
  dsimp only
  rw [if_pos ⟨h1, h2⟩]
theorem sForE_ok {f : Rho → M D} {G : D → Rho → Option Rho} {F : Rho → Option Out} {ρ : Rho} {d : D} {ds : List D} (h : f ρ = ok d) (h1 : itD d = ok ds) : sForE f G F ρ = loop G F ds (if d.imm = true then ρ else free ρ) := by
  unfold sForE
  rw [h, lft_ok, h1]
  rfl
theorem loop_inv {G : D → Rho → Option Rho} {F : Rho → Option Out} (P : List D → Rho → Prop) : ∀ (ds pre : List D) (ρ : Rho), P pre ρ →
    (∀ p d q ρ, pre ++ ds = p ++ d :: q → P p ρ → ∃ ρ1 ρ2, G d ρ = some ρ1 ∧ (F ρ1 = some (.nx ρ2) ∨ F ρ1 = some (.ct ρ2)) ∧ P (p ++ [d]) ρ2) → ∃ ρ', loop G F ds ρ = some (.nx ρ') ∧ P (pre ++ ds) ρ'
  | [], pre, ρ, h, _ => ⟨ρ, rfl, by rw [List.append_nil]; exact h⟩
  | d :: ds, pre, ρ, h, st => by
    obtain ⟨ρ1, ρ2, h1, h2, h3⟩ := st pre d ds ρ rfl h
    obtain ⟨ρ', h4, h5⟩ := loop_inv P ds (pre ++ [d]) ρ2 h3 (fun p d' q ρ e hp => st p d' q ρ (by rw [← e, List.append_assoc]; rfl) hp)
    refine ⟨ρ', ?_, by rw [List.append_assoc] at h5; exact h5⟩
    unfold loop
    rw [h1]
    dsimp only
    rcases h2 with h2 | h2 <;> rw [h2] <;> exact h4
theorem loop_inv0 {G : D → Rho → Option Rho} {F : Rho → Option Out} (P : List D → Rho → Prop) (ds : List D) (ρ : Rho) (h : P [] ρ)
    (st : ∀ p d q ρ, ds = p ++ d :: q → P p ρ → ∃ ρ1 ρ2, G d ρ = some ρ1 ∧ (F ρ1 = some (.nx ρ2) ∨ F ρ1 = some (.ct ρ2)) ∧ P (p ++ [d]) ρ2) : ∃ ρ', loop G F ds ρ = some (.nx ρ') ∧ P ds ρ' := by
  have := loop_inv P ds [] ρ h (fun p d q ρ e => st p d q ρ (by simpa using e))
  simpa using this

/-! ### depth, plainness -/
mutual
def D.dep : D → Nat
  | .tup ds => depL ds + 1
  | .lst ds => depL ds + 1
  | _ => 0
def depL : List D → Nat
  | [] => 0
  | d :: ds => max d.dep (depL ds)
end
mutual
def D.pl : D → Bool
  | .tup ds => decide (ds.length ≤ 100000) && plL ds
  | .lst ds => decide (ds.length ≤ 100000) && plL ds
  | .obj _ _ => false
  | .dk _ => false
  | .dt _ => false
  | .exc _ => false
  | .set _ => false
  | _ => true
def plL : List D → Bool
  | [] => true
  | d :: ds => d.pl && plL ds
end
theorem dep_at : ∀ {ds : List D} {i : Nat} {d : D}, ds[i]? = some d → d.dep ≤ depL ds
  | [], _, _, h => by simp at h
  | x :: ds, 0, d, h => by simp at h; subst h; unfold depL; omega
  | x :: ds, i + 1, d, h => by have := dep_at (ds := ds) (i := i) (d := d) (by simpa using h); unfold depL; omega
theorem pl_at : ∀ {ds : List D} {i : Nat} {d : D}, plL ds = true → ds[i]? = some d → d.pl = true
  | [], _, _, _, h => by simp at h
  | x :: ds, 0, d, q, h => by simp at h; subst h; unfold plL at q; rw [Bool.and_eq_true] at q; exact q.1
  | x :: ds, i + 1, d, q, h => by unfold plL at q; rw [Bool.and_eq_true] at q; exact pl_at (ds := ds) (i := i) q.2 (by simpa using h)

/-! ### the laws' own comparison: of a thing with itself -/
def denSame (F : List D → M D) : Rho → Option Out :=
    (sSeq (sIf (orB (testB (b2 gNe (isi "tuple" (look 1)) (isi "tuple" (look 0)))) (testB (b2 gNe (isi "list" (look 1)) (isi "list" (look 0))))) (sSeq (sRet (con (.bl false)))
    sNil) sNil)
    (sSeq (sIf (test (isi2 ["tuple", "list"] (look 1))) (sSeq (sIf (testB (b2 gNe (f1 lenD (look 0)) (f1 lenD (look 1)))) (sSeq (sRet (con (.bl false)))
    sNil) sNil)
    (sSeq (sForR1 (f1 lenD (look 1)) (gN 2) (sSeq (sIf (notB (test (app F (aCons (b2 gIx (look 0) (look 2)) (aCons (b2 gIx (look 1) (look 2)) aNil))))) (sSeq (sRet (con (.bl false)))
    sNil) sNil)
    sNil))
    (sSeq (sRet (con (.bl true)))
    sNil))) sNil)
    (sSeq (sIf (testB (b2 gIs (look 1) (con .non))) (sSeq (sRet (b2 gIs (look 0) (con .non)))
    sNil) sNil)
    (sSeq (sIf (orB (testB (b2 gNe (isi "bool" (look 1)) (isi "bool" (look 0)))) (testB (b2 gNe (isi "str" (look 1)) (isi "str" (look 0))))) (sSeq (sRet (con (.bl false)))
    sNil) sNil)
    (sSeq (sRet (andV (b2 gEq (isi "int" (look 1)) (isi "int" (look 0))) (b2 gEq (look 0) (look 1))))
    sNil)))))
open Classical in
noncomputable def fSame (k : Nat) : List D → M D
  | [x, y] => if x = y ∧ x.pl = true ∧ x.dep < k then ok (.bl true) else none
  | _ => none
theorem fSame_len (k : Nat) : ∀ ds r, fSame k ds = some r → ds.length = 2 := by
  intro ds r h
  unfold fSame at h
  split at h
  · rfl
  · cases h
open Classical in
theorem fSame_self {k : Nat} {x : D} (h1 : x.pl = true) (h2 : x.dep < k) : fSame k [x, x] = ok (.bl true) := by
  show (if x = x ∧ x.pl = true ∧ x.dep < k then ok (D.bl true) else none) = _
  rw [if_pos ⟨rfl, h1, h2⟩]
theorem fSame_zero (ds : List D) : fSame 0 ds = none := by
  unfold fSame
  split
  · rw [if_neg]; rintro ⟨_, _, h⟩; omega
  · rfl
/-- the loop over the places of a sequence -/
theorem same_loop {k : Nat} {x : D} {xs : List D} (hx : x = .tup xs ∨ x = .lst xs) (hp : plL xs = true) (hd : depL xs < k) (o : Option SV) :
    ∃ o', loop (gN 2) (sSeq (sIf (notB (test (app (fSame k) (aCons (b2 gIx (look 0) (look 2)) (aCons (b2 gIx (look 1) (look 2)) aNil))))) (sSeq (sRet (con (.bl false))) sNil) sNil) sNil) (rng 0 xs.length) [some (.sh x), some (.sh x), o] = some (.nx [some (.sh x), some (.sh x), o']) := by
  obtain ⟨ρ', h1, o', h2⟩ := loop_inv0 (G := gN 2) (F := sSeq (sIf (notB (test (app (fSame k) (aCons (b2 gIx (look 0) (look 2)) (aCons (b2 gIx (look 1) (look 2)) aNil))))) (sSeq (sRet (con (.bl false))) sNil) sNil) sNil)
    (fun _ ρ => ∃ o', ρ = [some (.sh x), some (.sh x), o']) (rng 0 xs.length) [some (.sh x), some (.sh x), o] ⟨o, rfl⟩ (fun p d q ρ e ⟨o1, eρ⟩ => by
      subst eρ
      have hm : d ∈ rng 0 xs.length := by rw [e]; simp
      unfold rng at hm
      obtain ⟨j, hj, rfl⟩ := List.mem_map.mp hm
      rw [List.mem_range] at hj
      have hz : xs[j]? = some xs[j] := List.getElem?_eq_getElem hj
      have ha : atI xs (0 + (j : Int)) = some xs[j] := by rw [Int.zero_add]; exact atI_nat hz
      have g1 : gIx x (.int (0 + (j : Int))) = ok xs[j] := by
        rcases hx with rfl | rfl
        · show (match atI xs (0 + (j : Int)) with | some d => ok d | none => none) = _; rw [ha]
        · show (match atI xs (0 + (j : Int)) with | some d => ok d | none => none) = _; rw [ha]
      have f1 : fSame k [xs[j], xs[j]] = ok (.bl true) := fSame_self (pl_at hp hz) (Nat.lt_of_le_of_lt (dep_at hz) hd)
      refine ⟨[some (.sh x), some (.sh x), some (.sh (.int (0 + (j : Int))))], [some (.sh x), some (.sh x), some (.sh (.int (0 + (j : Int))))], rfl, .inl ?_, _, rfl⟩
      have e1 : app (fSame k) (aCons (b2 gIx (look 0) (look 2)) (aCons (b2 gIx (look 1) (look 2)) aNil)) [some (.sh x), some (.sh x), some (.sh (.int (0 + (j : Int))))] = ok (.bl true) := by
        show bnd (bnd (gIx x (.int (0 + (j : Int)))) fun a => bnd (bnd (bnd (ok x) fun x' => bnd (ok (.int (0 + (j : Int)))) fun y => gIx x' y) fun b => bnd (ok []) fun r => ok (b :: r)) fun r => ok (a :: r)) (fSame k) = _
        rw [g1]
        show bnd (bnd (bnd (gIx x (.int (0 + (j : Int)))) fun b => ok [b]) fun r => ok (xs[j] :: r)) (fSame k) = _
        rw [g1]
        exact f1
      show sSeq (sIf (notB (test _)) _ _) _ _ = _
      unfold sSeq sIf notB test
      rw [e1]
      rfl)
  exact ⟨o', by rw [h1, h2]⟩
theorem same_seq {k : Nat} {x : D} {xs : List D} (hx : x = .tup xs ∨ x = .lst xs) (hl : xs.length ≤ 100000) (hp : plL xs = true) (hd : depL xs < k) : fnRes (denSame (fSame k) [some (.sh x), some (.sh x), none]) = ok (.bl true) := by
  obtain ⟨o', h⟩ := same_loop hx hp hd none
  have hj : ((xs.length : Nat) : Int) < 2 ^ 62 ∧ -(2 ^ 62) ≤ ((xs.length : Nat) : Int) := by omega
  have e : sForR1 (f1 lenD (look 1)) (gN 2) (sSeq (sIf (notB (test (app (fSame k) (aCons (b2 gIx (look 0) (look 2)) (aCons (b2 gIx (look 1) (look 2)) aNil))))) (sSeq (sRet (con (.bl false))) sNil) sNil) sNil) [some (.sh x), some (.sh x), none] = some (.nx [some (.sh x), some (.sh x), o']) := by
    have e1 : f1 lenD (look 1) [some (.sh x), some (.sh x), none] = ok (.int xs.length) := by rcases hx with rfl | rfl <;> rfl
    rw [sForR1_ok e1 hj.1 hj.2, Int.toNat_natCast]
    exact h
  have d1 : sIf (orB (testB (b2 gNe (isi "tuple" (look 1)) (isi "tuple" (look 0)))) (testB (b2 gNe (isi "list" (look 1)) (isi "list" (look 0))))) (sSeq (sRet (con (.bl false))) sNil) sNil [some (.sh x), some (.sh x), none] = some (.nx [some (.sh x), some (.sh x), none]) := by
    rcases hx with rfl | rfl <;> rfl
  have d3 : sIf (testB (b2 gNe (f1 lenD (look 0)) (f1 lenD (look 1)))) (sSeq (sRet (con (.bl false))) sNil) sNil [some (.sh x), some (.sh x), none] = some (.nx [some (.sh x), some (.sh x), none]) := by
    rcases hx with rfl | rfl <;> simp [sIf, testB, b2, f1, lenD, look, gNe, eqF, bnd, ok, lft, blOf, SV.cur, sNil]
  have d4 : test (isi2 ["tuple", "list"] (look 1)) [some (.sh x), some (.sh x), none] = ok true := by rcases hx with rfl | rfl <;> rfl
  unfold denSame
  rw [sSeq_nx d1]
  have d5 : ∀ G, sSeq (sIf (test (isi2 ["tuple", "list"] (look 1))) (sSeq (sIf (testB (b2 gNe (f1 lenD (look 0)) (f1 lenD (look 1)))) (sSeq (sRet (con (.bl false))) sNil) sNil) (sSeq (sForR1 (f1 lenD (look 1)) (gN 2) (sSeq (sIf (notB (test (app (fSame k) (aCons (b2 gIx (look 0) (look 2)) (aCons (b2 gIx (look 1) (look 2)) aNil))))) (sSeq (sRet (con (.bl false))) sNil) sNil) sNil)) (sSeq (sRet (con (.bl true))) sNil))) sNil) G [some (.sh x), some (.sh x), none] = some (.rt (.bl true)) := by
    intro G
    apply sSeq_rt
    rw [sIf_t d4, sSeq_nx d3, sSeq_nx e]
    rfl
  rw [d5]
  rfl
theorem same_den {k : Nat} (N : List Str) (hN : N.length = 3) : ∀ ds r, fSame (k + 1) ds = some r → ∃ d, r = .ok d ∧ fnRes (denSame (fSame k) (rho0 N ds)) = ok d := by
  intro ds r h
  unfold fSame at h
  split at h
  · rename_i x y
    split at h
    · rename_i hh
      obtain ⟨rfl, hp, hd⟩ := hh
      have e := Option.some.inj h
      subst e
      refine ⟨.bl true, rfl, ?_⟩
      have e0 : rho0 N [x, x] = [some (.sh x), some (.sh x), none] := by unfold rho0; rw [hN]; rfl
      rw [e0]
      cases x with
      | non => rfl
      | bl b => cases b <;> rfl
      | int i =>
        simp [denSame, sSeq, sIf, sRet, testB, b2, gNe, gIs, gEq, eqF, isi, isi2, look, lft, bnd, orB, andV, blOf, test, tru, tyN, isB, kitL, fnRes, SV.cur, ok, con, isNon, sNil]
      | str i =>
        simp [denSame, sSeq, sIf, sRet, testB, b2, gNe, gIs, gEq, eqF, isi, isi2, look, lft, bnd, orB, andV, blOf, test, tru, tyN, isB, kitL, fnRes, SV.cur, ok, con, isNon, sNil]
      | obj C fs => simp [D.pl] at hp
      | dk kvs => simp [D.pl] at hp
      | dt kvs => simp [D.pl] at hp
      | exc C => simp [D.pl] at hp
      | set ss => simp [D.pl] at hp
      | tup xs =>
        simp only [D.pl, Bool.and_eq_true, decide_eq_true_eq] at hp
        exact same_seq (.inl rfl) hp.1 hp.2 (by simp only [D.dep] at hd; omega)
      | lst xs =>
        simp only [D.pl, Bool.and_eq_true, decide_eq_true_eq] at hp
        exact same_seq (.inr rfl) hp.1 hp.2 (by simp only [D.dep] at hd; omega)
    · cases h
  · cases h
end L2.PU
namespace L2.PU
open PySem PySem.Spec PyProof.Rows
open Classical in
/-- a def that gives True wherever S holds (elsewhere nothing is said) -/
noncomputable def tt (S : List D → Prop) : List D → M D := fun ds => if S ds then ok (.bl true) else none
theorem tt_ok {S : List D → Prop} {ds : List D} (h : S ds) : tt S ds = ok (.bl true) := by unfold tt; rw [if_pos h]
theorem tt_inv {S : List D → Prop} {ds : List D} {r : Except Addr D} (h : tt S ds = some r) : S ds ∧ r = .ok (.bl true) := by
  unfold tt at h
  split at h
  · rename_i q; exact ⟨q, (Option.some.inj h).symm⟩
  · cases h
theorem intBits_le {a : Int} {k : Nat} (h : a.natAbs < 2 ^ k) : Builtin.Int.intBits a ≤ k := by
  unfold Builtin.Int.intBits
  split
  · exact Nat.zero_le _
  · rename_i q
    have hz : a.natAbs ≠ 0 := by intro z; apply q; simp_all
    have := (Nat.log2_lt hz).mpr h
    omega
theorem mulB_of {i j : Int} (hi : i.natAbs < 2 ^ 1048576) (hj : j.natAbs < 2 ^ 1048576) : mulB i j = true := by
  unfold mulB
  rw [Bool.and_eq_true]
  exact ⟨decide_eq_true (intBits_le hi), decide_eq_true (intBits_le hj)⟩
theorem pow_line {n m k : Nat} (h : n < 2 ^ m) (q : m ≤ k) : n < 2 ^ k := Nat.lt_of_lt_of_le h (Nat.pow_le_pow_right (by decide) q)
/-- _law_at(script, k) -/
def fAt : List D → M D
  | [.lst xs, .int k] => if 0 ≤ k then (if k < xs.length then (match xs[k.toNat]? with | some d => ok d | none => none) else ok (.int 0)) else none
  | _ => none
theorem fAt_len : ∀ ds r, fAt ds = some r → ds.length = 2 := by
  intro ds r h
  unfold fAt at h
  split at h
  · rfl
  · cases h
def atZ (ns : List Int) (k : Nat) : Int := ns.getD k 0
theorem fAt_ints (ns : List Int) (k : Nat) : fAt [.lst (ns.map D.int), .int k] = ok (.int (atZ ns k)) := by
  show (if 0 ≤ (k : Int) then (if (k : Int) < (ns.map D.int).length then (match (ns.map D.int)[((k : Int)).toNat]? with | some d => ok d | none => none) else ok (.int 0)) else none) = _
  rw [if_pos (by omega), Int.toNat_natCast, List.length_map]
  unfold atZ
  by_cases h : k < ns.length
  · rw [if_pos (by omega), List.getElem?_map, List.getElem?_eq_getElem h]
    simp [List.getD_eq_getElem?_getD, List.getElem?_eq_getElem h]
  · rw [if_neg (by omega)]
    simp [List.getD_eq_getElem?_getD, List.getElem?_eq_none (Nat.le_of_not_lt h)]
def denAt : Rho → Option Out :=
    (sSeq (sIf (testB (b2 gLt (look 1) (f1 lenD (look 0)))) (sSeq (sRet (b2 gIx (look 0) (look 1)))
    sNil) sNil)
    (sSeq (sRet (con (.int 0)))
    sNil))
theorem at_den (N : List Str) (hN : N.length = 2) : ∀ ds r, fAt ds = some r → ∃ d, r = .ok d ∧ fnRes (denAt (rho0 N ds)) = ok d := by
  intro ds r h
  unfold fAt at h
  split at h
  · rename_i xs k
    have e0 : rho0 N [.lst xs, .int k] = [some (.sh (.lst xs)), some (.sh (.int k))] := by unfold rho0; rw [hN]; rfl
    rw [e0]
    split at h
    · rename_i h0
      split at h
      · rename_i hk
        split at h
        · rename_i d hd
          cases h
          refine ⟨d, rfl, ?_⟩
          have t1 : testB (b2 gLt (look 1) (f1 lenD (look 0))) [some (.sh (.lst xs)), some (.sh (.int k))] = ok true := by
            show ok (decide (k < (xs.length : Int))) = ok true
            rw [decide_eq_true hk]
          have t2 : b2 gIx (look 0) (look 1) [some (.sh (.lst xs)), some (.sh (.int k))] = ok d := by
            show (match atI xs k with | some d => ok d | none => none) = ok d
            have e : k = ((k.toNat : Nat) : Int) := by omega
            have : atI xs k = some d := by rw [e]; exact atI_nat hd
            rw [this]
          unfold denAt
          rw [sSeq_rt (d := d)]
          · rfl
          · rw [sIf_t t1, sSeq_rt (sRet_ok t2)]
        · cases h
      · rename_i hk
        cases h
        refine ⟨_, rfl, ?_⟩
        have t1 : testB (b2 gLt (look 1) (f1 lenD (look 0))) [some (.sh (.lst xs)), some (.sh (.int k))] = ok false := by
          show ok (decide (k < (xs.length : Int))) = ok false
          rw [decide_eq_false hk]
        unfold denAt
        rw [sSeq_nx (ρ' := [some (.sh (.lst xs)), some (.sh (.int k))])]
        · rfl
        · rw [sIf_f t1]; rfl
    · cases h
  · cases h
end L2.PU
namespace L2.PU
open PySem PySem.Spec PyProof.Rows
theorem appM_ok {m : Str} {FM : Addr → Option (List D → M D)} {fo : Rho → M D} {g : Rho → M (List D)} {ρ : Rho} {C : Addr} {fs : List (Str × D)} {F : List D → M D} {ds : List D} (h1 : fo ρ = ok (.obj C fs)) (h2 : FM C = some F) (h3 : fs.lookup m = none) (h4 : g ρ = ok ds) :
    appM m FM fo g ρ = F (.obj C fs :: ds) := by
  unfold appM
  rw [h1, bnd_ok]
  dsimp only
  rw [h2, h3]
  dsimp only
  rw [h4, bnd_ok]
theorem fld_ok {cs : Addr → Bool} {f : Str} {fo : Rho → M D} {ρ : Rho} {C : Addr} {fs : List (Str × D)} {d : D} (h1 : fo ρ = ok (.obj C fs)) (h2 : cs C = true) (h3 : fs.lookup f = some d) : fld cs f fo ρ = ok d := by
  unfold fld
  rw [h1, bnd_ok]
  dsimp only
  rw [if_pos h2, h3]
theorem app_ok {F : List D → M D} {g : Rho → M (List D)} {ρ : Rho} {ds : List D} (h : g ρ = ok ds) : app F g ρ = F ds := by
  unfold app; rw [h, bnd_ok]
theorem aCons_ok {f : Rho → M D} {g : Rho → M (List D)} {ρ : Rho} {d : D} {ds : List D} (h1 : f ρ = ok d) (h2 : g ρ = ok ds) : aCons f g ρ = ok (d :: ds) := by
  unfold aCons; rw [h1, bnd_ok, h2, bnd_ok]
theorem aNil_ok {ρ : Rho} : aNil ρ = ok [] := rfl
theorem mkT_ok {g : Rho → M (List D)} {ρ : Rho} {ds : List D} (h : g ρ = ok ds) (hl : ds.length ≤ 1000 := by simp) : mkT g ρ = ok (.tup ds) := by
  unfold mkT; rw [h, bnd_ok, if_pos hl]
theorem mkL_ok {g : Rho → M (List D)} {ρ : Rho} {ds : List D} (h : g ρ = ok ds) (hl : ds.length ≤ 1000 := by simp) : mkL g ρ = ok (.lst ds) := by
  unfold mkL; rw [h, bnd_ok, if_pos hl]
theorem b2_ok {g : D → D → M D} {fa fb : Rho → M D} {ρ : Rho} {x y : D} {r : M D} (h1 : fa ρ = ok x) (h2 : fb ρ = ok y) (h3 : g x y = r) : b2 g fa fb ρ = r := by
  unfold b2; rw [h1, bnd_ok, h2, bnd_ok, h3]
theorem test_ok {f : Rho → M D} {ρ : Rho} {d : D} {b : Bool} (h : f ρ = ok d) (q : tru d = ok b) : test f ρ = ok b := by unfold test; rw [h, bnd_ok, q]
theorem testB_ok {f : Rho → M D} {ρ : Rho} {b : Bool} (h : f ρ = ok (.bl b)) : testB f ρ = ok b := by unfold testB; rw [h, bnd_ok]; rfl
theorem notB_ok {f : Rho → M Bool} {ρ : Rho} {b : Bool} (h : f ρ = ok b) : notB f ρ = ok (!b) := by unfold notB; rw [h, bnd_ok]
/-- if not f(..): return False, where f gives True -/
theorem pass_not {f : Rho → M D} {F : Rho → Option Out} {ρ : Rho} (h : f ρ = ok (.bl true)) : sIf (notB (test f)) F sNil ρ = some (.nx ρ) := by
  rw [sIf_f (notB_ok (test_ok h rfl))]; rfl
end L2.PU
namespace L2.PU
open PySem PySem.Spec PyProof.Rows
/-- nothing is said: nothing is to be shown -/
theorem fn_none {P : Program} {w : World} {K : PySem.W.Frag} {mg : Str → Option Value} {base : Heap} {k : Nat} {f : Addr} {fd : FuncData} {ps : List Str} {F : List D → M D} (h : ∀ ds, F ds = none) : FnD P w K mg base k f fd ps F := by
  have no : ∀ vs H Q E, ¬ spD K ps.length F vs H Q E := fun vs H Q E ⟨ds, _, _, q⟩ => by rw [h ds] at q; exact q
  exact ⟨fun vs H Q E q => absurd q (no vs H Q E), fun A outer s H args us vs Q E _ _ _ _ q => absurd q (no vs H Q E)⟩
end L2.PU

set_option Elab.async false
set_option linter.all false
set_option maxRecDepth 100000
set_option maxHeartbeats 4000000
namespace L2.PU
open PySem PySem.Spec PyProof.Rows
def num (c : Int) : Int := if c % 3 = 0 then c / 3 % 4 else if c % 3 = 1 then c / 3 % 100000000000000000000 * 1000000000000000000000000000000000000000 + c % 7 else c / 3 % 1000000000000000000000000000000000000000000000000000000000000
theorem num_lo (c : Int) : 0 ≤ num c ∧ num c < 1000000000000000000000000000000000000000000000000000000000000 := by
  unfold num
  split
  · omega
  · split <;> omega
def fNumber : List D → M D
  | [.int c] => ok (.int (num c))
  | _ => none
theorem p20 : (10 : Int) ^ (20 : Int).toNat = 100000000000000000000 := by decide
theorem p39 : (10 : Int) ^ (39 : Int).toNat = 1000000000000000000000000000000000000000 := by decide
theorem p60 : (10 : Int) ^ (60 : Int).toNat = 1000000000000000000000000000000000000000000000000000000000000 := by decide
theorem mul_small {i j : Int} (h1 : 0 ≤ i) (h2 : i < 1000000000000000000000000000000000000000000000000000000000000) (h3 : 0 ≤ j) (h4 : j < 1000000000000000000000000000000000000000000000000000000000000) : mulB i j = true := by
  have q : ∀ z : Int, 0 ≤ z → z < 1000000000000000000000000000000000000000000000000000000000000 → z.natAbs < 2 ^ 1048576 := fun z a b => pow_line (m := 200) (by omega) (by decide)
  exact mulB_of (q i h1 h2) (q j h3 h4)
def denNumber : Rho → Option Out :=
    (sSeq (sIf (testB (b2 gEq (b2 gMod (look 0) (con (.int 3))) (con (.int 0)))) (sSeq (sRet (b2 gMod (b2 gFdiv (look 0) (con (.int 3))) (con (.int 4))))
    sNil) sNil)
    (sSeq (sIf (testB (b2 gEq (b2 gMod (look 0) (con (.int 3))) (con (.int 1)))) (sSeq (sRet (b2 gAdd (b2 gMul (b2 gMod (b2 gFdiv (look 0) (con (.int 3))) (b2 gPow (con (.int 10)) (con (.int 20)))) (b2 gPow (con (.int 10)) (con (.int 39)))) (b2 gMod (look 0) (con (.int 7)))))
    sNil) sNil)
    (sSeq (sRet (b2 gMod (b2 gFdiv (look 0) (con (.int 3))) (b2 gPow (con (.int 10)) (con (.int 60)))))
    sNil)))
theorem fNumber_len : ∀ ds r, fNumber ds = some r → ds.length = 1 := by
  intro ds r h
  unfold fNumber at h
  split at h
  · rfl
  · cases h
theorem number_den (N : List Str) (hN : N.length = 1) : ∀ ds r, fNumber ds = some r → ∃ d, r = .ok d ∧ fnRes (denNumber (rho0 N ds)) = ok d := by
  intro ds r h
  unfold fNumber at h
  split at h
  · rename_i c
    cases h
    refine ⟨_, rfl, ?_⟩
    have e0 : rho0 N [.int c] = [some (.sh (.int c))] := by unfold rho0; rw [hN]; rfl
    rw [e0]
    have q := num_lo c
    unfold num at q ⊢
    by_cases h0 : c % 3 = 0
    · rw [if_pos h0]
      simp [denNumber, sSeq, sIf, sRet, testB, b2, look, con, bnd, ok, lft, gMod, gFdiv, gEq, eqF, blOf, fnRes, SV.cur, h0]
    · rw [if_neg h0] at q ⊢
      by_cases h1 : c % 3 = 1
      · rw [if_pos h1] at q ⊢
        have hm : mulB (c / 3 % 100000000000000000000) 1000000000000000000000000000000000000000 = true := mul_small (by omega) (by omega) (by omega) (by omega)
        simp [denNumber, sSeq, sIf, sRet, testB, b2, look, con, bnd, ok, lft, gMod, gFdiv, gEq, eqF, blOf, fnRes, SV.cur, h0, h1, sNil, gPow, gMul, gAdd, hm]
      · rw [if_neg h1] at q ⊢
        simp [denNumber, sSeq, sIf, sRet, testB, b2, look, con, bnd, ok, lft, gMod, gFdiv, gEq, eqF, blOf, fnRes, SV.cur, h0, h1, sNil, gPow, gMul, gAdd]
  · cases h

end L2.PU

set_option Elab.async false
set_option linter.all false
set_option maxRecDepth 100000
set_option maxHeartbeats 4000000
namespace L2.PU
open PySem PySem.Spec PyProof.Rows

/-! ### [elt for target in iter if test] -/
/-- the context of the comprehension's block -/
abbrev cxC (X : Cx) (scope : Scope) (cl : List (Str × Addr)) (N : List Str) (C : Addr) (s₀ : Shared) (H₀ : Hp) (ex : List Addr) : Cx :=
  { X with env := compEnvC scope cl C X.env, N := N, s₀ := s₀, H₀ := H₀, outer := X.stack, ex := ex, fn := fun _ => false, pn := [], xe := fun _ _ => False }
def lkAll (cl : List (Str × Addr)) (env : Env) : Bool := cl.all fun p => (env.cells.lookup p.1 == some p.2) && (env.kindOf p.1 == some .cell || env.kindOf p.1 == some .free)
def nmAll (N N' : List Str) (sc : Scope) : Bool := (List.range N.length).all fun i => match N'[i]? with
  | some x => ((N[i]? == some x) && (sc.names.lookup x == some .cell || sc.names.lookup x == some .free)) || (sc.names.lookup x == none)
  | none => false
def frAll (cl : List (Str × Addr)) (sc : Scope) : Bool := sc.names.all fun p => (p.2 != .cell && p.2 != .free) || (cl.lookup p.1).isSome

theorem lookup_mem {α β : Type} [BEq α] [LawfulBEq α] : ∀ {l : List (α × β)} {x : α} {b : β}, l.lookup x = some b → (x, b) ∈ l
  | [], _, _, h => by simp at h
  | (y, c) :: l, x, b, h => by
    rw [List.lookup_cons] at h
    cases q : x == y with
    | true => rw [q] at h; simp at h; subst h; have := LawfulBEq.eq_of_beq q; subst this; exact List.mem_cons_self
    | false => rw [q] at h; exact List.mem_cons_of_mem _ (lookup_mem h)
theorem codeAny_compLoopG {prog : Program} {w : World} {A : Around} {R : Result → Shared → Prop} {s : Shared} {elt target iter : Expr} {ifs : List Expr} {scope : Scope} {pos : Pos} {it acc : Value} {env : Env} (I : Nat → Shared → Prop)
    (turn : ∀ n s, I n s → wpAny (model prog w) A (pyNext it) (fun r s₁ => match r with
      | none => R (.ok .next) s₁
      | some v => wpAny (model prog w) A (letOwnedTupleGo target it v) (fun _ s₁' => wpAny (model prog w) A (assign target env v) (fun _ s₂ =>
          wpAny (model prog w) A (forIn ifs true fun c r => if r = true then do let ok ← isTrue c env (eval c env); pure (ForInStep.yield ok) else pure (ForInStep.yield r)) (fun ok s₃ =>
            if ok = true then wpAny (model prog w) A (eval elt env) (fun x s₄ =>
              wpAny (model prog w) A (call (.builtin "list.append") [acc, x]) (fun _ s₅ => ∃ m, m < n ∧ I m s₅) (fun _ _ => False) s₄) (fun _ _ => False) s₃
            else ∃ m, m < n ∧ I m s₃) (fun _ _ => False) s₂) (fun _ _ => False) s₁') (fun _ _ => False) s₁) (fun _ _ => False) s)
    (n : Nat) (h : I n s) : codeAny (model prog w) A (.compLoop (.ListComp elt [⟨target, iter, ifs, 0⟩] scope pos) 0 it acc env) R s := by
  refine codeAny_loop rfl I (fun n s hI => ?_) n h
  show wpAny _ A ((compTurn (.ListComp elt [⟨target, iter, ifs, 0⟩] scope pos) 0 it acc env).onRaise (fun x => do noteFrame x env; theTreesLotGoes x)) _ _ s
  refine wpAny_noted ?_
  rw [compTurn_list]
  refine wpAny_bind (wpAny_standAt (wpAny_bind (wpAny_mono (turn n s hI) (fun r s₁ h₁ => ?_) fun _ _ h' => h'.elim)))
  cases r with
  | none => exact wpAny_pure h₁
  | some v =>
    refine wpAny_bind (wpAny_mono h₁ (fun _ s₁' h₁' => ?_) fun _ _ h' => h'.elim)
    refine wpAny_bind (wpAny_mono h₁' (fun _ s₂ h₂ => wpAny_bind (wpAny_mono h₂ (fun ok s₃ h₃ => ?_) fun _ _ h' => h'.elim)) fun _ _ h' => h'.elim)
    cases ok with
    | false => exact wpAny_pure ⟨rfl, h₃⟩
    | true =>
      exact wpAny_bind (wpAny_bind (wpAny_mono h₃ (fun x s₄ h₄ => wpAny_bind (wpAny_mono h₄ (fun _ s₅ h₅ => wpAny_pure (wpAny_pure ⟨rfl, h₅⟩)) fun _ _ h' => h'.elim)) fun _ _ h' => h'.elim))

/-- the test of a clause: none, or one -/
def PIf (X : Cx) (B : Hp) (ifs : List Expr) (ft : Rho → M Bool) : Prop := (ifs = [] ∧ ft = fun _ => ok true) ∨ ∃ c, ifs = [c] ∧ PDT X B c ft
/-- the clause's names: where they stand, what they get -/
def setS (σ : St) : List Nat → List V → St
  | k :: ks, v :: vs => setS (σ.set k (some v)) ks vs
  | _, _ => σ
def setR (ρ : Rho) : List Nat → List D → Rho
  | k :: ks, d :: ds => setR (ρ.set k (some (.sh d))) ks ds
  | _, _ => ρ
def PDH (X : Cx) (tg : Expr) (ks : List Nat) (G : D → Option (List D)) : Prop :=
  PG X tg (fun v σ H Q => ∃ d es, Is X.K H d v ∧ G d = some es ∧ ∀ vs, IsL X.K H es vs → vs.length = ks.length → Q (setS σ ks vs) H)
def cmpL (ks : List Nat) (G : D → Option (List D)) (ft : Rho → M Bool) (fe : Rho → M D) : List D → Rho → M (List D)
  | [], _ => ok []
  | d :: ds, ρ => match G d with
    | none => none
    | some es => match ft (setR ρ ks es) with
      | some (.ok true) => (match fe (setR ρ ks es) with
        | some (.ok r) => if r.imm = true then bnd (cmpL ks G ft fe ds ρ) fun rs => ok (r :: rs) else none
        | _ => none)
      | some (.ok false) => cmpL ks G ft fe ds ρ
      | _ => none
def ext (m : Nat) (ρ : Rho) : Rho := ρ ++ List.replicate m none
/-- what the comprehension yields: it: the data that are walked -/
def cmp (m : Nat) (it : Rho → M (List D)) (ks : List Nat) (G : D → Option (List D)) (ft : Rho → M Bool) (fe : Rho → M D) : Rho → M D := fun ρ =>
  bnd (it ρ) fun ds => if ds.length ≤ 1000000 then bnd (cmpL ks G ft fe ds (ext m (free ρ))) fun rs => ok (.lst rs) else none
theorem cmpL_len {ks : List Nat} {G : D → Option (List D)} {ft : Rho → M Bool} {fe : Rho → M D} : ∀ {ds : List D} {ρ : Rho} {rs : List D}, cmpL ks G ft fe ds ρ = ok rs → rs.length ≤ ds.length
  | [], ρ, rs, h => by have := ok_inj h; subst this; simp
  | d :: ds, ρ, rs, h => by
    unfold cmpL at h
    split at h
    · cases h
    · split at h
      · split at h
        · split at h
          · obtain ⟨rs', e1, e2⟩ := bnd_eq_ok h
            have := ok_inj e2; subst this
            have := cmpL_len e1
            simp only [List.length_cons]; omega
          · cases h
        · cases h
      · have := cmpL_len h
        simp only [List.length_cons]; omega
      · cases h
theorem cmpL_noerr {ks : List Nat} {G : D → Option (List D)} {ft : Rho → M Bool} {fe : Rho → M D} : ∀ {ds : List D} {ρ : Rho} {c : Addr}, cmpL ks G ft fe ds ρ ≠ some (.error c)
  | [], ρ, c => fun h => by cases h
  | d :: ds, ρ, c => fun h => by
    unfold cmpL at h
    split at h
    · cases h
    · split at h
      · split at h
        · split at h
          · cases q : cmpL ks G ft fe ds ρ with
            | none => rw [q] at h; cases h
            | some z =>
              cases z with
              | error c' => exact cmpL_noerr q
              | ok z => rw [q] at h; cases h
          · cases h
        · cases h
      · exact cmpL_noerr h
      · cases h
theorem immL_append : ∀ (a b : List D), immL (a ++ b) = (immL a && immL b)
  | [], b => by simp [immL]
  | d :: a, b => by
    show (d.imm && immL (a ++ b)) = ((d.imm && immL a) && immL b)
    rw [immL_append a b, Bool.and_assoc]
theorem setS_length : ∀ {ks : List Nat} {σ : St} {vs : List V}, (setS σ ks vs).length = σ.length
  | [], σ, vs => by cases vs <;> rfl
  | k :: ks, σ, [] => rfl
  | k :: ks, σ, v :: vs => by
    show (setS (σ.set k (some v)) ks vs).length = _
    rw [setS_length, List.length_set]
theorem setR_length : ∀ {ks : List Nat} {ρ : Rho} {ds : List D}, (setR ρ ks ds).length = ρ.length
  | [], ρ, ds => by cases ds <;> rfl
  | k :: ks, ρ, [] => rfl
  | k :: ks, ρ, d :: ds => by
    show (setR (ρ.set k (some (.sh d))) ks ds).length = _
    rw [setR_length, List.length_set]
theorem setS_out : ∀ {ks : List Nat} {σ : St} {vs : List V} {i : Nat}, i ∉ ks → (setS σ ks vs)[i]? = σ[i]?
  | [], σ, vs, i, _ => by cases vs <;> rfl
  | k :: ks, σ, [], i, _ => rfl
  | k :: ks, σ, v :: vs, i, h => by
    show (setS (σ.set k (some v)) ks vs)[i]? = _
    rw [setS_out (fun z => h (List.mem_cons_of_mem _ z)), List.getElem?_set_ne (fun z => h (by rw [z]; exact List.mem_cons_self))]
/-- all slots shared: the data of ρ are borne by H -/
def Shr (K : PySem.W.Frag) (H : Hp) (ρ : Rho) (σ : St) : Prop := ρ.length = σ.length ∧ ∀ (i : Nat) (sv : SV), ρ[i]? = some (some sv) → ∃ d v, sv = .sh d ∧ σ[i]? = some (some v) ∧ Is K H d v
theorem Shr.rel {K : PySem.W.Frag} {H : Hp} {ρ : Rho} {σ : St} (h : Shr K H ρ σ) : Rel K H ρ σ H := by
  have e0 : Off H (fun _ => none) = H := by funext b; unfold Off; rw [if_neg (fun ⟨i, e⟩ => nomatch e)]
  refine ⟨fun _ => none, (by intro _ _ _ q; cases q), (by intro _ _ q; cases q), by rw [e0]; exact Same.refl _, h.1, fun i sv q => ?_⟩
  obtain ⟨d, v, rfl, e1, e2⟩ := h.2 i sv q
  exact ⟨v, e1, by rw [e0]; exact e2⟩
theorem Shr.mono {K : PySem.W.Frag} {H H' : Hp} {ρ : Rho} {σ : St} (e : Same H H') (h : Shr K H ρ σ) : Shr K H' ρ σ := ⟨h.1, fun i sv q => by
  obtain ⟨d, v, e0, e1, e2⟩ := h.2 i sv q
  exact ⟨d, v, e0, e1, e2.mono e⟩⟩
theorem Shr.free {K : PySem.W.Frag} {B H : Hp} {ρ : Rho} {σ : St} (r : Rel K B ρ σ H) : Shr K H (free ρ) σ := by
  refine ⟨?_, fun i sv q => ?_⟩
  · obtain ⟨_, _, _, _, hl, _⟩ := r.freed; exact hl
  · unfold PU.free at q
    rw [List.getElem?_map] at q
    obtain ⟨o, e1, e2⟩ := Option.map_eq_some_iff.mp q
    cases o with
    | none => cases e2
    | some sv0 =>
      have e2' : sv0.rel = sv := Option.some.inj e2
      subst e2'
      obtain ⟨v, e3, e4⟩ := r.get e1
      exact ⟨sv0.cur, v, by cases sv0 <;> rfl, e3, e4⟩
theorem Shr.more {K : PySem.W.Frag} {H : Hp} {ρ : Rho} {σ : St} (m : Nat) (h : Shr K H ρ σ) : Shr K H (ext m ρ) (σ ++ List.replicate m none) := by
  refine ⟨by unfold ext; simp [h.1], fun i sv e => ?_⟩
  have e' : ρ[i]? = some (some sv) := by
    unfold ext at e
    by_cases hi : i < ρ.length
    · rw [List.getElem?_append_left hi] at e; exact e
    · rw [List.getElem?_append_right (by omega), List.getElem?_replicate] at e
      split at e <;> cases e
  have hi : i < σ.length := by rw [← h.1]; exact (List.getElem?_eq_some_iff.mp e').1
  obtain ⟨d, v, e0, e1, e2⟩ := h.2 i sv e'
  exact ⟨d, v, e0, by rw [List.getElem?_append_left hi]; exact e1, e2⟩
theorem Shr.set {K : PySem.W.Frag} {H : Hp} {ρ : Rho} {σ : St} {k : Nat} {d : D} {v : V} (h : Shr K H ρ σ) (i : Is K H d v) : Shr K H (ρ.set k (some (.sh d))) (σ.set k (some v)) := by
  refine ⟨by rw [List.length_set, List.length_set, h.1], fun j sv e => ?_⟩
  by_cases q : j = k
  · subst q
    have hj : j < ρ.length := by
      have := (List.getElem?_eq_some_iff.mp e).1
      rwa [List.length_set] at this
    rw [List.getElem?_set_self hj] at e
    have e' := Option.some.inj (Option.some.inj e)
    exact ⟨d, v, e'.symm, List.getElem?_set_self (by rw [← h.1]; exact hj), i⟩
  · rw [List.getElem?_set_ne (Ne.symm q)] at e
    obtain ⟨d', v', e0, e1, e2⟩ := h.2 j sv e
    exact ⟨d', v', e0, by rw [List.getElem?_set_ne (Ne.symm q)]; exact e1, e2⟩
theorem Shr.setAll {K : PySem.W.Frag} {H : Hp} : ∀ {ks : List Nat} {ρ : Rho} {σ : St} {ds : List D} {vs : List V}, Shr K H ρ σ → IsL K H ds vs → Shr K H (setR ρ ks ds) (setS σ ks vs)
  | [], ρ, σ, ds, vs, h, i => by cases i <;> exact h
  | k :: ks, ρ, σ, _, _, h, .nil => h
  | k :: ks, ρ, σ, d :: ds, v :: vs, h, .cons i r => by
    show Shr K H (setR (ρ.set k (some (.sh d))) ks ds) (setS (σ.set k (some v)) ks vs)
    exact Shr.setAll (ks := ks) (h.set (k := k) i) r
section
variable {X : Cx} {B : Hp} {scope : Scope} {cl : List (Str × Addr)} {N' : List Str} {m : Nat}
theorem vis_cl {env : Env} (hf : frAll cl (relabel scope env) = true) {x : Str} {k : NameKind} (hk : (relabel scope env).names.lookup x = some k) (hc : k = .cell ∨ k = .free) : ∃ c, cl.lookup x = some c := by
  have h := List.all_eq_true.mp hf _ (lookup_mem hk)
  dsimp only at h
  rw [Bool.or_eq_true] at h
  rcases h with h | h
  · rcases hc with rfl | rfl <;> simp at h
  · exact Option.isSome_iff_exists.mp h
/-- the block's context and state, just made -/
theorem comp_start {pins : List (Addr × Obj)} {σ : St} {H : Hp} {s : Shared} {fp : List Addr} {h₁ : Heap} {tk : Nat} (I : Inv X pins σ H s) (hkind : scope.kind = .function) (hcl : lkAll cl X.env = true) (hnm : nmAll X.N N' (relabel scope X.env) = true) (hf : frAll cl (relabel scope X.env) = true) (hl : N'.length = X.N.length + m)
    (hfp : ∀ b ∈ fp, FpOk X pins H b ∧ b < s.heap.objs.size) (hk : ∀ b o, s.heap.get? b = some o → h₁.get? b = some o) {mm : Str → Option Value} (hns : h₁.Ns s.heap.objs.size mm) :
    Inv (cxC X scope cl N' s.heap.objs.size s H fp) [] (σ ++ List.replicate m none) H { s with heap := h₁, toks := tk } := by
  have sub : ∀ x c, cl.lookup x = some c → X.env.cells.lookup x = some c ∧ (X.env.kindOf x = some .cell ∨ X.env.kindOf x = some .free) := fun x c e => by
    have h := List.all_eq_true.mp hcl _ (lookup_mem e)
    dsimp only at h
    rw [Bool.and_eq_true, Bool.or_eq_true] at h
    exact ⟨beq_iff_eq.mp h.1, h.2.elim (fun z => .inl (beq_iff_eq.mp z)) fun z => .inr (beq_iff_eq.mp z)⟩
  have frs_sub : ∀ b ∈ fp, b ∉ frs X.stack := fun b hb z => by
    rcases List.mem_cons.mp (I.stkSub b z) with e | e
    · exact (hfp b hb).1.2.1 e
    · exact (hfp b hb).1.2.2.1 e
  refine ⟨⟨I.ok.mod, hkind, I.ok.glob, I.ok.blt, Nat.le_refl _, fun x y c h1 h2 => I.ok.inj x y c (sub x c h1).1 (sub y c h2).1, fun x hx => ?_, (fun x c h => by cases h), I.ok.hd, I.ok.frames, .inl rfl, fun b hb => ?_, I.bs, Nat.le_trans I.ok.bsz I.sz, fun b o e hb => ?_, frs_sub, I.stack, I.stkFree⟩,
    rfl, I.bare, Un.kept hk, ⟨mm, hns, fun i x v h1 h2 h3 => ?_⟩, fun x c e => ?_, I.hok.fresh (Nat.le_refl _), fun x c e => I.freeC x c (sub x c e).1, (fun p hp => by cases hp), I.hok.kept hk, ?_⟩
  · rcases hx with hx | hx
    · exact vis_cl hf hx (.inl rfl)
    · exact vis_cl hf hx (.inr rfl)
  · exact ⟨Nat.ne_of_lt (hfp b hb).2, fun x c e => (hfp b hb).1.2.2.2.2.1 x c (sub x c e).1⟩
  · rcases (hfp b hb).1.2.2.2.1 with z | z
    · exact I.ok.noex b o e z
    · exact absurd (Nat.lt_of_lt_of_le (Heap.lt_size e) (Nat.le_trans I.ok.bsz z)) (Nat.lt_irrefl _)
  · -- a name of the outer def
    have hi : i < σ.length := by
      by_cases hi : i < σ.length
      · exact hi
      · rw [List.getElem?_append_right (by omega), List.getElem?_replicate] at h2
        split at h2 <;> cases h2
    rw [List.getElem?_append_left hi] at h2
    have hiN : i < X.N.length := by rw [← I.len]; exact hi
    have hn := List.all_eq_true.mp hnm i (List.mem_range.mpr hiN)
    (try dsimp only at h1)
    (try dsimp only at hn)
    rw [h1] at hn
    (try dsimp only at hn)
    rw [Bool.or_eq_true] at hn
    have hvis : ∃ k, (relabel scope X.env).names.lookup x = some k := by
      rcases h3 with h | h | h
      · exact ⟨_, h⟩
      · exact ⟨_, h⟩
      · exact ⟨_, h⟩
    obtain ⟨kx, hkx⟩ := hvis
    rcases hn with hn | hn
    · rw [Bool.and_eq_true, Bool.or_eq_true] at hn
      have hXN : X.N[i]? = some x := beq_iff_eq.mp hn.1
      have hcf : (relabel scope X.env).names.lookup x = some .cell ∨ (relabel scope X.env).names.lookup x = some .free := hn.2.elim (fun z => .inl (beq_iff_eq.mp z)) fun z => .inr (beq_iff_eq.mp z)
      obtain ⟨c, hc⟩ : ∃ c, cl.lookup x = some c := hcf.elim (fun z => vis_cl hf z (.inl rfl)) fun z => vis_cl hf z (.inr rfl)
      obtain ⟨m0, hm0, lk⟩ := I.loc
      have hk0 := (sub x c hc).2
      obtain ⟨u, ru, lu⟩ := lk i x v hXN h2 (hk0.elim (fun z => .inr (.inl z)) fun z => .inr (.inr z))
      refine ⟨u, ru, .inr ⟨hcf, c, hc, ?_⟩⟩
      rcases lu with ⟨z1, _⟩ | ⟨_, c', e1, o, ho, hd⟩
      · rcases hk0 with z | z <;> rw [z] at z1 <;> cases z1
      · rw [(sub x c hc).1] at e1
        cases e1
        exact ⟨o, hk _ _ ho, hd⟩
    · have e := beq_iff_eq.mp hn
      rw [hkx] at e; cases e
  · obtain ⟨v, z⟩ := I.cell x c (sub x c e).1
    obtain ⟨o, ho, hd⟩ := z
    exact ⟨v, o, hk _ _ ho, hd⟩
  · show (σ ++ List.replicate m none).length = N'.length
    rw [List.length_append, List.length_replicate, I.len, hl]

variable {x : Str} {tg iter elt : Expr} {ifs : List Expr} {pos : Pos} {ks : List Nat} {G : D → Option (List D)} {ft : Rho → M Bool} {fe : Rho → M D} {it : Rho → M (List D)}
/-- what must be known of the iterator's expression -/
def PIt (X : Cx) (B : Hp) (tg iter : Expr) (it : Rho → M (List D)) : Prop :=
  ∀ (pins : List (Addr × Obj)) (s : Shared) (σ : St) (H : Hp) (R : It → Hp → Prop) (ρ : Rho), Inv X pins σ H s → Rel X.K B ρ σ H →
    Res X σ H (fun ds => ∀ J H1, Same H H1 → ItD X.K J ds H1 → R J H1) (it ρ) →
    wpAny (model X.prog X.w) X.A (eval iter X.env) (fun v s1 => wpAny (model X.prog X.w) X.A (pyIter v) (PIE X pins σ tg R) X.xe s1) X.xe s
/-- the address is no place of this block's own -/
def OutC (X : Cx) (pins : List (Addr × Obj)) (C : Addr) : Prop := (C ∈ X.ex ∨ X.s₀.heap.objs.size ≤ C) ∧ C ≠ X.env.locals ∧ (∀ x c, X.env.cells.lookup x = some c → c ≠ C) ∧ ∀ p ∈ X.pn ++ pins, p.1 ≠ C
theorem comp_core (hclos : closureFor scope X.env = pure cl) (hcell : ∀ y ∈ scope.names, y.2 ≠ .cell) (hkind : scope.kind = .function) (hnames : ∀ y ∈ scope.names, y.2 = .local → scope.names.lookup y.1 = some .local) (hcl : lkAll cl X.env = true)
    (hnm : nmAll X.N N' (relabel scope X.env) = true) (hf : frAll cl (relabel scope X.env) = true) (hl : N'.length = X.N.length + m) (hks : ∀ k ∈ ks, X.N.length ≤ k) (hcm : X.calm = true) (hi : PIt X B tg iter it)
    (hg : ∀ C s₀ H₀ ex, PDH (cxC X scope cl N' C s₀ H₀ ex) tg ks G) (ht : ∀ C s₀ H₀ ex B, PIf (cxC X scope cl N' C s₀ H₀ ex) B ifs ft) (he : ∀ C s₀ H₀ ex B, PD (cxC X scope cl N' C s₀ H₀ ex) B elt fe)
    (hs : ∀ x, foldedSetIterable iter X.env x = pure x) {p0 : Pos} {use : Option (Value → Sem Unit)} {Q' : Value → Shared → Prop} {Kp : List D → Prop} {pins : List (Addr × Obj)} {s : Shared} {σ : St} {H : Hp} {ρ : Rho} (I : Inv X pins σ H s) (r : Rel X.K B ρ σ H) (h : Res X σ H (fun d => ∀ rs, d = .lst rs → Kp rs) (cmp m it ks G ft fe ρ))
    (fin : ∀ (Dd Cc : Addr) (s3 : Shared) (Hj : Hp) (rs : List D), (∀ h', Heap.SameBut Cc s3.heap h' → Inv X pins σ Hj { s3 with heap := h' }) → (∃ m, s3.heap.Ns Cc m) → OutC X pins Cc → Hj Cc = none → Same H Hj → Is X.K Hj (.lst rs) (.ref Dd) → Kp rs →
      compPost (model X.prog X.w) X.A X.xe use Q' (.ref Dd) Cc (.ok .next) s3) :
    wpAny (model X.prog X.w) X.A (comprehension (.ListComp elt [⟨tg, iter, ifs, 0⟩] scope pos) scope X.env p0 (newList []) false (eval iter X.env) use) Q' X.xe s := by
  refine wpAny_comprehension_free (use := use) rfl hs hclos hkind hnames ?_
  show wpAny (model X.prog X.w) X.A (eval iter X.env) _ X.xe s
  refine thn (hi pins s σ H (fun J H1 => ∃ ds, Same H H1 ∧ ItD X.K J ds H1 ∧ ds.length ≤ 1000000 ∧ ∃ rs, cmpL ks G ft fe ds (ext m (free ρ)) = ok rs ∧ Kp rs) ρ I r ((Res.bind h).imp fun ds h1 J H1 e1 i1 => ?_)) fun v s1 h1 => thn h1 fun itv s2 h2 => ?_
  · split at h1
    · rename_i hlen
      refine ⟨ds, e1, i1, hlen, ?_⟩
      have h2 := Res.bind h1
      cases q : cmpL ks G ft fe ds (ext m (free ρ)) with
      | none => rw [q] at h2; exact False.elim h2
      | some z =>
        cases z with
        | error c => exact absurd q cmpL_noerr
        | ok rs => rw [q] at h2; exact ⟨rs, rfl, h2 rs rfl⟩
    · exact False.elim h1
  obtain ⟨ia, fp, tn, J, H2, rfl, I2, T, st2, f2, ds, e1, hJ, hlen, rs, hrs, hQ⟩ := h2
  have shr2 : Shr X.K H2 (ext m (free ρ)) (σ ++ List.replicate m none) := ((Shr.free r).mono e1).more m
  have fpl : ∀ b ∈ fp, b < s2.heap.objs.size := fun b hb => let ⟨o, ho, _⟩ := T.obj 0 _ st2 b hb; Heap.lt_size ho
  refine wpAny_newObj_type (wpAny_newFunctionEnv hcell (by intro y hy; simp at hy) (fun h₁ hns₁ hsb₁ => ?_) hkind)
  dsimp only at hns₁ hsb₁ ⊢
  have I0 : Inv X pins σ (upd H2 s2.heap.objs.size (.lst [])) { s2 with heap := s2.heap.push { cls := .type "list", dict := none, data := .seq ([] : List Value).toArray } } := I2.lnew (t' := s2.toks) (its := []) .nil (Nat.zero_le _)
  have hsz : (s2.heap.push { cls := .type "list", dict := none, data := .seq ([] : List Value).toArray }).objs.size = s2.heap.objs.size + 1 := Heap.size_push _ _
  generalize hP : s2.heap.push { cls := .type "list", dict := none, data := .seq ([] : List Value).toArray } = P2 at hns₁ hsb₁ I0 hsz ⊢
  generalize hD : s2.heap.objs.size = Dd at *
  generalize hC : P2.objs.size = Cc at *
  have neDC : Dd ≠ Cc := by omega
  have hk01 : ∀ b o, P2.get? b = some o → h₁.get? b = some o := fun b o e => hsb₁.extBut b o (Nat.ne_of_lt (by rw [← hC]; exact Heap.lt_size e)) (Heap.get?_push_of_some _ e)
  have hk2P : ∀ b o, s2.heap.get? b = some o → P2.get? b = some o := fun b o e => by rw [← hP]; exact Heap.get?_push_of_some _ e
  have nD2 : H2 Dd = none := I2.hok.fresh (by omega)
  have nC2 : H2 Cc = none := I2.hok.fresh (by omega)
  have sm0 : Same H2 (upd H2 Dd (.lst [])) := same_new nD2 _
  have fp0 : ∀ b ∈ fp, FpOk X pins (upd H2 Dd (.lst [])) b ∧ b < P2.objs.size := fun b hb => by
    have hb' := fpl b hb
    obtain ⟨f0, f1⟩ := f2 b hb
    exact ⟨⟨by rw [upd_ne (Nat.ne_of_lt hb')]; exact f0, f1⟩, by rw [hC, hsz]; exact Nat.lt_succ_of_lt hb'⟩
  have IC := comp_start (tk := s2.toks + ([] : List (Str × Value)).length) I0 hkind hcl hnm hf hl fp0 hk01 (by rw [hC]; exact hns₁)
  rw [hC] at IC
  -- the loop
  have loop : ∀ s₄ : Shared, s₄ = { s2 with heap := h₁, toks := s2.toks + ([] : List (Str × Value)).length } →
      codeAny (model X.prog X.w) X.A (.compLoop (.ListComp elt [⟨tg, iter, ifs, 0⟩] scope pos) 0 (.ref ia) (.ref Dd) (compEnvC scope cl Cc X.env)) (compPost (model X.prog X.w) X.A X.xe use Q' (.ref Dd) Cc) s₄ := by
    rintro s₄ rfl
    refine codeAny_compLoopG (fun n s' => ∃ j Hj vs rj rest, n = ds.length + 1 - j ∧ j ≤ ds.length ∧ Inv (cxC X scope cl N' Cc { s2 with heap := P2 } (upd H2 Dd (.lst [])) fp) [] (σ ++ List.replicate m none) Hj s' ∧ tn j s'.heap ∧ (∀ b ∈ fp, Hj b = none) ∧
      Hj Dd = some (.lst vs) ∧ IsL X.K Hj rj vs ∧ immL rj = true ∧ rj.length ≤ j ∧ Same H2 Hj ∧ cmpL ks G ft fe (ds.drop j) (ext m (free ρ)) = ok rest ∧ rs = rj ++ rest) ?_ (ds.length + 1)
      ⟨0, _, [], [], rs, rfl, Nat.zero_le _, IC, T.keep _ _ _ st2 fun b hb o e => hk01 _ _ (hk2P _ _ e), fun b hb => (fp0 b hb).1.1, upd_same, .nil, rfl, Nat.le_refl _, sm0, by simpa using hrs, rfl⟩
    rintro n s' ⟨j, Hj, vs, rj, rest, rfl, hj, IJ, stj, frj, hDj, ilj, imj, hlj, smj, hrest, hrs'⟩
    have fpX : ∀ {H' : Hp}, (∀ b ∈ fp, H' b = none) → ∀ b ∈ fp, FpOk (cxC X scope cl N' Cc { s2 with heap := P2 } (upd H2 Dd (.lst [])) fp) [] H' b := fun hn b hb =>
      ⟨hn b hb, (IJ.ok.exf b hb).1, IJ.ok.exfs b hb, .inl hb, (IJ.ok.exf b hb).2, (fun p hp => by cases hp)⟩
    by_cases hlt : j < ds.length
    · have hd : ds.drop j = ds[j] :: ds.drop (j + 1) := List.drop_eq_getElem_cons hlt
      rw [hd] at hrest
      obtain ⟨q0, q1, q2, q3⟩ : (∃ es, G ds[j] = some es) ∧ True ∧ True ∧ True := by
        refine ⟨?_, trivial, trivial, trivial⟩
        cases q : G ds[j] with
        | none => unfold cmpL at hrest; rw [q] at hrest; cases hrest
        | some es => exact ⟨es, rfl⟩
      obtain ⟨es, hG⟩ := q0
      unfold cmpL at hrest
      rw [hG] at hrest
      dsimp only at hrest
      refine thn (T.item (cxC X scope cl N' Cc { s2 with heap := P2 } (upd H2 Dd (.lst [])) fp) rfl rfl rfl hcm j [] s' _ Hj (fun _ _ => False) IJ (fpX frj) stj (hJ.go j Hj smj hlt)) fun r s3 ⟨u, hr, h4⟩ => ?_
      subst hr
      refine thn h4 fun _ s5 ⟨xv, H5, I5, r5, y5, st5, fr5⟩ => ?_
      obtain ⟨e5, d, e6, e7⟩ := hJ.yld j Hj xv H5 smj y5 hlt
      subst e5
      have ed : ds[j] = d := by rw [List.getElem?_eq_getElem hlt] at e6; exact Option.some.inj e6
      rw [ed] at hG
      have I5' := I5.pinned (fpX fr5) (T.obj _ _ st5)
      rw [List.nil_append] at I5'
      -- the names are stored
      refine thn (hg Cc { s2 with heap := P2 } (upd H2 Dd (.lst [])) fp _ s5 _ H5 xv u (fun σ6 H6 => H6 = H5 ∧ ∃ vs', IsL X.K H5 es vs' ∧ σ6 = setS (σ ++ List.replicate m none) ks vs') I5' r5 ⟨d, es, e7, hG, fun vs' iv' _ => ⟨rfl, vs', iv', rfl⟩⟩) fun _ s6 ⟨σ6, H6, I6, q6⟩ => ?_
      obtain ⟨rfl, vs', iv', rfl⟩ := q6
      have rel6 : Rel X.K H6 (setR (ext m (free ρ)) ks es) (setS (σ ++ List.replicate m none) ks vs') H6 := (Shr.setAll (shr2.mono smj) iv').rel
      -- what stands behind a turn
      have turn : ∀ (s7 : Shared) (H7 : Hp) (vs7 : List V) (r7 rest7 : List D), Inv (cxC X scope cl N' Cc { s2 with heap := P2 } (upd H2 Dd (.lst [])) fp) (pinsAt fp s5.heap) (setS (σ ++ List.replicate m none) ks vs') H7 s7 → H7 Dd = some (.lst vs7) → IsL X.K H7 r7 vs7 → immL r7 = true → r7.length ≤ j + 1 → Same H2 H7 →
          cmpL ks G ft fe (ds.drop (j + 1)) (ext m (free ρ)) = ok rest7 → rs = r7 ++ rest7 → ∃ k, k < ds.length + 1 - j ∧ ∃ j' Hj vs rj rest, k = ds.length + 1 - j' ∧ j' ≤ ds.length ∧ Inv (cxC X scope cl N' Cc { s2 with heap := P2 } (upd H2 Dd (.lst [])) fp) [] (σ ++ List.replicate m none) Hj s7 ∧ tn j' s7.heap ∧ (∀ b ∈ fp, Hj b = none) ∧
          Hj Dd = some (.lst vs) ∧ IsL X.K Hj rj vs ∧ immL rj = true ∧ rj.length ≤ j' ∧ Same H2 Hj ∧ cmpL ks G ft fe (ds.drop j') (ext m (free ρ)) = ok rest ∧ rs = rj ++ rest := by
        intro s7 H7 vs7 r7 rest7 I7 a1 a2 a3 a4 a5 a6 a7
        have pin : ∀ b ∈ fp, ∀ o, s5.heap.get? b = some o → s7.heap.get? b = some o ∧ H7 b = none := fun b hb o e =>
          let z := I7.pin (b, o) (List.mem_append_right _ (mem_pinsAt hb e)); ⟨z.1, z.2.1⟩
        refine ⟨ds.length + 1 - (j + 1), by omega, j + 1, H7, vs7, r7, rest7, rfl, hlt, ?_, T.keep _ _ _ st5 fun b hb o e => (pin b hb o e).1, fun b hb => ?_, a1, a2, a3, a4, a5, a6, a7⟩
        · have I8 : Inv (cxC X scope cl N' Cc { s2 with heap := P2 } (upd H2 Dd (.lst [])) fp) [] (setS (σ ++ List.replicate m none) ks vs') H7 s7 := I7.pins_of (fun p hp => by cases hp)
          refine I8.weak (by rw [setS_length]) fun i v e => ?_
          rw [setS_out]
          · exact e
          · intro hi
            have := hks i hi
            rw [List.getElem?_append_right (by rw [I2.len]; exact this), List.getElem?_replicate] at e
            split at e <;> cases e
        · obtain ⟨o, ho, _⟩ := T.obj _ _ st5 b hb
          exact (pin b hb o ho).2
      -- the test
      have tst : wpAny (model X.prog X.w) X.A (forIn ifs true fun c r => if r = true then do let ok ← isTrue c (compEnvC scope cl Cc X.env) (eval c (compEnvC scope cl Cc X.env)); pure (ForInStep.yield ok) else pure (ForInStep.yield r))
          (fun bb s7 => ∃ H7, Inv (cxC X scope cl N' Cc { s2 with heap := P2 } (upd H2 Dd (.lst [])) fp) (pinsAt fp s5.heap) (setS (σ ++ List.replicate m none) ks vs') H7 s7 ∧ Same H6 H7 ∧ ft (setR (ext m (free ρ)) ks es) = ok bb) (fun _ _ => False) s6 := by
        rcases ht Cc { s2 with heap := P2 } (upd H2 Dd (.lst [])) fp H6 with ⟨rfl, hft⟩ | ⟨c, rfl, hft⟩
        · exact wpAny_tests_nil ⟨H6, I6, Same.refl _, by rw [hft]⟩
        · cases qt : ft (setR (ext m (free ρ)) ks es) with
          | none => rw [qt] at hrest; cases hrest
          | some z =>
            cases z with
            | error ce => rw [qt] at hrest; cases hrest
            | ok bb =>
              refine wpAny_tests_one (thn (hft _ s6 _ H6 (fun b H7 => Same H6 H7 ∧ b = bb) I6 ⟨_, rel6, by rw [qt]; exact fun H7 e => ⟨e, rfl⟩⟩) fun b s7 ⟨H7, I7, e, eb⟩ => ?_)
              subst eb
              exact ⟨H7, I7, e, rfl⟩
      refine thn tst fun bb s7 ⟨H7, I7, sm7, hbb⟩ => ?_
      rw [hbb] at hrest
      cases bb with
      | false =>
        rw [if_neg (by decide)]
        exact turn s7 H7 vs rj rest I7 (sm7 _ _ hDj) (ilj.mono sm7) imj (by omega) (smj.trans sm7) hrest hrs'
      | true =>
        rw [if_pos rfl]
        dsimp only [ok] at hrest
        cases qe : fe (setR (ext m (free ρ)) ks es) with
        | none => rw [qe] at hrest; cases hrest
        | some z =>
          cases z with
          | error ce => rw [qe] at hrest; cases hrest
          | ok rr =>
            rw [qe] at hrest
            dsimp only at hrest
            split at hrest
            · rename_i him
              obtain ⟨rest', er, er2⟩ := bnd_eq_ok hrest
              have er3 := ok_inj er2
              refine thn (he Cc { s2 with heap := P2 } (upd H2 Dd (.lst [])) fp H6 _ s7 _ H7 (fun v H8 => Same H7 H8 ∧ Is X.K H8 rr v) I7 ⟨_, rel6.mono sm7, by rw [qe]; exact fun v H8 e i => ⟨e, i⟩⟩) fun u8 s8 ⟨v8, H8, I8, rv8, sm8, i8⟩ => ?_
              have hD8 : H8 Dd = some (.lst vs) := sm8 _ _ (sm7 _ _ hDj)
              have hlv : vs.length = rj.length := ilj.length.symm
              have il8 := (ilj.mono sm7).mono sm8
              have al : ∀ o, (∀ b xs, H8 b = some (.tup xs) → upd H8 Dd (.lst o) b = some (.tup xs)) ∧ (∀ b oo u, H8 b = some (.frz oo u) → upd H8 Dd (.lst o) b = some (.frz oo u)) := fun o =>
                ⟨fun b xs e => by rw [upd_ne (fun z => by subst z; rw [hD8] at e; cases e)]; exact e, fun b oo u e => by rw [upd_ne (fun z => by subst z; rw [hD8] at e; cases e)]; exact e⟩
              refine thn (mt_append _ s8 _ H8 (.ref Dd) [v8] (.ref Dd) [u8] (fun v9 H9 => H9 = upd H8 Dd (.lst (vs ++ [v8]))) I8 rfl (.cons rv8 .nil) ⟨Dd, vs, v8, rfl, rfl, hD8, by have := sizeLine_eq; omega, rfl⟩) fun u9 s9 ⟨v9, H9, I9, _, e9⟩ => ?_
              subst e9
              refine turn s9 _ (vs ++ [v8]) (rj ++ [rr]) rest' I9 upd_same ((IsL.alike (al _).1 (al _).2 imj il8).append (.cons (Is.alike (al _).1 (al _).2 him i8) .nil)) ?_ (by rw [List.length_append]; simp only [List.length_cons, List.length_nil]; omega) ?_ er (by rw [hrs', ← er3, List.append_assoc]; rfl)
              · rw [immL_append, imj]
                show (rr.imm && true) = true
                rw [him]
                rfl
              · intro b o e
                rw [upd_ne (ne_of_none e nD2)]
                exact sm8 _ _ (sm7 _ _ (smj _ _ e))
            · cases hrest
    · have ej : j = ds.length := by omega
      subst ej
      rw [List.drop_eq_nil_of_le (Nat.le_refl _)] at hrest
      have er := ok_inj hrest
      refine thn (T.done (cxC X scope cl N' Cc { s2 with heap := P2 } (upd H2 Dd (.lst [])) fp) rfl rfl rfl hcm ds.length [] s' _ Hj (fun _ _ => False) IJ (fpX frj) stj (hJ.stop _ Hj smj (Nat.le_refl _))) fun r s3 ⟨hr, I3⟩ => ?_
      subst hr
      obtain ⟨mm, hmm, _⟩ := I3.loc
      have nCj : Hj Cc = none := I3.free
      have zC := I2.fpOk (b := Cc) (H' := H2) (by rw [hD, hsz]; exact Nat.le_succ _) nC2
      have ers : rs = rj := by rw [hrs', ← er, List.append_nil]
      refine fin Dd Cc s3 Hj rs ?_ ⟨mm, hmm⟩ ⟨zC.2.2.2.1, zC.2.1, zC.2.2.2.2.1, zC.2.2.2.2.2⟩ nCj (e1.trans smj) (.lst (SqL.of hDj) (by rw [ers]; exact ilj)) hQ
      intro h' hsb
      have U1 : Un (frs X.stack) (Cc :: fp) H2 (upd H2 Dd (.lst [])) s2.heap P2 := Un.laid hk2P (by rw [hD]; exact Nat.le_refl _) nD2
      have U2 : Un (frs X.stack) (Cc :: fp) (upd H2 Dd (.lst [])) Hj P2 s3.heap := I3.base.mono (fun _ z => z) (fun b z => List.mem_cons_of_mem _ z)
      have kp : ∀ b o, b ≠ Cc → s3.heap.get? b = some o → h'.get? b = some o := fun b o hb e => hsb.extBut b o hb e
      have nc : ∀ b, b ∉ Cc :: fp → b ≠ Cc := fun b hb z => hb (by rw [z]; exact List.mem_cons_self)
      have U3 : Un (frs X.stack) (Cc :: fp) Hj Hj s3.heap h' := ⟨fun b o e _ _ hx => kp b o (nc b hx) e, fun b o e _ _ hx => ⟨o.slots, kp b o (nc b hx) e⟩, fun _ _ _ n _ => n, fun b o e hx => ⟨o, kp b o (nc b hx) e⟩, fun _ _ e => e, fun _ _ _ e => e, fun b ps e => ⟨#[], by rw [e]; simp⟩⟩
      have hok' : HOk X.prog X.w Hj h' := fun b u e => (I3.hok b u e).stay (fun c v hc q => kp c v (fun z => by
        rcases hc with hc | hc
        · rw [hc] at z; rw [z, nCj] at e; cases e
        · rw [z, nCj] at hc; cases hc) q) (fun _ q => q) fun _ _ q => q
      have IX : Inv X pins σ Hj { s3 with heap := h' } := I2.call' (ch := Cc :: fp) I3.os ((U1.trans U2).trans U3) hok' I3.bare fun b hb => by
        rcases List.mem_cons.mp hb with rfl | hb
        · have z := I2.fpOk (b := b) (H' := H2) (by rw [hD, hsz]; exact Nat.le_succ _) nC2
          exact ⟨z.2.2.2.1, z.2.1, z.2.2.2.2.1, z.2.2.2.2.2⟩
        · obtain ⟨z0, z1, z2, z3, z4, z5⟩ := f2 b hb
          exact ⟨z3, z1, z4, z5⟩
      exact IX
  exact codeAny_compStart_list (loop _ rfl) (T.self _ 0 _ _ _ (T.keep _ _ _ st2 fun b hb o e => hk01 _ _ (hk2P _ _ e)) (loop _ rfl))
theorem pd_comp (hclos : closureFor scope X.env = pure cl) (hcell : ∀ y ∈ scope.names, y.2 ≠ .cell) (hkind : scope.kind = .function) (hnames : ∀ y ∈ scope.names, y.2 = .local → scope.names.lookup y.1 = some .local) (hcl : lkAll cl X.env = true)
    (hnm : nmAll X.N N' (relabel scope X.env) = true) (hf : frAll cl (relabel scope X.env) = true) (hl : N'.length = X.N.length + m) (hks : ∀ k ∈ ks, X.N.length ≤ k) (hcm : X.calm = true) (hi : PIt X B tg iter it)
    (hg : ∀ C s₀ H₀ ex, PDH (cxC X scope cl N' C s₀ H₀ ex) tg ks G) (ht : ∀ C s₀ H₀ ex B, PIf (cxC X scope cl N' C s₀ H₀ ex) B ifs ft) (he : ∀ C s₀ H₀ ex B, PD (cxC X scope cl N' C s₀ H₀ ex) B elt fe)
    (hs : ∀ x, foldedSetIterable iter X.env x = pure x := by intro _; rfl) : PD X B (.ListComp elt [⟨tg, iter, ifs, 0⟩] scope pos) (cmp m it ks G ft fe) := by
  intro pins s σ H Q I h
  obtain ⟨ρ, r, h⟩ := h
  rw [eval_ListComp]
  refine comp_core (use := none) (Q' := EP X pins σ Q) (Kp := fun rs => ∀ v H', Same H H' → Is X.K H' (.lst rs) v → Q v H') hclos hcell hkind hnames hcl hnm hf hl hks hcm hi hg ht he hs I r (h.imp fun d q rs e v H' sm i => by subst e; exact q v H' sm i) ?_
  intro Dd Cc s3 Hj rs IX ⟨mm, hmm⟩ _ _ sm is hQ
  exact ⟨mm, hmm, fun h' hsb => ⟨.ref Dd, Hj, IX h' hsb, rfl, hQ _ Hj sm is⟩⟩
theorem Inv.offC {pins : List (Addr × Obj)} {s : Shared} {σ : St} {H : Hp} {C : Addr} {h' : Heap} (I : Inv X pins σ H s) (f : OutC X pins C) (hC : H C = none) (hsb : Heap.SameBut C s.heap h') : Inv X pins σ H { s with heap := h' } := by
  have kp : ∀ b o, b ≠ C → s.heap.get? b = some o → h'.get? b = some o := fun b o hb e => hsb.extBut b o hb e
  have nc : ∀ b, b ∉ [C] → b ≠ C := fun b hb z => hb (by rw [z]; exact List.mem_cons_self)
  have U : Un (frs X.stack) [C] H H s.heap h' := ⟨fun b o e _ _ hx => kp b o (nc b hx) e, fun b o e _ _ hx => ⟨o.slots, kp b o (nc b hx) e⟩, fun _ _ _ n _ => n, fun b o e hx => ⟨o, kp b o (nc b hx) e⟩, fun _ _ e => e, fun _ _ _ e => e, fun b ps e => ⟨#[], by rw [e]; simp⟩⟩
  have hok' : HOk X.prog X.w H h' := fun b u e => (I.hok b u e).stay (fun c v hc q => kp c v (fun z => by
    rcases hc with hc | hc
    · rw [hc] at z; rw [z, hC] at e; cases e
    · rw [z, hC] at hc; cases hc) q) (fun _ q => q) fun _ _ q => q
  exact I.call' (s' := { s with heap := h' }) (ch := [C]) rfl U hok' I.bare fun b hb => by
    rw [List.mem_singleton] at hb
    subst hb
    exact f
/-- x = [..] of a comprehension on its row: the name is stored ahead of the names' going -/
theorem pds_comp {i : Nat} {x : Str} {pos' spos : Pos} (hN : X.N.Nodup) (hi0 : X.N[i]? = some x) (hx : Loc X.env.scope x) (hclos : closureFor scope X.env = pure cl) (hcell : ∀ y ∈ scope.names, y.2 ≠ .cell) (hkind : scope.kind = .function) (hnames : ∀ y ∈ scope.names, y.2 = .local → scope.names.lookup y.1 = some .local) (hcl : lkAll cl X.env = true)
    (hnm : nmAll X.N N' (relabel scope X.env) = true) (hf : frAll cl (relabel scope X.env) = true) (hl : N'.length = X.N.length + m) (hks : ∀ k ∈ ks, X.N.length ≤ k) (hcm : X.calm = true) (hi : PIt X B tg iter it)
    (hg : ∀ C s₀ H₀ ex, PDH (cxC X scope cl N' C s₀ H₀ ex) tg ks G) (ht : ∀ C s₀ H₀ ex B, PIf (cxC X scope cl N' C s₀ H₀ ex) B ifs ft) (he : ∀ C s₀ H₀ ex B, PD (cxC X scope cl N' C s₀ H₀ ex) B elt fe)
    (hsw : swapsWith (.ListComp elt [⟨tg, iter, ifs, 0⟩] scope pos) (some (.Name x pos')) spos.line X.env = pure true) (hs : ∀ x, foldedSetIterable iter X.env x = pure x := by intro _; rfl)
    (hfn : X.fn x = true ∨ X.env.scope.names.lookup x = some .local := by first | exact .inl rfl | exact .inr rfl | assumption) :
    PDS X B (.Assign [.Name x pos'] (.ListComp elt [⟨tg, iter, ifs, 0⟩] scope pos) spos) (sSet i (cmp m it ks G ft fe)) := by
  intro pins s σ H E I h
  obtain ⟨ρ, r, h⟩ := h
  rw [exec_Assign_Name_used _ _ _ _ hsw]
  refine wpAny_bind (wpAny_standAt (wpAny_bind (wpAny_bind (comp_core (use := some _) (Kp := fun rs => GoodO X B E (some (.nx (setV i (.lst rs) ρ)))) hclos hcell hkind hnames hcl hnm hf hl hks hcm hi hg ht he hs I r ?_ ?_))))
  · exact (lft_red r h).imp fun d q rs e => by subst e; exact q
  · intro Dd Cc s3 Hj rs IX ⟨mm, hmm⟩ oc nC sm is hQ
    have I3 : Inv X pins σ Hj s3 := IX s3.heap (Heap.SameBut.refl Cc s3.heap)
    refine wpAny_assign_Name (store_ok2 I3 hN hi0 hx (v := .ref Dd) rfl (fun s4 I4 ⟨a, sb, ha⟩ => ⟨mm, hmm.sameBut sb ?_, fun h' hsb => ?_⟩) hfn)
    · rcases ha with ha | ha
      · rw [ha]; exact oc.2.1
      · exact Ne.symm (oc.2.2.1 x a ha)
    · exact wpAny_pure (wpAny_pure ⟨_, Hj, Inv.offC I4 oc nC hsb, hQ _ Hj ((r.mono sm).setV is)⟩)
end
end L2.PU

set_option Elab.async false
set_option linter.all false
set_option maxRecDepth 100000
set_option maxHeartbeats 4000000
namespace L2.PU
open PySem PySem.Spec PyProof.Rows

/-! ### exceptions: how they leave a def -/
section
variable {l : List Env} {H1 H : Hp} {h1 h h5 Bs base : Heap}
theorem fly_un (un : Un (frs l) [] H1 H h1 h) (old : ∀ b o o', h1.get? b = some o' → b ∉ frs l → h.get? b = some o → Bs.get? b = some o) (st : Bs.StaysIn h5) (sl : h.UpToSlots h5) (ff : h1.FunFrames base l) (hf : ∀ b ∈ frs l, H1 b = none) :
    Un (frs l) [] H1 H h1 h5 where
  keep := fun b o q n hb hx => st b o (old b o o q hb (un.keep b o q n hb hx))
  slot := fun b o q n hb hx => by
    obtain ⟨s1, e1⟩ := un.slot b o q n hb hx
    obtain ⟨_, o2, e2, nf⟩ := ff.mem hb
    rw [q] at e2; cases e2
    obtain ⟨s2, e3⟩ := sl b _ e1 nf
    exact ⟨s2, e3⟩
  free := un.free
  there := fun b o q hx => by
    obtain ⟨o1, e1⟩ := un.there b o q hx
    by_cases hb : b ∈ frs l
    · obtain ⟨_, o2, e2, nf⟩ := ff.mem hb
      rw [q] at e2; cases e2
      obtain ⟨s1, e3⟩ := un.slot b o q (hf b hb) hb hx
      obtain ⟨s2, e4⟩ := sl b _ e3 nf
      exact ⟨_, e4⟩
    · exact ⟨o1, st b o1 (old b o1 o q hb e1)⟩
  tups := un.tups
  frzs := un.frzs
  tbls := un.tbls
end
section
variable {X : Cx} {pins : List (Addr × Obj)} {σ : St} {H H1 : Hp} {c ea : Addr} {e a0 : Value} {s s1 : Shared} {Bs h' : Heap}
theorem inv_flown (I : Inv X pins σ H1 s1) (os : s.os = s1.os) (bare : AllBare s.gens) (un : Un (frs X.stack) [] H1 H s1.heap s.heap) (old : ∀ b o o', s1.heap.get? b = some o' → b ∉ frs X.stack → s.heap.get? b = some o → Bs.get? b = some o)
    (hok : HOk X.prog X.w H Bs) (st : Bs.StaysIn h') (sl : s.heap.UpToSlots h') : Inv X pins σ H { s with heap := h' } :=
  Inv.call' (s' := { s with heap := h' }) (ch := []) I os (fly_un un old st sl I.stack I.stkFree) (hok.kept st) bare (fun b z => absurd z (by simp))
/-- behind a frame's end -/
def Left (X : Cx) (H : Hp) (c : Addr) (e : Value) (s' : Shared) : Prop :=
  ∃ ea, e = .ref ea ∧ s'.os = X.s₀.os ∧ AllBare s'.gens ∧ Un (frs X.outer) [] X.H₀ H X.s₀.heap s'.heap ∧ Fly X.prog X.w X.outer X.s₀ ea c H s'
theorem left_fin (hex : X.ex = []) (I : Inv X pins σ H1 s1) (os : s.os = s1.os) (bare : AllBare s.gens) (un : Un (frs X.stack) [] H1 H s1.heap s.heap) (old : ∀ b o o', s1.heap.get? b = some o' → b ∉ frs X.stack → s.heap.get? b = some o → Bs.get? b = some o)
    (hok : HOk X.prog X.w H Bs) (fl : Heap.FlyingW Bs X.outer ea (.ref c) a0 h') (sl : s.heap.UpToSlots h') : Left X H c (.ref ea) { s with heap := h' } := by
  have I' := inv_flown I os bare un old hok fl.1 sl
  have ib := I'.base
  rw [hex] at ib
  have ib1 := I.base
  rw [hex] at ib1
  refine ⟨ea, rfl, I'.os, I'.bare, ib, Bs, a0, fl, fun b o o' q nb eb => ?_, hok⟩
  obtain ⟨o1, e1⟩ := ib1.there b o' q (by simp)
  obtain ⟨o2, e2⟩ := un.there b o1 e1 (by simp)
  have nb' : b ∉ frs X.stack := fun z => by
    rcases List.mem_cons.mp (I.stkSub b z) with y | y
    · have := Nat.lt_of_lt_of_le (Heap.lt_size q) I.ok.above
      rw [y] at this
      exact absurd this (Nat.lt_irrefl _)
    · exact nb y
  have e3 := old b o2 o1 e1 nb' e2
  have e4 := fl.1 b o2 e3
  have eb' : h'.get? b = some o := eb
  rw [eb'] at e4
  cases e4
  exact e3
theorem leave_ok (hst : X.stack = X.env :: X.outer) (hf : X.env.frame = some X.env.locals) (hex : X.ex = []) {Q : Unit → Shared → Prop} {E : Value → Shared → Prop} (x : Exc X pins σ H c e s) (k : ∀ s', Left X H c e s' → Q () s') :
    wpAny (model X.prog X.w) X.A (leaving X.env e) Q E s := by
  obtain ⟨ea, rfl, ⟨h, args, hm, I⟩ | ⟨s1, H1, I, os, bare, un, Bs, a0, fl, old, hok⟩⟩ := x
  · have ff : h.FunFrames X.base X.stack := I.stack
    refine wpAny_leaves_madeW (base := PySem.W.hideAll h (frs X.stack)) (h := h) (by rw [I.ok.frames, hst]) hf (fun b o q => PySem.W.of_hideAll _ q) (by rw [← hst]; exact PySem.W.funFrames_hide ff fun env he a ha => List.mem_filterMap.mpr ⟨env, he, ha⟩) hm fun h' t x1 x2 x3 x4 => k _ ?_
    refine left_fin (s1 := { s with heap := h }) hex I rfl I.bare (Un.kept hm.keeps) (fun b o o' q nb eb => ?_) (fun a o ea' => ?_) x1 x4
    · have := hm.keeps b o' q
      rw [eb] at this
      cases this
      exact PySem.W.hideAll_get _ q nb
    · refine (I.hok a o ea').stay (fun b u hb q => PySem.W.hideAll_get _ q fun z => ?_) (fun _ q => q) fun _ _ q => q
      have hn := I.stkFree b z
      rcases hb with rfl | hb
      · rw [hn] at ea'; cases ea'
      · rw [hn] at hb; cases hb
  · have fl' : Heap.FlyingW Bs (X.env :: X.outer) ea (.ref c) a0 s.heap := by rw [← hst]; exact fl
    refine wpAny_leaves_onW (by rw [I.ok.frames, hst]) hf fl' fun h' x1 x2 => k _ (left_fin hex I os bare un old hok x1 x2)
end

section
variable {P : Program} {w : World} {K : PySem.W.Frag} {mg : Str → Option Value} {base : Heap}
abbrev cxX (P : Program) (w : World) (K : PySem.W.Frag) (mg : Str → Option Value) (base : Heap) (N : List Str) (qual : Str) (scope : Scope) (f : Addr) (cd : Value) (A : Around) (outer : List Env) (s : Shared) (H : Hp) (E : XK) : Cx :=
  cxOf (CXD P w) P w K mg base N qual scope f cd A outer s H E
theorem xe_ok {N : List Str} {qual : Str} {scope : Scope} {f : Addr} {cd : Value} {A : Around} {outer : List Env} {s₀ : Shared} {H₀ : Hp} {E : XK} {pins : List (Addr × Obj)} {σ : St} {H : Hp} {c : Addr} {e : Value} {s : Shared}
    (x : Exc (cxX P w K mg base N qual scope f cd A outer s₀ H₀ E) pins σ H c e s) (hE : E (.ref c) none H) : (cxX P w K mg base N qual scope f cd A outer s₀ H₀ E).xe e s := by
  refine leave_ok (X := cxX P w K mg base N qual scope f cd A outer s₀ H₀ E) rfl rfl rfl x fun s' hl => ?_
  obtain ⟨ea, e1, e2, e3, e4, e5⟩ := hl
  exact ⟨c, ea, H, e1, e2, e3, e4, e5, hE⟩
/-- a def by its body; exceptions may leave it -/
theorem fn_X {x qual : Str} {st : Stmt} {f : Addr} {fd : FuncData} {N ps : List Str} {k : Nat} {F : List D → M D} (Fu : Fun K x qual st f fd) (S : FnScope N ps (defScope st)) (hL : ∀ ds r, F ds = some r → ds.length = ps.length)
    (hbody : ∀ (cdv : Value) (A : Around) (outer : List Env) (s : Shared) (H : Hp) (E : XK), Room k (A.deeper (envOfC qual (defScope st) s.heap.objs.size f cdv)) →
      ∃ F', (∀ B, PDB (cxX P w K mg base N qual (defScope st) f cdv A outer s H E) B (defBody st) F') ∧ ∀ ds r, F ds = some r → fnRes (F' (rho0 N ds)) = some r) : FnD P w K mg base (k + 1) f fd ps F := by
  obtain ⟨oc, od, kV, doc, pm, an, cdv, ct, osl, rfl, lk, hcd⟩ := Fu.ex
  refine fn_of lk hcd S (fun vs H Q E ⟨ds, i, hl, _⟩ => hl) fun A outer s H vs Q E hr hsp => ?_
  obtain ⟨F', hF, hq⟩ := hbody cdv A outer s H E hr
  refine ⟨_, hF H, ?_⟩
  obtain ⟨ds, i, hl, h⟩ := hsp
  have hn : ps.length ≤ N.length := by have := congrArg List.length S.pre; rw [List.length_take] at this; omega
  cases q : F ds with
  | none => rw [q] at h; exact False.elim h
  | some r =>
    rw [q] at h
    have e := hq ds r q
    refine ⟨rho0 N ds, rel_start i (by rw [i.length, hl]; exact hn), ?_⟩
    cases qf : F' (rho0 N ds) with
    | none => rw [qf] at e; cases e
    | some o =>
      rw [qf] at e
      cases o with
      | rt d' => cases e; exact fun v H' s' i' => h v H' s' i'
      | nx ρ => cases e; exact fun σ' H' r' => h _ H' r'.kept .non
      | bk ρ => cases e
      | ct ρ => cases e
      | ex c ρ => cases e; exact fun pins s' σ' H' ev r' x => xe_ok x (h H' r'.kept)
def iniResX (a C dx : Addr) : Option Out → M (List (Str × D))
  | some (.ex c _) => err c
  | o => iniRes a C dx o
theorem init_X {x qual : Str} {st : Stmt} {f C : Addr} {fd : FuncData} {N ps : List Str} {k : Nat} {F : List D → M (List (Str × D))} (Fu : Fun K x qual st f fd) (S : FnScope N ps (defScope st)) (hL : ∀ ds r, F ds = some r → ds.length + 1 = ps.length)
    (hbody : ∀ (cdv : Value) (A : Around) (outer : List Env) (s : Shared) (H : Hp) (E : XK), Room k (A.deeper (envOfC qual (defScope st) s.heap.objs.size f cdv)) →
      ∃ F', (∀ B, PDB (cxX P w K mg base N qual (defScope st) f cdv A outer s H E) B (defBody st) F') ∧ ∀ ds r a dx, F ds = some r → iniResX a C dx (F' (rhoI N a C dx ds)) = some r) : FnOk P w K mg base (CXD P w) (k + 1) f fd ps (spI K C ps.length F) := by
  obtain ⟨oc, od, kV, doc, pm, an, cdv, ct, osl, rfl, lk, hcd⟩ := Fu.ex
  refine fn_of lk hcd S (fun vs H Q E ⟨a, dx, ws, ds, _, _, _, _, hl, _⟩ => hl) fun A outer s H vs Q E hr hsp => ?_
  obtain ⟨F', hF, hq⟩ := hbody cdv A outer s H E hr
  obtain ⟨a, dx, ws, ds, rfl, ha, hd, i, hl, h⟩ := hsp
  refine ⟨_, hF (hid H a), ?_⟩
  have hn : ps.length ≤ N.length := by have := congrArg List.length S.pre; rw [List.length_take] at this; omega
  cases q : F ds with
  | none => rw [q] at h; exact False.elim h
  | some r =>
    rw [q] at h
    have e := hq ds r a dx q
    refine ⟨rhoI N a C dx ds, rel_startI ha hd i (by rw [i.length]; rw [List.length_cons] at hl; omega), ?_⟩
    cases qf : F' (rhoI N a C dx ds) with
    | none => rw [qf] at e; cases e
    | some o =>
      rw [qf] at e
      cases o with
      | ex c ρ => cases e; exact fun pins s' σ' H' ev r' x => xe_ok x (h H' r'.kept)
      | rt d => cases e
      | bk ρ => cases e
      | ct ρ => cases e
      | nx ρ =>
        change iniRes a C dx (some (.nx ρ)) = some r at e
        unfold iniRes at e
        split at e
        · rename_i a' C' dx' fs' rest qf'
          cases qf'
          split at e
          · rename_i hh
            obtain ⟨rfl, rfl, rfl⟩ := hh
            cases e
            intro σ' H' r'
            obtain ⟨O, g1, go, g2, gl, g3⟩ := r'
            obtain ⟨z1, z2, z3, vs', z4, z5⟩ := g3 0 _ rfl
            exact h H' vs' z4 (z5.mono (Off.same _ _)) (g2.trans (Off.same _ _))
          · cases e
        · cases e
end

/-! ### raise C(..) -/
theorem exc_obj {K : PySem.W.Frag} {h : Heap} {C : Addr} {bmB : List Value} {nid : String} (kin : K.In h) (q : PySem.W.excIn K C bmB nid = true) :
    ∃ tl N nm qn bs hd sn sub ab col dd k0 k1 k2 k3 k5 mN, h.get? C = some (excClassObj nm qn C N bs tl hd sn sub ab col dd k0 k1 k2 k3 k5 nid) ∧ h.Ns N mN ∧ mN "__init__" = none ∧ OwnTail h bmB tl := by
  unfold PySem.W.excIn at q
  split at q
  · rename_i d1 c1 s1 lk
    split at q
    · rename_i C2 tl j0 j1 j2 j3 n2 j5 em es
      rw [Bool.and_eq_true, Bool.and_eq_true, Bool.and_eq_true, Bool.and_eq_true, Bool.and_eq_true] at q
      obtain ⟨⟨⟨⟨⟨a1, a2⟩, a3⟩, a4⟩, a5⟩, a6⟩ := q
      have b1 := beq_iff_eq.mp a1
      have b2 := beq_iff_eq.mp a2
      have b6 := beq_iff_eq.mp a6
      have b3 : c1.hasDel = false := by simpa using a3
      cases c1 with
      | mk nm bs mro ns qn hd sn sub ab col del =>
        have b1' : C2 = C := b1
        have b2' : n2 = nid := b2
        have b3' : del = false := b3
        have em' : mro = .ref C2 :: tl := em
        have e5 : s1 = #[j0, j1, j2, j3, some (.builtin n2), j5] := by
          cases s1 with
          | mk li => exact congrArg Array.mk es
        rw [e5, em', b3', b1', b2'] at lk
        exact ⟨tl, ns, nm, qn, bs, hd, sn, sub, ab, col, d1, j0, j1, j2, j3, j5, _, kin _ _ lk, .of_isNs (PySem.W.isNs_of_in kin a5), PySem.W.nsMap_none_of_in kin a5 b6, PySem.W.tail_of_in kin a4⟩
    · exact nomatch q
  · exact nomatch q
section
variable {X : Cx} {B : Hp} {e : Expr} {es : List Expr} {ga : Rho → M (List D)} {np cpos pos : Pos} {x : Str} {C : Addr} {bmB : List Value} {nid iid B0 : String}
def sRaise (C : Addr) (g : Rho → M (List D)) : Rho → Option Out := fun ρ => lft (g ρ) ρ fun ds => if ds.length ≤ 1000 then some (.ex C ρ) else none
theorem pds_raise (FB : ExcBaseFacts B0 nid iid bmB) (hq : PySem.W.excIn X.K C bmB nid = true) (hm : X.mg x = some (.ref C)) (hg : Gl X x) (hc : X.calm = true) (ha : PDA X B (e :: es) ga) (hdb : (x == ("__debug__" : Str)) = false := by decide)
    (he : starEach (e :: es) X.env = (false, eval e X.env) :: starEach es X.env := by exact star_ok rfl) (hpl : (backTo cpos (starEach es X.env)).any (·.1) = false := by rfl) : PDS X B (.Raise (some (.Call (.Name x np) (e :: es) [] cpos)) none pos) (sRaise C ga) := by
  intro pins s σ H E I h
  obtain ⟨ρ, r, h⟩ := h
  obtain ⟨tl, N, nm, q, bs, hd, sn, sub, ab, col, dd, k0, k1, k2, k3, k5, mN, hC, hN, hni, T⟩ := exc_obj (h := X.base) I.ok.mod.kin hq
  refine wpAny_Raise_call_subT (C := C) (nm := nm) (q := q) (N := N) (bs := bs) (bm := tl) (hdct := hd) (sn := sn) (sub := sub) (ab := ab) (col := col) (dd := dd) (k0 := k0) (k1 := k1) (k2 := k2) (k3 := k3) (k5 := k5)
    FB (mN := mN) (T.hasType FB.hasBase) (I.ok.hd hc) (by rw [he]; show (false || (backTo cpos (starEach es X.env)).any (·.1)) = false; rw [hpl]; rfl) hni (ld_glob I hg hm ⟨rfl, ?_⟩ hdb)
  have hx := ha cpos pins s σ H (fun vs H1 => vs.length ≤ 1000 ∧ Same H H1 ∧ Good X B E (.ex C ρ)) I ⟨ρ, r, (lft_red r h).imp fun ds h1 vs H1 e1 i1 => by
    split at h1
    · rename_i hl; exact ⟨by rw [← i1.length]; exact hl, e1, h1⟩
    · exact False.elim h1⟩
  rw [he] at hx ⊢
  refine Calls.evalArgs_plain (wpAny_mono hx (fun us s2 ⟨vs, H2, I2, rv, hl, e2, gd⟩ => ⟨rfl, by show us.length ≤ sizeLine; rw [← rv.length]; exact le_line hl, I2.bk _ _ hC, hN.keeps I2.bk, T.keeps I2.bk, fun h' ea hm' => ?_⟩) fun _ _ y => y)
  exact gd pins { s2 with heap := h' } σ H2 (.ref ea) (r.mono e2) ⟨ea, rfl, .inl ⟨s2.heap, us, hm', I2⟩⟩
end
end L2.PU

set_option Elab.async false
set_option linter.all false
set_option maxRecDepth 100000
set_option maxHeartbeats 4000000
namespace L2.PU
open PySem PySem.Spec PyProof.Rows

/-! ### isinstance of an exception -/
theorem isx_true {K : PySem.W.Frag} {a C : Addr} {c : Value} (e : PySem.W.kitOne K (.ref C) c = some true) : Answers (fun s => K.In s.heap ∧ excAt a C s.heap) (.ref a) c true := by
  intro dp tk P w A R s ⟨⟨kin, o, ho, hc⟩, hq⟩
  cases s with
  | mk h0 g d tt os =>
    have lt : PySem.W.Looks (model P w) h0 (typeOf (.ref a)) (.ref C) := by rw [← hc]; exact (PySem.W.Looks.ld ho).andThen .now
    unfold PySem.W.kitOne at e
    by_cases q : (Value.ref C == c) = true
    · unfold Builtin.«isinstance.nested»
      refine wpAny_bind (lt.at ?_)
      simp only [q, if_true]
      first | exact wpAny_bind (wpAny_rule (wpAny_pure (hq tt))) | exact wpAny_bind (wpAny_rule (hq tt)) | exact wpAny_pure (hq tt)
    · simp only [q] at e
      obtain ⟨h1, h2, h3⟩ := PySem.W.kit_cls (M := model P w) kin e
      have li : PySem.W.Looks (model P w) h0 (isInstance (.ref a) c) true := lt.andThen h3
      unfold Builtin.«isinstance.nested»
      refine wpAny_bind (lt.at ?_)
      simp only [q]
      refine wpAny_bind (h1.at ?_)
      simp only [beq_self_eq_true, if_true]
      k_delta "plainIsInstance"
      refine wpAny_bind (wpAny_bind (h2.at ?_))
      simp only [Bool.not_true, Bool.false_eq_true, if_false]
      refine wpAny_bind (li.at ?_)
      simp only [if_true]
      first | exact wpAny_pure (hq tt) | exact wpAny_pure (wpAny_pure (hq tt)) | exact wpAny_bind (wpAny_pure (wpAny_pure (hq tt)))
section
variable {X : Cx} {B : Hp} {e : Expr} {fa : Rho → M D} {pos p p2 : Pos}
/-- isinstance(e, C) of an exception: m tells of which classes of exceptions it is known (and true) -/
def exs (m : Addr → Bool) (f : Rho → M D) : Rho → M D := fun ρ => bnd (f ρ) fun d => match d with
  | .exc C => if m C = true then ok (.bl true) else none
  | _ => none
theorem call_exs {cv : Value} {c : V} {m : Addr → Bool} (rc : RelV c cv) (hu : ∀ u, RelV c u → u = cv) (hm : ∀ C, m C = true → PySem.W.kitOne X.K (.ref C) cv = some true) :
    CallR X (.builtin "isinstance") (fun xs H Q => ∃ C y, xs = [y, c] ∧ Is X.K H (.exc C) y ∧ m C = true ∧ Q (.bl true) H) := by
  intro pins s σ H xs us Q I r h
  obtain ⟨C, y, rfl, i, hC, q⟩ := h
  obtain ⟨u, w', rfl, r1, r2⟩ := vals2 r
  rw [hu _ r2]
  cases i with
  | exc hh =>
    cases r1
    obtain ⟨hx, _, _⟩ := (show ObjOk X.prog X.w H s.heap _ (.ext _) from I.hok _ _ hh)
    exact call_isinstance (S := fun _ R s => (X.K.In s.heap ∧ excAt _ C s.heap) ∧ ∀ tk, R (.ok (.ret (.bool true))) { s with toks := tk })
      (fun P w A R s hs => isinstance_outer (isx_true (hm C hC) 0 _ P w A R s hs) (fun z => nomatch z)) ⟨⟨I.kIn, hx⟩, fun tk => ⟨.bl true, H, I.tok _, rfl, q⟩⟩
theorem pd_exsT {x : Str} {T : String} {m : Addr → Bool} (hg : Gl X "isinstance") (hb : X.mg "isinstance" = none) (hg2 : Gl X x) (hm2 : X.mg x = none) (hv : bootBuiltins x = some (.type T)) (hm : ∀ C, m C = true → PySem.W.kitOne X.K (.ref C) (.type T) = some true) (ha : PD X B e fa) (hn : x ≠ "__name__" := by decide) (hd : (x == ("__debug__" : Str)) = false := by decide)
    (he : starEach [e, .Name x p2] X.env = [(false, eval e X.env), (false, eval (.Name x p2) X.env)] := by exact star2 rfl rfl) (he2 : starEach [.Name x p2] X.env = [(false, eval (.Name x p2) X.env)] := by exact star1 rfl) : PD X B (.Call (.Name "isinstance" p) [e, .Name x p2] [] pos) (exs m fa) := by
  refine PE.of (pe_callB (call_exs (c := V.ty T) rfl (fun u r => r) hm) hg hb boot_isinstance (pa_cons ha (pa_cons (pe_bltn hg2 hm2 hv (v := V.ty T) rfl hn hd) pa_nil he2) (by rw [he, he2])) (he := by rw [he, he2]) (hpl := by rw [he2]; rfl)) fun σ H Q h => ?_
  obtain ⟨ρ, r1, h⟩ := h
  refine ⟨ρ, r1, (Res.bind h).imp fun d h1 v H1 e1 i1 => ?_⟩
  split at h1
  · rename_i C
    split at h1
    · rename_i hC; exact ⟨C, v, rfl, i1, hC, h1 _ H1 e1 (.bl _)⟩
    · exact False.elim h1
  · exact False.elim h1
theorem pd_exsC {x : Str} {D : Addr} {m : Addr → Bool} (hg : Gl X "isinstance") (hb : X.mg "isinstance" = none) (hg2 : Gl X x) (hm2 : X.mg x = some (.ref D)) (hm : ∀ C, m C = true → PySem.W.kitOne X.K (.ref C) (.ref D) = some true) (ha : PD X B e fa) (hd : (x == ("__debug__" : Str)) = false := by decide)
    (he : starEach [e, .Name x p2] X.env = [(false, eval e X.env), (false, eval (.Name x p2) X.env)] := by exact star2 rfl rfl) (he2 : starEach [.Name x p2] X.env = [(false, eval (.Name x p2) X.env)] := by exact star1 rfl) : PD X B (.Call (.Name "isinstance" p) [e, .Name x p2] [] pos) (exs m fa) := by
  refine PE.of (pe_callB (call_exs (c := V.ref D) rfl (fun u r => r) hm) hg hb boot_isinstance (pa_cons ha (pa_cons (pe_glob hg2 hm2 (v := V.ref D) rfl hd) pa_nil he2) (by rw [he, he2])) (he := by rw [he, he2]) (hpl := by rw [he2]; rfl)) fun σ H Q h => ?_
  obtain ⟨ρ, r1, h⟩ := h
  refine ⟨ρ, r1, (Res.bind h).imp fun d h1 v H1 e1 i1 => ?_⟩
  split at h1
  · rename_i C
    split at h1
    · rename_i hC; exact ⟨C, v, rfl, i1, hC, h1 _ H1 e1 (.bl _)⟩
    · exact False.elim h1
  · exact False.elim h1
end

/-! ### try: .. except C as n: .. -/
/-- an exception lies: come from a call -/
def FlyX (X : Cx) (pins : List (Addr × Obj)) (σ : St) (H : Hp) (ea c : Addr) (s : Shared) : Prop :=
  ∃ s1 H1, Inv X pins σ H1 s1 ∧ s.os = s1.os ∧ AllBare s.gens ∧ Un (frs X.stack) [] H1 H s1.heap s.heap ∧ Fly X.prog X.w X.stack s1 ea c H s
abbrev Cx.hand (X : Cx) (e : Value) : Cx := { X with A := X.A.mark (some e), calm := false, xe := fun _ _ => False }
section
variable {X : Cx} {pins : List (Addr × Obj)} {σ : St} {H : Hp} {c ea : Addr} {s : Shared} {e : Value}
theorem inv_hand (I : Inv X pins σ H s) (e : Value) : Inv (Cx.hand X e) pins σ H s :=
  ⟨⟨I.ok.mod, I.ok.kind, I.ok.glob, I.ok.blt, I.ok.above, I.ok.inj, I.ok.has, I.ok.cab, (fun z => Bool.noConfusion z), I.ok.frames, I.ok.stk, I.ok.exf, I.ok.bs, I.ok.bsz, I.ok.noex, I.ok.exfs, I.ok.funs, I.ok.frf⟩, I.os, I.bare, I.base, I.loc, I.cell, I.free, I.freeC, I.pin, I.hok, I.len⟩
theorem inv_unhand (h0 : X.Ok) (I : Inv (Cx.hand X e) pins σ H s) : Inv X pins σ H s := ⟨h0, I.os, I.bare, I.base, I.loc, I.cell, I.free, I.freeC, I.pin, I.hok, I.len⟩
theorem FlyX.inv (f : FlyX X pins σ H ea c s) : Inv X pins σ H s := by
  obtain ⟨s1, H1, I, os, bare, un, Bs, a0, fl, old, hok⟩ := f
  exact Inv.call' (ch := []) I os un (hok.kept fl.1) bare (fun b z => absurd z (by simp))
theorem FlyX.moved {h' : Heap} {s1 : Shared} {H1 : Hp} {Bs : Heap} {a0 : Value} (I : Inv X pins σ H1 s1) (os : s.os = s1.os) (bare : AllBare s.gens) (un : Un (frs X.stack) [] H1 H s1.heap s.heap)
    (old : ∀ b o o', s1.heap.get? b = some o' → b ∉ frs X.stack → s.heap.get? b = some o → Bs.get? b = some o) (hok : HOk X.prog X.w H Bs) (fl : Heap.FlyingW Bs X.stack ea (.ref c) a0 h') (sl : s.heap.UpToSlots h') : FlyX X pins σ H ea c { s with heap := h' } := by
  refine ⟨s1, H1, I, os, bare, fly_un un old fl.1 sl I.stack I.stkFree, Bs, a0, fl, fun b o o' q nb eb => ?_, hok⟩
  obtain ⟨o2, e2⟩ := un.there b o' q (by simp)
  have e3 := old b o2 o' q nb e2
  have e4 := fl.1 b o2 e3
  have eb' : h'.get? b = some o := eb
  rw [eb'] at e4
  cases e4
  exact e3
theorem FlyX.lands (f : FlyX X pins σ H ea c s) {A : Around} {Q : Unit → Shared → Prop} {E : Value → Shared → Prop} (k : ∀ h', FlyX X pins σ H ea c { s with heap := h' } → Q () { s with heap := h' }) : wpAny (model X.prog X.w) A (setFlight (.ref ea) none) Q E s := by
  obtain ⟨s1, H1, I, os, bare, un, Bs, a0, fl, old, hok⟩ := f
  exact lands_againW fl fun h' x1 x2 => k h' (FlyX.moved I os bare un old hok x1 x2)
theorem FlyX.looks (hst : X.stack = X.env :: X.outer) (hf : X.env.frame = some X.env.locals) (f : FlyX X pins σ H ea c s) {Q : Unit → Shared → Prop} {E : Value → Shared → Prop} (k : ∀ h', FlyX X pins σ H ea c { s with heap := h' } → Q () { s with heap := h' }) :
    wpAny (model X.prog X.w) X.A (noteFrame (.ref ea) X.env) (fun _ s2 => wpAny (model X.prog X.w) X.A (setFlight (.ref ea) none) Q E s2) E s := by
  obtain ⟨s1, H1, I, os, bare, un, Bs, a0, fl, old, hok⟩ := f
  have fl' : Heap.FlyingW Bs (X.env :: X.outer) ea (.ref c) a0 s.heap := by rw [← hst]; exact fl
  refine wpAny_looks_onW (by rw [I.ok.frames, hst]) hf fl' fun h4 x1 x2 => wpAny_landsW x1 fun h5 y1 y2 => k h5 ?_
  rw [← hst] at y1
  exact FlyX.moved I os bare un old hok y1 (x2.trans y2)
theorem FlyX.at_ (f : FlyX X pins σ H ea c s) : excAt ea c s.heap := by
  obtain ⟨s1, H1, I, os, bare, un, Bs, a0, fl, old, hok⟩ := f
  exact fl.there
theorem objOk_there {P : Program} {w : World} {H : Hp} {h : Heap} {a : Addr} {o : HO} (x : ObjOk P w H h a o) : ∃ u, h.get? a = some u := by
  cases o with
  | lst xs => obtain ⟨_, _, _, _, e⟩ := x; exact ⟨_, e⟩
  | tup xs => obtain ⟨_, _, _, o, e, _⟩ := x; exact ⟨_, e⟩
  | dK kvs => obtain ⟨_, _, _, _, o, _, _, e, _⟩ := x; exact ⟨_, e⟩
  | dT kvs => obtain ⟨_, _, _, _, o, _, _, e, _⟩ := x; exact ⟨_, e⟩
  | set S n => obtain ⟨⟨o, _, _, _, e, _⟩, _⟩ := x; exact ⟨_, e⟩
  | ins C dx fs => obtain ⟨_, _, _, e, _⟩ := x; exact ⟨_, e⟩
  | own y => exact x
  | xd fs => obtain ⟨_, ⟨_, _, _, e, _⟩, _⟩ := x; exact ⟨_, e⟩
  | rng lo hi => obtain ⟨_, _, _, e⟩ := x; exact ⟨_, e⟩
  | frz ob u => obtain ⟨e, _⟩ := x; exact ⟨_, e⟩
  | tbl ps => exact ⟨_, x⟩
  | met f y => exact ⟨_, x⟩
  | ext φ => obtain ⟨_, e, _⟩ := x; exact e
/-- the exception is tracked from here on -/
theorem FlyX.track (f : FlyX X pins σ H ea c s) : H ea = none ∧ Inv X pins σ (upd H ea (.ext (excAt ea c))) s := by
  have ha := f.at_
  obtain ⟨s1, H1, I, os, bare, un, Bs, a0, fl, old, hok⟩ := f
  have hn : H ea = none := by
    cases q : H ea with
    | none => rfl
    | some o =>
      obtain ⟨u, eu⟩ := objOk_there (hok ea o q)
      rw [fl.2.1] at eu
      cases eu
  have hf : ea ∉ frs X.stack := fun z => by
    obtain ⟨_, o, eo, nf⟩ := fl.2.2.1.mem z
    obtain ⟨oe, vs, he, _, hd, _⟩ := fl.first
    rw [eo] at he
    cases he
    exact nf _ hd
  have h1 : ∀ o, s1.heap.get? ea = some o → False := fun o q => by
    obtain ⟨oe, _, he, _⟩ := fl.first
    have := old ea oe o q hf he
    rw [fl.2.1] at this
    cases this
  have sm := same_new hn (.ext (excAt ea c))
  refine ⟨hn, Inv.call' (ch := []) I os ⟨un.keep, un.slot, fun b o q n hx => ?_, un.there, fun b xs q => sm _ _ (un.tups b xs q), fun b o u q => sm _ _ (un.frzs b o u q), fun b ps q => ?_⟩ (fun b o q => ?_) bare (fun b z => absurd z (by simp))⟩
  · have nb : b ≠ ea := fun z => h1 o (by rw [← z]; exact q)
    rw [upd_ne nb]
    exact un.free b o q n hx
  · obtain ⟨more, e⟩ := un.tbls b ps q
    exact ⟨more, sm _ _ e⟩
  · by_cases nb : b = ea
    · subst nb
      rw [upd_same] at q
      cases q
      obtain ⟨o, e1, e2⟩ := ha
      exact ⟨⟨o, e1, e2⟩, ⟨o, e1⟩, fun h1 h2 ⟨o', z1, z2⟩ k => ⟨o', k o' z1, z2⟩⟩
    · rw [upd_ne nb] at q
      exact ((hok.kept fl.1) b o q).stay (fun _ _ _ z => z) (fun _ z => sm _ _ z) fun _ _ z => sm _ _ z
end
end L2.PU

set_option Elab.async false
set_option linter.all false
set_option maxRecDepth 100000
set_option maxHeartbeats 4000000
namespace L2.PU
open PySem PySem.Spec PyProof.Rows

/-- one except clause: of which classes it is known whether they match; the name's slot; the suite -/
structure HD where
  m : Addr → Option Bool
  i : Nat
  G : Rho → Option Out
def aft (i : Nat) : Option Out → Option Out
  | some (.nx ρ) => some (.nx (ρ.set i none))
  | some (.bk ρ) => some (.bk (ρ.set i none))
  | some (.ct ρ) => some (.ct (ρ.set i none))
  | some (.rt d) => some (.rt d)
  | _ => none
def hands : List HD → Addr → Rho → Option Out
  | [], _, _ => none
  | h :: r, c, ρ => match h.m c with
    | some true => aft h.i (h.G (ρ.set h.i (some (.sh (.exc c)))))
    | some false => hands r c ρ
    | none => none
def sTry (F : Rho → Option Out) (hs : List HD) : Rho → Option Out := fun ρ => match F ρ with
  | some (.ex c ρ') => hands hs c ρ'
  | o => o
section
variable {X : Cx} {pins : List (Addr × Obj)} {σ : St} {H B : Hp} {s : Shared} {ρ : Rho}
theorem Rel.unset {K : PySem.W.Frag} {i : Nat} (r : Rel K B ρ σ H) : Rel K B (ρ.set i none) (σ.set i none) H := by
  obtain ⟨O, h1, ho, h2, hl, h3⟩ := r
  have hO : ∀ (j : Nat) (a : Addr), (if j = i then none else O j) = some a → O j = some a := fun j a q => by
    split at q
    · cases q
    · exact q
  have less : Same (Off H O) (Off H fun j => if j = i then none else O j) := Off.less fun j a q => ⟨j, hO j a q⟩
  refine ⟨fun j => if j = i then none else O j, fun j k a q1 q2 => h1 j k a (hO j a q1) (hO k a q2), fun j a q => ho j a (hO j a q), h2.trans less, by rw [List.length_set, List.length_set, hl], fun j sv q => ?_⟩
  have e : j ≠ i := fun e => by
    subst e
    by_cases hj : j < ρ.length
    · rw [List.getElem?_set_self hj] at q; cases q
    · rw [List.getElem?_eq_none (by rw [List.length_set]; omega)] at q; cases q
  rw [List.getElem?_set_ne (Ne.symm e)] at q
  have z := h3 j sv q
  cases sv with
  | sh d' => obtain ⟨v', e1, e2⟩ := z; exact ⟨v', by rw [List.getElem?_set_ne (Ne.symm e)]; exact e1, e2.mono less⟩
  | own ds => obtain ⟨a, vs, e1, e2, e3, e4⟩ := z; exact ⟨a, vs, by show (if j = i then none else O j) = some a; rw [if_neg e]; exact e1, by rw [List.getElem?_set_ne (Ne.symm e)]; exact e2, e3, e4.mono less⟩
  | oin a C dx fs => obtain ⟨e1, e2, e3, vs, e4, e5⟩ := z; exact ⟨by show (if j = i then none else O j) = some a; rw [if_neg e]; exact e1, by rw [List.getElem?_set_ne (Ne.symm e)]; exact e2, e3, vs, e4, e5.mono less⟩
theorem unb_ok {i : Nat} {n : Str} {pos : Pos} {E : Value → Shared → Prop} {Q : Unit → Shared → Prop} (I : Inv X pins σ H s) (hN : X.N.Nodup) (hi : X.N[i]? = some n) (hloc : X.env.scope.names.lookup n = some .local) (k : ∀ s', Inv X pins (σ.set i none) H s' → Q () s') :
    wpAny (model X.prog X.w) X.A (do bindName X.env n .none; unbindBehindTheSuite X.env n pos) Q E s := by
  have hcls : (X.env.scope.kind == .class || (X.env.scope.kind == .module && X.env.locals != X.env.globals)) = false := by rw [I.ok.kind]; rfl
  refine wpAny_bind (wpAny_bindName (store_ok I hN hi (.inl hloc) (v := .non) rfl (fun s1 I1 => ?_) (.inr hloc)))
  have hiσ : i < σ.length := by rw [I.len]; exact (List.getElem?_eq_some_iff.mp hi).1
  obtain ⟨m, hn, hl⟩ := id I1.loc
  obtain ⟨u, ru, l⟩ := hl i n .non hi (List.getElem?_set_self hiσ) (.inl hloc)
  have hv : m n = some u := by
    rcases l with ⟨_, e⟩ | ⟨k, _⟩
    · exact e
    · have k' : X.env.scope.names.lookup n = some .cell ∨ X.env.scope.names.lookup n = some .free := k
      rw [hloc] at k'
      rcases k' with z | z <;> cases z
  unfold unbindBehindTheSuite
  refine wpAny_onRaise (wpAny_unbindName_local hloc hn hv hcls fun h' u' hn' hs => k _ ?_)
  have neL : ∀ b o, X.s₀.heap.get? b = some o → b ≠ X.env.locals := fun b o e => Nat.ne_of_lt (Nat.lt_of_lt_of_le (Heap.lt_size e) I1.ok.above)
  refine ⟨I1.ok, I1.os, I1.bare, ⟨fun b o e n hb hx => (hs.2 b (neL b o e)).trans (I1.base.keep b o e n hb hx), fun b o e n hb hx => ?_, I1.base.free, fun b o e hx => ?_, I1.base.tups, I1.base.frzs, I1.base.tbls⟩,
    ⟨_, hn', fun j y v' e1 e2 e3 => ?_⟩, fun y c e => ?_, I1.free, I1.freeC, fun p hp => ?_, fun b ob e => ?_, by rw [List.length_set]; exact I.len⟩
  · obtain ⟨sl, e1⟩ := I1.base.slot b o e n hb hx
    exact ⟨sl, (hs.2 b (neL b o e)).trans e1⟩
  · obtain ⟨o', e1⟩ := I1.base.there b o e hx
    exact ⟨o', (hs.2 b (neL b o e)).trans e1⟩
  · have hj : j ≠ i := fun z => by
      subst z
      rw [List.getElem?_set_self hiσ] at e2
      cases e2
    rw [List.getElem?_set_ne (Ne.symm hj)] at e2
    obtain ⟨w', r', q⟩ := hl j y v' e1 (by rw [List.getElem?_set_ne (Ne.symm hj)]; exact e2) e3
    refine ⟨w', r', ?_⟩
    rcases q with ⟨k1, e⟩ | ⟨k1, c, e, z⟩
    · have ny : y ≠ n := fun z => hj (nodup_ix hN e1 (z ▸ hi))
      exact .inl ⟨k1, by show (if y = n then u' else m y) = some w'; rw [if_neg ny]; exact e⟩
    · exact .inr ⟨k1, c, e, z.sameBut hs (I1.cne y c e)⟩
  · obtain ⟨w', z⟩ := I1.cell y c e
    exact ⟨w', z.sameBut hs (I1.cne y c e)⟩
  · obtain ⟨e, n0, ne, nf, d⟩ := I1.pin p hp
    exact ⟨(hs.2 p.1 ne).trans e, n0, ne, nf, d⟩
  · refine (I1.hok b ob e).stay (fun c' w' hc q => (hs.2 c' ?_).trans q) (fun _ q => q) fun _ _ q => q
    rintro rfl
    have hf := I1.free
    rcases hc with z | z
    · rw [← z, hf] at e; cases e
    · rw [hf] at z; cases z
end

/-- the except clauses from here on -/
def PDHs (X : Cx) (B : Hp) (hl : List ExceptHandler) (hs : List HD) : Prop := ∀ (pins : List (Addr × Obj)) (σ : St) (H : Hp) (c ea : Addr) (s : Shared) (E : Ends) (ρ : Rho), FlyX X pins σ H ea c s → Rel X.K B ρ σ H → GoodO X B E (hands hs c ρ) →
  wpAny (model X.prog X.w) X.A (handleBy (.ref ea) X.env hl) (SP X pins E) X.xe s
section
variable {X : Cx} {B : Hp} {x n : Str} {i : Nat} {C : Addr} {np pos : Pos} {b₀ : Stmt} {body : List Stmt} {rest : List ExceptHandler} {m : Addr → Option Bool} {G : Rho → Option Out} {hs : List HD}
theorem pdh_nil : PDHs X B [] [] := fun _ _ _ _ _ _ _ _ _ _ h => False.elim h
theorem pdh_cons (hg : Gl X x) (hm2 : X.mg x = some (.ref C)) (hm : ∀ c b, m c = some b → PySem.W.exmOne X.K (.ref c) (.ref C) = some b) (hN : X.N.Nodup) (hi : X.N[i]? = some n) (hloc : X.env.scope.names.lookup n = some .local) (hb : ∀ e B, PDB (Cx.hand X e) B (b₀ :: body) G) (hr : PDHs X B rest hs)
    (hdb : (x == ("__debug__" : Str)) = false := by decide) : PDHs X B (.ExceptHandler (some (.Name x np)) (some n) (b₀ :: body) pos :: rest) (⟨m, i, G⟩ :: hs) := by
  intro pins σ H c ea s E ρ f r h
  have I := f.inv
  refine wpAny_handleBy_cons (codeAny_handlers_test (ld_glob (inv_hand I (.ref ea)) hg hm2 ?_ hdb)) (by intro q; cases q)
  unfold hands at h
  dsimp only at h
  cases q : m c with
  | none => rw [q] at h; exact False.elim h
  | some b =>
    rw [q] at h
    have lt : PySem.W.Looks (model X.prog X.w) s.heap (typeOf (.ref ea)) (.ref c) := by
      obtain ⟨o, ho, hc⟩ := f.at_
      rw [← hc]
      exact (PySem.W.Looks.ld ho).andThen .now
    refine (PySem.W.exm_one (M := model X.prog X.w) I.kIn lt (hm c b q)).here ?_
    cases b with
    | false => exact hr pins σ H c ea s E ρ f r h
    | true =>
      refine codeAny_handlers_suite_as ?_
      refine f.lands fun h6 f6 => ?_
      obtain ⟨hn, I6⟩ := f6.track
      refine store_ok (X := Cx.hand X (.ref ea)) (inv_hand I6 _) hN hi (.inl hloc) (v := V.ref ea) rfl (fun s7 I7 => ?_) (.inr hloc)
      have rel7 : Rel X.K B (ρ.set i (some (.sh (.exc c)))) (σ.set i (some (.ref ea))) (upd H ea (.ext (excAt ea c))) := by
        obtain ⟨O, h1, ho, h2, hl, h3⟩ := r.mono (same_new hn (.ext (excAt ea c)))
        refine Rel.set_sh O h1 ho h2 hl (fun j sv e _ => h3 j sv e) (.exc (Off.of upd_same fun j z => ?_))
        rcases ho j ea z with ⟨vs, w⟩ | ⟨C', dx, vs, w⟩ <;> rw [upd_same] at w <;> cases w
      refine wpAny_mono (hb (.ref ea) B pins s7 _ _ { nx := fun σ' H' => E.nx (σ'.set i none) H', rt := E.rt, bk := fun σ' H' => E.bk (σ'.set i none) H', ct := fun σ' H' => E.ct (σ'.set i none) H' } I7 ⟨_, rel7, ?_⟩) (fun fl s8 hq => ?_) (fun _ _ z => False.elim z)
      · dsimp only at h
        cases qg : G (ρ.set i (some (.sh (.exc c)))) with
        | none => rw [qg] at h; exact False.elim h
        | some o =>
          rw [qg] at h
          cases o with
          | nx ρ' => exact fun σ' H' r' => h _ H' r'.unset
          | bk ρ' => exact fun σ' H' r' => h _ H' r'.unset
          | ct ρ' => exact fun σ' H' r' => h _ H' r'.unset
          | rt d => exact h
          | ex c' ρ' => exact False.elim h
      · have ok := I.ok
        show wpAny (model X.prog X.w) X.A (do bindName X.env n .none; unbindBehindTheSuite X.env n pos) (fun _ s3 => SP X pins E fl s3) X.xe s8
        cases fl with
        | next => obtain ⟨σ', H', I8, q8⟩ := hq; exact unb_ok (inv_unhand ok I8) hN hi hloc fun s9 I9 => ⟨_, _, I9, q8⟩
        | brk => obtain ⟨σ', H', I8, q8⟩ := hq; exact unb_ok (inv_unhand ok I8) hN hi hloc fun s9 I9 => ⟨_, _, I9, q8⟩
        | cont => obtain ⟨σ', H', I8, q8⟩ := hq; exact unb_ok (inv_unhand ok I8) hN hi hloc fun s9 I9 => ⟨_, _, I9, q8⟩
        | ret u => obtain ⟨v, σ', H', I8, rv, q8⟩ := hq; exact unb_ok (inv_unhand ok I8) hN hi hloc fun s9 I9 => ⟨v, _, _, I9, rv, q8⟩
/-- the context of a try's body: what is wanted of an exception is that it is handled -/
abbrev Cx.tri (X : Cx) (pins : List (Addr × Obj)) (hl : List ExceptHandler) (Q : Flow → Shared → Prop) : Cx :=
  { X with pn := X.pn ++ pins, xe := fun e s => wpAny (model X.prog X.w) X.A (noteFrame e X.env) (fun _ s2 => wpAny (model X.prog X.w) X.A (setFlight e none) (fun _ s3 => wpAny (model X.prog X.w) X.A (handleBy e X.env hl) Q X.xe s3) X.xe s2) X.xe s }
variable {pins pins' : List (Addr × Obj)} {σ : St} {H : Hp} {s : Shared} {hl : List ExceptHandler} {Q : Flow → Shared → Prop} {c ea : Addr} {e : Value}
theorem ok_tri (ok : X.Ok) : (Cx.tri X pins hl Q).Ok :=
  ⟨ok.mod, ok.kind, ok.glob, ok.blt, ok.above, ok.inj, ok.has, ok.cab, ok.hd, ok.frames, ok.stk, ok.exf, ok.bs, ok.bsz, ok.noex, ok.exfs, ok.funs, ok.frf⟩
theorem ok_untri (ok : (Cx.tri X pins hl Q).Ok) : X.Ok :=
  ⟨ok.mod, ok.kind, ok.glob, ok.blt, ok.above, ok.inj, ok.has, ok.cab, ok.hd, ok.frames, ok.stk, ok.exf, ok.bs, ok.bsz, ok.noex, ok.exfs, ok.funs, ok.frf⟩
theorem inv_tri (I : Inv X pins σ H s) : Inv (Cx.tri X pins hl Q) [] σ H s := ⟨ok_tri I.ok, I.os, I.bare, I.base, I.loc, I.cell, I.free, I.freeC, fun p hp => I.pin p (by rwa [List.append_nil] at hp), I.hok, I.len⟩
theorem inv_untri (I : Inv (Cx.tri X pins hl Q) pins' σ H s) : Inv X pins σ H s := ⟨ok_untri I.ok, I.os, I.bare, I.base, I.loc, I.cell, I.free, I.freeC, fun p hp => I.pin p (List.mem_append_left _ hp), I.hok, I.len⟩
/-- an exception is looked at -/
theorem exc_looks (hst : X.stack = X.env :: X.outer) (hf : X.env.frame = some X.env.locals) (x : Exc (Cx.tri X pins hl Q) pins' σ H c e s) {R : Unit → Shared → Prop} {E : Value → Shared → Prop}
    (k : ∀ ea h', e = .ref ea → FlyX X pins σ H ea c { s with heap := h' } → R () { s with heap := h' }) :
    wpAny (model X.prog X.w) X.A (noteFrame e X.env) (fun _ s2 => wpAny (model X.prog X.w) X.A (setFlight e none) R E s2) E s := by
  obtain ⟨ea, rfl, ⟨h, args, hm, I'⟩ | ⟨s1, H1, I', os, bare, un, fl⟩⟩ := x
  · have I := inv_untri I'
    have ff : h.FunFrames X.base X.stack := I.stack
    obtain ⟨t, he, htn, ht⟩ := hm.there
    have fresh : ∀ b, h.get? b = none → (PySem.W.hideAll h (frs X.stack)).get? b = none := fun b hb => by
      cases q : (PySem.W.hideAll h (frs X.stack)).get? b with
      | none => rfl
      | some o => have := PySem.W.of_hideAll _ q; rw [hb] at this; cases this
    have fh : h.FunFrames (PySem.W.hideAll h (frs X.stack)) X.stack := PySem.W.funFrames_hide ff fun env he a ha => List.mem_filterMap.mpr ⟨env, he, ha⟩
    have fs : s.heap.FunFrames (PySem.W.hideAll h (frs X.stack)) X.stack := fh.of_keeps fun b o hb _ => ⟨o, hm.keeps b o hb, rfl⟩
    unfold noteFrame
    simp only [hf]
    refine wpAny_bind (wpAny_field he rfl (x := Value.none) rfl ?_)
    rw [if_neg (by decide)]
    have fs' : s.heap.FunFrames (PySem.W.hideAll h (frs X.stack)) (X.env :: X.outer) := hst ▸ fs
    refine wpAny_entryW (base := PySem.W.hideAll h (frs X.stack)) (a0 := .ref t) (by rw [I.ok.frames, hst]) fs' hf he (fun b o hb => hm.keeps b o (PySem.W.of_hideAll _ hb)) (fresh ea hm.new) rfl (by show 1 < 6; decide) rfl fun h4 hN => ?_
    obtain ⟨n1, n2, n3, n4⟩ := hN
    refine wpAny_landsW ⟨n1, fresh ea hm.new, n2, n3⟩ fun h5 y1' y2 => k ea h5 rfl ?_
    have y1 : Heap.FlyingW (PySem.W.hideAll h (frs X.stack)) X.stack ea (.ref c) (.ref t) h5 := by
      obtain ⟨z1, z2, z3, z4⟩ := y1'
      exact ⟨z1, z2, by rw [hst]; rw [hst] at z3; exact z3, z4⟩
    refine FlyX.moved (s1 := { s with heap := h }) I rfl I.bare (Un.kept hm.keeps) (fun b o o' q nb eb => ?_) (fun a o ea' => ?_) y1 (Heap.UpToSlots.trans n4 y2)
    · have := hm.keeps b o' q
      rw [eb] at this
      cases this
      exact PySem.W.hideAll_get _ q nb
    · refine (I.hok a o ea').stay (fun b u hb q => PySem.W.hideAll_get _ q fun z => ?_) (fun _ q => q) fun _ _ q => q
      have hn := I.stkFree b z
      rcases hb with rfl | hb
      · rw [hn] at ea'; cases ea'
      · rw [hn] at hb; cases hb
  · exact FlyX.looks hst hf ⟨s1, H1, inv_untri I', os, bare, un, fl⟩ fun h' f => k ea h' rfl f
theorem pds_try {tb : List Stmt} {F : Rho → Option Out} {h₀ : ExceptHandler} {pos : Pos} (hst : X.stack = X.env :: X.outer) (hf : X.env.frame = some X.env.locals) (hb : ∀ pins Q, PDB (Cx.tri X pins (h₀ :: hl) Q) B tb F) (hh : PDHs X B (h₀ :: hl) hs) :
    PDS X B (.Try tb (h₀ :: hl) [] [] pos) (sTry F hs) := by
  intro pins s σ H E I h
  obtain ⟨ρ, r, h⟩ := h
  refine wpAny_Try_except (wpAny_mono (hb pins (SP X pins E) [] s σ H E (inv_tri I) ⟨ρ, r, ?_⟩) (fun fl s1 q => ?_) fun e s1 z => z)
  · unfold sTry at h
    cases q : F ρ with
    | none => rw [q] at h; exact False.elim h
    | some o =>
      rw [q] at h
      cases o with
      | nx ρ' => exact h
      | rt d => exact h
      | bk ρ' => exact h
      | ct ρ' => exact h
      | ex c ρ' => exact fun pins' s' σ' H' e r' x => exc_looks hst hf x fun ea h' ee f => by subst ee; exact hh pins σ' H' c ea _ E ρ' f r' h
  · cases fl with
    | next => obtain ⟨σ', H', I', q'⟩ := q; exact wpAny_execs_nil ⟨σ', H', inv_untri I', q'⟩
    | brk => obtain ⟨σ', H', I', q'⟩ := q; exact ⟨σ', H', inv_untri I', q'⟩
    | cont => obtain ⟨σ', H', I', q'⟩ := q; exact ⟨σ', H', inv_untri I', q'⟩
    | ret u => obtain ⟨v, σ', H', I', rv, q'⟩ := q; exact ⟨v, σ', H', inv_untri I', rv, q'⟩
end
end L2.PU

set_option Elab.async false
set_option linter.all false
set_option maxRecDepth 100000
set_option maxHeartbeats 4000000
namespace L2.PU
open PySem PySem.Spec PyProof.Rows

/-! ### {k: v} -/
def keyD : D → Option Key
  | .int i => some (.inl i)
  | .str x => some (.inr x)
  | _ => none
section
variable {X : Cx} {B : Hp} {k v : Expr} {fk fv : Rho → M D} {pos : Pos}
def disp1 (fk fv : Rho → M D) : Rho → M D := fun ρ => bnd (fk ρ) fun k => bnd (fv ρ) fun v => match keyD k with
  | some q => if v.imm = true then ok (.dk [(q, v)]) else none
  | none => none
theorem is_key {K : PySem.W.Frag} {H : Hp} {d : D} {x : V} {q : Key} (i : Is K H d x) (h : keyD d = some q) : x = kV q := by
  cases i with
  | int j => cases h; rfl
  | str j => cases h; rfl
  | _ => cases h
theorem pd_disp1 (hk : PD X B k fk) (hv : PD X B v fv) : PD X B (.Dict [some k] [v] pos) (disp1 fk fv) := by
  refine PE.of (pe_disp (pps_cons hk hv pps_nil) rfl rfl (by simp) (by show 1 ≤ 15; omega)) fun σ H Q h => ?_
  obtain ⟨ρ, r, h⟩ := h
  intro p hp
  have s0 := same_new hp (.dK [])
  refine ⟨ρ, r.mono s0, (Res.bind h).mono s0 fun dk h1 x H1 e1 i1 => ⟨ρ, (r.mono s0).mono e1, (Res.bind h1).mono (s0.trans e1) fun dv h2 y H2 e2 i2 => ?_⟩⟩
  cases q : keyD dk with
  | none => rw [q] at h2; exact False.elim h2
  | some kk =>
    rw [q] at h2
    dsimp only at h2
    split at h2
    case isFalse => exact False.elim h2
    rename_i him
    have hx := is_key i1 q
    have ep : H2 p = some (.dK []) := e2 _ _ (e1 _ _ upd_same)
    refine ⟨ep, [(kk, y)], by rw [hx]; rfl, by show 1 ≤ 15; omega, ?_⟩
    have np : ∀ b o, H b = some o → b ≠ p := fun b o z w => by rw [w, hp] at z; cases z
    have sH : Same H (upd H2 p (.dK (mergeK [] [(kk, y)]))) := fun b o z => by
      rw [upd_ne (np b o z)]
      exact e2 _ _ (e1 _ _ (s0 _ _ z))
    refine h2 _ _ sH (.dk upd_same (.cons ?_ .nil))
    refine Is.alike (fun b xs z => ?_) (fun b o u z => ?_) him i2
    · rw [upd_ne]; exact z
      intro w; rw [w, ep] at z; cases z
    · rw [upd_ne]; exact z
      intro w; rw [w, ep] at z; cases z
end
end L2.PU

set_option Elab.async false
set_option linter.all false
set_option maxRecDepth 100000
set_option maxHeartbeats 4000000
namespace L2.PU
open PySem PySem.Spec PyProof.Rows

/-! ### comprehensions: what is walked, the names, the test -/
section
variable {X : Cx} {B : Hp} {tg iter c : Expr} {fa : Rho → M D} {ft : Rho → M Bool} {pos p : Pos} {x y : Str} {k k2 : Nat}
def itE (f : Rho → M D) : Rho → M (List D) := fun ρ => bnd (f ρ) itD
theorem pit_D (h : PD X B iter fa) : PIt X B tg iter (itE fa) := by
  intro pins s σ H R ρ I r q
  refine pi_D (tg := tg) h pins s σ H R I ⟨ρ, r, (Res.bind q).imp fun d q1 v H1 e1 i1 => ?_⟩
  cases i1 with
  | lst hh rr => exact .inl ⟨_, rfl, ⟨_, hh⟩, q1 _ H1 e1 (itd_list hh rr)⟩
  | tup hh rr => exact .inr ⟨_, rfl, ⟨_, hh⟩, q1 _ H1 e1 (itd_tup hh rr)⟩
  | _ => exact False.elim q1
def rngD : D → M (List D)
  | .int j => if -(2 ^ 62) ≤ j ∧ j < 2 ^ 62 then ok (rng 0 j.toNat) else none
  | _ => none
def itR (f : Rho → M D) : Rho → M (List D) := fun ρ => bnd (f ρ) rngD
theorem pit_r1 (hg : Gl X "range") (hm : X.mg "range" = none) (h : PD X B c fa) (hs : nostar c = true := by rfl) : PIt X B tg (.Call (.Name "range" p) [c] [] pos) (itR fa) := by
  intro pins s σ H R ρ I r q
  refine pi_range1 (tg := tg) hg hm (pa_cons h pa_nil (star_ok hs)) (star1 hs) pins s σ H R I ⟨ρ, r, (Res.bind q).imp fun d q1 v H1 e1 i1 => ?_⟩
  cases i1 with
  | int j =>
    dsimp only [rngD] at q1
    split at q1
    · rename_i hb; exact ⟨_, rfl, hb.1, hb.2, q1 _ H1 e1 (itd_rng 0 _ H1)⟩
    · exact False.elim q1
  | _ => exact False.elim q1
def h1 : D → Option (List D) := fun d => some [d]
theorem pdn_1 (hN : X.N.Nodup) (hi : X.N[k]? = some x) (hx : Loc X.env.scope x) (hf : X.fn x = true ∨ X.env.scope.names.lookup x = some .local := by first | exact .inl rfl | exact .inr rfl | assumption) : PDH X (.Name x pos) [k] h1 := by
  intro pins s σ H v u Q I r h
  obtain ⟨d, es, i, e, q⟩ := h
  cases e
  exact pg_name hN hi hx hf pins s σ H v u Q I r (q [v] (.cons i .nil) rfl)
def h2 : D → Option (List D)
  | .tup [a, b] => some [a, b]
  | _ => none
theorem pdn_2 {p1 p2 : Pos} {kt : Nat} (hc : X.calm = true) (hN : X.N.Nodup) (hi : X.N[k]? = some x) (hx : Loc X.env.scope x) (hj : X.N[k2]? = some y) (hy : Loc X.env.scope y)
    (hf : X.fn x = true ∨ X.env.scope.names.lookup x = some .local := by first | exact .inl rfl | exact .inr rfl | assumption) (hf2 : X.fn y = true ∨ X.env.scope.names.lookup y = some .local := by first | exact .inl rfl | exact .inr rfl | assumption) :
    PDH X (.Tuple [.Name x p1, .Name y p2] kt pos) [k, k2] h2 := by
  intro pins s σ H v u Q I r h
  obtain ⟨d, es, i1, e, q⟩ := h
  unfold h2 at e
  split at e
  · rename_i a b
    cases e
    cases i1 with
    | tup hh rr =>
      cases rr with
      | cons ia rr =>
        cases rr with
        | cons ib rr =>
          cases rr
          refine pg_tup (n := 2) hc (pgs_cons (pg_name hN hi hx hf) (pgs_cons (pg_name hN hj hy hf2) pgs_nil)) rfl rfl pins s σ H _ u Q I r ?_
          exact ⟨_, _, rfl, hh, rfl, _, _, rfl, _, _, rfl, rfl, q [_, _] (.cons ia (.cons ib .nil)) rfl⟩
  · cases e
theorem pif_none : PIf X B [] (fun _ => ok true) := .inl ⟨rfl, rfl⟩
theorem pif_some (h : PDT X B c ft) : PIf X B [c] ft := .inr ⟨c, rfl, h⟩
end

/-! ### tuple(x), list(x) -/
section
variable {X : Cx} {B : Hp} {e : Expr} {fa : Rho → M D} {pos p : Pos}
def toT : D → M D
  | .lst ds => ok (.tup ds)
  | .tup ds => ok (.tup ds)
  | _ => none
def toL : D → M D
  | .lst ds => ok (.lst ds)
  | .tup ds => ok (.lst ds)
  | _ => none
theorem pd_tuple (hg : Gl X "tuple") (hm : X.mg "tuple" = none) (ha : PD X B e fa) (hs : nostar e = true := by rfl) : PD X B (.Call (.Name "tuple" p) [e] [] pos) (f1 toT fa) := by
  refine PE.of (pe_callTy call_tuple_of hg hm boot_tuple (pa_cons ha pa_nil (star_ok hs)) (he := star_ok hs) (hpl := by rfl)) fun σ H Q h => ?_
  obtain ⟨ρ, r1, h⟩ := h
  refine ⟨ρ, r1, (Res.bind h).imp fun d q1 v H1 e1 i1 => ?_⟩
  cases i1 with
  | lst hh rr => exact ⟨_, _, rfl, .inl ⟨hh, fun l hl => q1 _ _ (e1.trans (same_new hl _)) (.tup (SqT.of upd_same) (rr.mono (same_new hl _)))⟩⟩
  | tup hh rr => exact ⟨_, _, rfl, .inr ⟨hh, q1 _ H1 e1 (.tup hh rr)⟩⟩
  | _ => exact False.elim q1
theorem pd_list (hg : Gl X "list") (hm : X.mg "list" = none) (ha : PD X B e fa) (hs : nostar e = true := by rfl) : PD X B (.Call (.Name "list" p) [e] [] pos) (f1 toL fa) := by
  refine PE.of (pe_callTy call_list_of hg hm boot_list (pa_cons ha pa_nil (star_ok hs)) (he := star_ok hs) (hpl := by rfl)) fun σ H Q h => ?_
  obtain ⟨ρ, r1, h⟩ := h
  refine ⟨ρ, r1, (Res.bind h).imp fun d q1 v H1 e1 i1 => ?_⟩
  cases i1 with
  | lst hh rr => exact ⟨_, _, rfl, .inl hh, fun l hl => q1 _ _ (e1.trans (same_new hl _)) (.lst (SqL.of upd_same) (rr.mono (same_new hl _)))⟩
  | tup hh rr => exact ⟨_, _, rfl, .inr hh, fun l hl => q1 _ _ (e1.trans (same_new hl _)) (.lst (SqL.of upd_same) (rr.mono (same_new hl _)))⟩
  | _ => exact False.elim q1
end
end L2.PU

set_option Elab.async false
set_option linter.all false
set_option maxRecDepth 100000
set_option maxHeartbeats 4000000
namespace L2.PU
open PySem PySem.Spec PyProof.Rows

/-! ### x in y, x not in y: flat data -/
def flD : D → Option V
  | .non => some .non
  | .bl b => some (.bl b)
  | .int i => some (.int i)
  | .str x => some (.str x)
  | _ => none
def flL : List D → Option (List V)
  | [] => some []
  | d :: ds => match flD d, flL ds with
    | some v, some vs => some (v :: vs)
    | _, _ => none
def seqD : D → Option (List D)
  | .lst ds => some ds
  | .tup ds => some ds
  | _ => none
def gIn (neg : Bool) (x y : D) : M D := match flD x, (seqD y).bind flL with
  | some v, some vs => ok (.bl (if neg then !inV v vs else inV v vs))
  | _, _ => none
section
variable {K : PySem.W.Frag} {H : Hp}
theorem fl_is {d : D} {v v' : V} (i : Is K H d v) (h : flD d = some v') : v = v' ∧ flatV v = true := by
  cases i with
  | non => cases h; exact ⟨rfl, rfl⟩
  | bl b => cases h; exact ⟨rfl, rfl⟩
  | int b => cases h; exact ⟨rfl, rfl⟩
  | str b => cases h; exact ⟨rfl, rfl⟩
  | _ => cases h
theorem flL_is : ∀ {ds : List D} {vs vs' : List V}, IsL K H ds vs → flL ds = some vs' → vs = vs' ∧ vs.all flatV = true
  | _, _, _, .nil, h => by cases h; exact ⟨rfl, rfl⟩
  | _, _, _, .cons (d := d) (ds := ds) i r, h => by
    unfold flL at h
    split at h
    · rename_i v0 vs0 h1 h2
      cases h
      obtain ⟨e1, f1⟩ := fl_is i h1
      obtain ⟨e2, f2⟩ := flL_is r h2
      exact ⟨by rw [e1, e2], by rw [List.all_cons, f1, f2]; rfl⟩
    · cases h
end
section
variable {X : Cx} {B : Hp} {a b : Expr} {fa fb : Rho → M D} {pos : Pos}
theorem r_in (neg : Bool) : R2ok X (rIn X.K neg) (gIn neg) := by
  intro H x y dx dy d Q ix iy e q
  unfold gIn at e
  split at e
  · rename_i v vs h1 h2
    cases e
    obtain ⟨e1, f1⟩ := fl_is ix h1
    subst e1
    cases iy with
    | lst hh rr =>
      obtain ⟨e2, f2⟩ := flL_is rr h2
      subst e2
      exact ⟨_, _, rfl, .inl hh, f1, f2, q _ H (Same.refl H) (.bl _)⟩
    | tup hh rr =>
      obtain ⟨e2, f2⟩ := flL_is rr h2
      subst e2
      exact ⟨_, _, rfl, .inr hh, f1, f2, q _ H (Same.refl H) (.bl _)⟩
    | _ => cases h2
  · cases e
theorem in_noerr (neg : Bool) : NoErr (gIn neg) := fun x y c h => by
  unfold gIn at h
  split at h
  · cases h
  · cases h
theorem pd_in (ha : PD X B a fa) (hb : PD X B b fb) (hm : behindInMarks .In b = false := by rfl) : PD X B (.Compare a [.In] [b] pos) (b2 (gIn false) fa fb) := pd_cmp op_in_seq (r_in false) (in_noerr false) ha hb hm
theorem pd_notin (ha : PD X B a fa) (hb : PD X B b fb) (hm : behindInMarks .NotIn b = false := by rfl) : PD X B (.Compare a [.NotIn] [b] pos) (b2 (gIn true) fa fb) := pd_cmp op_notIn_seq (r_in true) (in_noerr true) ha hb hm
theorem pdt_in (ha : PD X B a fa) (hb : PD X B b fb) (hm : behindInMarks .In b = false := by rfl) : PDT X B (.Compare a [.In] [b] pos) (testB (b2 (gIn false) fa fb)) := pdt_cmp op_in_seq (r_in false) (in_noerr false) ha hb hm
theorem pdt_notin (ha : PD X B a fa) (hb : PD X B b fb) (hm : behindInMarks .NotIn b = false := by rfl) : PDT X B (.Compare a [.NotIn] [b] pos) (testB (b2 (gIn true) fa fb)) := pdt_cmp op_notIn_seq (r_in true) (in_noerr true) ha hb hm
theorem flL_strs (ss : List Str) : flL (ss.map D.str) = some (ss.map V.str) := by
  induction ss with
  | nil => rfl
  | cons x r ih => rw [List.map_cons, flL, ih]; rfl
theorem inV_strs (x : Str) (ss : List Str) : inV (.str x) (ss.map V.str) = ss.contains x := by
  unfold inV
  induction ss with
  | nil => rfl
  | cons y r ih =>
    rw [List.map_cons, List.any_cons, ih, List.contains_cons]
    show ((decide (y = x)) || _) = _
    by_cases e : x = y
    · subst e; simp
    · have e' : ¬ y = x := fun z => e z.symm
      simp [e, e']
end
end L2.PU

set_option Elab.async false
set_option linter.all false
set_option maxRecDepth 100000
set_option maxHeartbeats 4000000
namespace L2.PU
open PySem PySem.Spec PyProof.Rows
theorem lk_nil {env : Env} : lkAll [] env = true := rfl
theorem lk_cons {env : Env} {x : Str} {c : Addr} {cl : List (Str × Addr)} (h1 : env.cells.lookup x = some c) (h2 : env.kindOf x = some .cell ∨ env.kindOf x = some .free) (r : lkAll cl env = true) : lkAll ((x, c) :: cl) env = true := by
  unfold lkAll at r ⊢
  rw [List.all_cons, r, Bool.and_true]
  dsimp only
  rw [h1]
  rcases h2 with h2 | h2 <;> rw [h2] <;> simp
section
variable {X : Cx} {B : Hp} {scope : Scope} {cl : List (Str × Addr)} {N' : List Str} {m : Nat} {tg iter elt : Expr} {ifs : List Expr} {pos : Pos} {ks : List Nat} {G : D → Option (List D)} {ft : Rho → M Bool} {fe : Rho → M D} {it : Rho → M (List D)}
theorem pd_comp1 (hclos : closureFor scope X.env = pure cl) (hcell : scope.names.all (fun y => y.2 != .cell) = true) (hkind : scope.kind = .function) (hnames : scope.names.all (fun y => y.2 != .local || scope.names.lookup y.1 == some .local) = true) (hcl : lkAll cl X.env = true)
    (hnm : nmAll X.N N' (relabel scope X.env) = true) (hf : frAll cl (relabel scope X.env) = true) (hl : N'.length = X.N.length + m) (hks : ks.all (fun k => decide (X.N.length ≤ k)) = true) (hcm : X.calm = true) (hi : PIt X B tg iter it)
    (hg : ∀ C s₀ H₀ ex, PDH (cxC X scope cl N' C s₀ H₀ ex) tg ks G) (ht : ∀ C s₀ H₀ ex B, PIf (cxC X scope cl N' C s₀ H₀ ex) B ifs ft) (he : ∀ C s₀ H₀ ex B, PD (cxC X scope cl N' C s₀ H₀ ex) B elt fe)
    (hs : ∀ x, foldedSetIterable iter X.env x = pure x := by intro _; rfl) : PD X B (.ListComp elt [⟨tg, iter, ifs, 0⟩] scope pos) (cmp m it ks G ft fe) :=
  pd_comp hclos (fun y hy => by have := List.all_eq_true.mp hcell y hy; simpa using this) hkind
    (fun y hy z => by have := List.all_eq_true.mp hnames y hy; rw [z] at this; simpa using this) hcl hnm hf hl
    (fun k hk => of_decide_eq_true (List.all_eq_true.mp hks k hk)) hcm hi hg ht he hs
theorem pds_comp1 {i : Nat} {x : Str} {pos' spos : Pos} (hN : X.N.Nodup) (hi0 : X.N[i]? = some x) (hx : Loc X.env.scope x) (hclos : closureFor scope X.env = pure cl) (hcell : scope.names.all (fun y => y.2 != .cell) = true) (hkind : scope.kind = .function) (hnames : scope.names.all (fun y => y.2 != .local || scope.names.lookup y.1 == some .local) = true) (hcl : lkAll cl X.env = true)
    (hnm : nmAll X.N N' (relabel scope X.env) = true) (hf : frAll cl (relabel scope X.env) = true) (hl : N'.length = X.N.length + m) (hks : ks.all (fun k => decide (X.N.length ≤ k)) = true) (hcm : X.calm = true) (hi : PIt X B tg iter it)
    (hg : ∀ C s₀ H₀ ex, PDH (cxC X scope cl N' C s₀ H₀ ex) tg ks G) (ht : ∀ C s₀ H₀ ex B, PIf (cxC X scope cl N' C s₀ H₀ ex) B ifs ft) (he : ∀ C s₀ H₀ ex B, PD (cxC X scope cl N' C s₀ H₀ ex) B elt fe)
    (hsw : swapsWith (.ListComp elt [⟨tg, iter, ifs, 0⟩] scope pos) (some (.Name x pos')) spos.line X.env = pure true := by rfl) (hs : ∀ x, foldedSetIterable iter X.env x = pure x := by intro _; rfl)
    (hfn : X.fn x = true ∨ X.env.scope.names.lookup x = some .local := by first | exact .inl rfl | exact .inr rfl | assumption) :
    PDS X B (.Assign [.Name x pos'] (.ListComp elt [⟨tg, iter, ifs, 0⟩] scope pos) spos) (sSet i (cmp m it ks G ft fe)) :=
  pds_comp hN hi0 hx hclos (fun y hy => by have := List.all_eq_true.mp hcell y hy; simpa using this) hkind
    (fun y hy z => by have := List.all_eq_true.mp hnames y hy; rw [z] at this; simpa using this) hcl hnm hf hl
    (fun k hk => of_decide_eq_true (List.all_eq_true.mp hks k hk)) hcm hi hg ht he hsw hs hfn
end
end L2.PU

set_option Elab.async false
set_option linter.all false
set_option maxRecDepth 100000
set_option maxHeartbeats 4000000
namespace L2.PU
open PySem PySem.Spec PyProof.Rows

/-! ### + of ints, texts, tuples, lists -/
section
variable {X : Cx} {B : Hp} {a b : Expr} {fa fb : Rho → M D} {pos : Pos}
theorem OpR.or {f : Value → Value → Sem Value} {r r' : R2} (h : OpR X f r) (h' : OpR X f r') : OpR X f (fun x y H Q => r x y H Q ∨ r' x y H Q) := by
  intro pins s σ H x y v u Q I rx ry q
  rcases q with q | q
  · exact h pins s σ H x y v u Q I rx ry q
  · exact h' pins s σ H x y v u Q I rx ry q
def rCat0 (K : PySem.W.Frag) : R2 := fun x y H Q => ∃ a b ys, x = .ref a ∧ y = .ref b ∧ SqT K H a [] ∧ SqT K H b ys ∧ Q (.ref b) H
theorem op_cat0 : OpR X (binaryOp .Add) (rCat0 X.K) := by
  intro pins s σ H x y v u Q I rx ry h
  obtain ⟨a, b, ys, rfl, rfl, ha, hb, q⟩ := h
  cases rx
  cases ry
  obtain ⟨its, r1, p1, _⟩ := I.tuple ha
  obtain ⟨its2, r2, p2, _⟩ := I.tuple hb
  have e1 : its = [] := r1.nil_iff.mpr rfl
  subst e1
  obtain ⟨⟨c1, d1, x1, l1⟩, o1, k1, n1, z1⟩ := p1
  obtain ⟨⟨c2, d2, x2, l2⟩, o2, k2, n2, z2⟩ := p2
  dsimp only at k1 z1 k2 z2
  subst k1 z1 k2 z2
  exact concat_meets ⟨_, o1, rfl⟩ ⟨_, o2, rfl⟩ noFill_tuple_add seq_tuple_add PySem.F.slot_tuple_add PySem.F.entry_tuple_add (PySem.F.args_tuple_add_2 _ _)
    (tuple_addW0 a b _ _ n1 n2 d1 d2 l1 l2 rfl) ⟨o1, o2, ⟨.ref b, H, I, rfl, q⟩⟩
def rCatG (K : PySem.W.Frag) : R2 := fun x y H Q => ∃ a b xs ys, x = .ref a ∧ y = .ref b ∧ SqL K H a xs ∧ SqL K H b ys ∧ xs.length + ys.length ≤ sizeLine ∧ ∀ p, H p = none → Q (.ref p) (upd H p (.lst (xs ++ ys)))
theorem op_catG : OpR X (binaryOp .Add) (rCatG X.K) := by
  intro pins s σ H x y v u Q I rx ry h
  obtain ⟨a, b, xs, ys, rfl, rfl, ha, hb, hz, q⟩ := h
  cases rx
  cases ry
  obtain ⟨its, r1, p1, _⟩ := I.list ha
  obtain ⟨its2, r2, p2, _⟩ := I.list hb
  have hl1 := r1.length
  have hl2 := r2.length
  obtain ⟨⟨c1, d1, x1, l1⟩, n1, o1, k1, _, z1⟩ := p1
  obtain ⟨⟨c2, d2, x2, l2⟩, n2, o2, k2, _, z2⟩ := p2
  dsimp only at k1 z1 k2 z2
  subst k1 z1 k2 z2
  refine concat_meets ⟨_, o1, rfl⟩ ⟨_, o2, rfl⟩ noFill_list_add seq_list_add PySem.F.slot_list_add PySem.F.entry_list_add (PySem.F.args_list_add_2 _ _)
    (list_addW a b _ _ n1 n2 d1 d2 l1 l2 (by rw [List.size_toArray, List.size_toArray, ← hl1, ← hl2]; exact hz)) ⟨o1, o2, ?_⟩
  have ea : its.toArray ++ its2.toArray = (its ++ its2).toArray := by simp
  rw [ea]
  exact ⟨.ref _, _, I.lnew (t' := s.toks) (r1.append r2) (by rw [List.length_append]; exact hz), rfl, q _ I.fresh⟩
def gPlus : D → D → M D
  | .int i, .int j => ok (.int (i + j))
  | .str i, .str j => if i.length + j.length ≤ 100000 then ok (.str (i ++ j)) else none
  | .tup xs, .tup ys => if xs.length + ys.length ≤ 100000 then ok (.tup (xs ++ ys)) else none
  | .lst xs, .lst ys => if xs.length + ys.length ≤ 100000 then ok (.lst (xs ++ ys)) else none
  | _, _ => none
theorem n_plus : NoErr gPlus := by
  intro x y c
  cases x <;> cases y <;> (intro h; first | (cases h; done) | (dsimp only [gPlus] at h; split at h <;> exact nomatch h))
theorem line5 {n : Nat} (h : n ≤ 100000) : n ≤ sizeLine := Nat.le_trans h (by decide)
def rPlus (K : PySem.W.Frag) : R2 := fun x y H Q => (∃ i j, x = .int i ∧ y = .int j ∧ Q (.int (i + j)) H) ∨ (∃ i j, x = .str i ∧ y = .str j ∧ i.length + j.length ≤ sizeLine ∧ Q (.str (i ++ j)) H) ∨ rCat0 K x y H Q ∨ rCatT K x y H Q ∨ rCatG K x y H Q
theorem op_plus : OpR X (binaryOp .Add) (rPlus X.K) := OpR.or op_add (OpR.or op_add_str (OpR.or op_cat0 (OpR.or op_catT op_catG)))
theorem r_plus : R2ok X (rPlus X.K) gPlus := by
  intro H x y dx dy d Q ix iy e q
  cases ix with
  | int i =>
    cases iy <;> first | (cases e; done) | skip
    cases e
    exact .inl ⟨_, _, rfl, rfl, q _ H (Same.refl H) (.int _)⟩
  | str i =>
    cases iy <;> first | (cases e; done) | skip
    dsimp only [gPlus] at e
    split at e
    · rename_i hz
      cases e
      exact .inr (.inl ⟨_, _, rfl, rfl, line5 hz, q _ H (Same.refl H) (.str _)⟩)
    · cases e
  | tup h1 r1 =>
    cases iy <;> first | (cases e; done) | skip
    rename_i h2 r2
    dsimp only [gPlus] at e
    split at e
    · rename_i hz
      cases e
      rw [r1.length, r2.length] at hz
      cases r1 with
      | nil => exact .inr (.inr (.inl ⟨_, _, _, rfl, rfl, h1, h2, q _ H (Same.refl H) (.tup h2 r2)⟩))
      | cons i1 r1 =>
        refine .inr (.inr (.inr (.inl ⟨_, _, _, _, rfl, rfl, h1, h2, by simp, line5 hz, fun z => ?_, fun z p hp => ?_⟩)))
        · subst z
          cases r2
          exact q _ H (Same.refl H) (by rw [List.append_nil]; exact .tup h1 (.cons i1 r1))
        · exact q _ _ (same_new hp _) (.tup (SqT.of upd_same) ((IsL.append (.cons i1 r1) r2).mono (same_new hp _)))
    · cases e
  | lst h1 r1 =>
    cases iy <;> first | (cases e; done) | skip
    rename_i h2 r2
    dsimp only [gPlus] at e
    split at e
    · rename_i hz
      cases e
      rw [r1.length, r2.length] at hz
      exact .inr (.inr (.inr (.inr ⟨_, _, _, _, rfl, rfl, h1, h2, line5 hz, fun p hp => q _ _ (same_new hp _) (.lst (SqL.of upd_same) ((IsL.append r1 r2).mono (same_new hp _)))⟩)))
    · cases e
  | _ => cases iy <;> cases e
theorem pd_plus (ha : PD X B a fa) (hb : PD X B b fb) : PD X B (.BinOp a .Add b pos) (b2 gPlus fa fb) := pd_op op_plus r_plus n_plus ha hb
end

/-! ### a text times an int; a part of a text -/
section
variable {X : Cx} {B : Hp} {a b : Expr} {fa fb : Rho → M D} {pos : Pos}
def repS (x : Str) (n : Nat) : Str := ⟨(List.replicate n x.cps).foldl (· ++ ·) #[]⟩
def rMulS : R2 := fun x y H Q => ∃ z k, x = .str z ∧ y = .int k ∧ 0 ≤ k ∧ z.length ≤ 1000 ∧ k ≤ 1000 ∧ Q (.str (repS z k.toNat)) H
theorem rep0 (x : Str) : repS x 0 = Str.empty := rfl
theorem rep1 (x : Str) : repS x 1 = x := by
  unfold repS
  simp
theorem repE {x : Str} (h : x.length = 0) (n : Nat) : repS x n = x := by
  obtain ⟨c⟩ := x
  have e : c = #[] := Array.size_eq_zero_iff.mp h
  subst e
  unfold repS
  congr 1
  induction n with
  | zero => rfl
  | succ n ih => rw [List.replicate_succ, List.foldl_cons]; exact ih
theorem rep_len (x : Str) (n : Nat) : (repS x n).length = n * x.length := by
  have g : ∀ (m : Nat) (a : Array Nat), ((List.replicate m x.cps).foldl (· ++ ·) a).size = a.size + m * x.cps.size := by
    intro m
    induction m with
    | zero => intro a; simp
    | succ m ih => intro a; rw [List.replicate_succ, List.foldl_cons, ih, Array.size_append, Nat.succ_mul]; omega
  show ((List.replicate n x.cps).foldl (· ++ ·) #[]).size = n * x.cps.size
  rw [g]
  simp
theorem op_mulS : OpR X (binaryOp .Mult) rMulS := by
  intro pins s σ H x y v u Q I rx ry h
  obtain ⟨z, k, rfl, rfl, h0, hz, hk, q⟩ := h
  obtain ⟨t, rfl⟩ := rx
  obtain ⟨t', rfl⟩ := ry
  refine P.mul_str ?_ (fun h1 h2 => ?_) (fun h1 h2 => ?_) ?_
  · have e1 : decide (k < -(2 ^ 63 : Int)) = false := decide_eq_false (by omega)
    have e2 : decide (k ≥ 2 ^ 63) = false := decide_eq_false (by omega)
    rw [e1, e2]; rfl
  · have h3 : (1001 : Int) ≤ (2 ^ 63 - 1) / k := by
      refine Int.le_ediv_of_mul_le (by omega) ?_
      have : (1001 : Int) * k ≤ 1001 * 1000 := by omega
      omega
    omega
  · have h3 : z.length * k.toNat ≤ 1000 * 1000 := Nat.mul_le_mul hz (by omega)
    exact decide_eq_false (by unfold sizeLine; omega)
  · by_cases k0 : k < 1
    · have ek : k.toNat = 0 := by omega
      rw [if_pos k0]
      rw [ek, rep0] at q
      exact ⟨by decide, ⟨.str Str.empty, H, I.tok _, ⟨_, rfl⟩, q⟩⟩
    · rw [if_neg k0]
      split
      · rename_i hh
        have e : repS z k.toNat = z := by
          simp only [Bool.or_eq_true, beq_iff_eq] at hh
          rcases hh with hh | hh
          · have ek : k.toNat = 1 := by omega
            rw [ek, rep1]
          · exact repE hh _
        rw [e] at q
        exact ⟨.str z, H, I, ⟨t, rfl⟩, q⟩
      · have hl : (repS z k.toNat).length ≤ sizeLine := by
          rw [rep_len]
          have : k.toNat * z.length ≤ 1000 * 1000 := Nat.mul_le_mul (by omega) hz
          unfold sizeLine
          omega
        exact ⟨hl, ⟨.str (repS z k.toNat), H, I.tok _, ⟨_, rfl⟩, q⟩⟩
/-- * of ints; of a text and an int -/
def gTimes : D → D → M D
  | .int i, .int j => gMul (.int i) (.int j)
  | .str z, .int k => if 0 ≤ k ∧ z.length ≤ 1000 ∧ k ≤ 1000 then ok (.str (repS z k.toNat)) else none
  | _, _ => none
theorem n_times : NoErr gTimes := by
  intro x y c
  cases x <;> cases y <;> (intro h; first | (cases h; done) | (dsimp only [gTimes, gMul] at h; split at h <;> exact nomatch h))
theorem pd_times (ha : PD X B a fa) (hb : PD X B b fb) : PD X B (.BinOp a .Mult b pos) (b2 gTimes fa fb) := by
  refine pd_op (OpR.or op_mulB op_mulS) ?_ n_times ha hb
  intro H x y dx dy d Q ix iy e q
  cases ix <;> cases iy <;> first | (cases e; done) | skip
  · dsimp only [gTimes, gMul] at e
    split at e
    · rename_i h
      cases e
      exact .inl ⟨_, _, rfl, rfl, h, q _ H (Same.refl H) (.int _)⟩
    · cases e
  · dsimp only [gTimes] at e
    split at e
    · rename_i h
      cases e
      exact .inr ⟨_, _, rfl, rfl, h.1, h.2.1, h.2.2, q _ H (Same.refl H) (.str _)⟩
    · cases e
end
end L2.PU

set_option Elab.async false
set_option linter.all false
set_option maxRecDepth 100000
set_option maxHeartbeats 4000000
namespace L2.PU
open PySem PySem.Spec PyProof.Rows

/-! ### lists of one's own: made, and changed in place -/
section
variable {K : PySem.W.Frag} {H₀ H : Hp} {ρ : Rho} {σ : St}
theorem Rel.own_new {i : Nat} {a : Addr} {ds : List D} {vs : List V} (r : Rel K H₀ ρ σ H) (hf : H a = none) (im : immL ds = true) (iv : IsL K H ds vs) : Rel K H₀ (ρ.set i (some (.own ds))) (σ.set i (some (.ref a))) (upd H a (.lst vs)) := by
  obtain ⟨O, h1, ho, h2, hl, h3⟩ := r
  have na : ∀ j b, O j = some b → b ≠ a := fun j b q e => by
    subst e
    rcases ho j b q with ⟨ws, w⟩ | ⟨C, dx, ws, w⟩ <;> rw [w] at hf <;> cases hf
  let O' : Nat → Option Addr := fun j => if j = i then some a else O j
  have Oi : O' i = some a := if_pos rfl
  have On : ∀ j, j ≠ i → O' j = O j := fun j e => if_neg e
  have hO' : OwnK (upd H a (.lst vs)) O' := fun j b q => by
    by_cases e : j = i
    · subst e
      rw [Oi] at q
      cases q
      exact .inl ⟨vs, upd_same⟩
    · rw [On j e] at q
      have nb := na j b q
      rcases ho j b q with ⟨ws, w⟩ | ⟨C, dx, ws, w⟩
      · exact .inl ⟨ws, by rw [upd_ne nb]; exact w⟩
      · exact .inr ⟨C, dx, ws, by rw [upd_ne nb]; exact w⟩
  have sm : Same (Off H O) (Off (upd H a (.lst vs)) O') := fun b o q => by
    have qh := Off.same H O b o q
    have nb : b ≠ a := fun e => by subst e; rw [hf] at qh; cases qh
    refine Off.of (by rw [upd_ne nb]; exact qh) fun j z => ?_
    by_cases e : j = i
    · subst e
      rw [Oi] at z
      cases z
      exact nb rfl
    · rw [On j e] at z
      exact Off.not q j z
  refine ⟨O', fun j k b q1 q2 => ?_, hO', h2.trans sm, by rw [List.length_set, List.length_set, hl], fun j sv q => ?_⟩
  · by_cases e1 : j = i
    · by_cases e2 : k = i
      · rw [e1, e2]
      · subst e1
        rw [Oi] at q1
        cases q1
        rw [On k e2] at q2
        exact absurd rfl (na k _ q2)
    · by_cases e2 : k = i
      · subst e2
        rw [Oi] at q2
        cases q2
        rw [On j e1] at q1
        exact absurd rfl (na j _ q1)
      · rw [On j e1] at q1
        rw [On k e2] at q2
        exact h1 j k b q1 q2
  · by_cases e : j = i
    · subst e
      have hj : j < ρ.length := by
        have := (List.getElem?_eq_some_iff.mp q).1
        rwa [List.length_set] at this
      rw [List.getElem?_set_self hj] at q
      have q' := Option.some.inj (Option.some.inj q)
      subst q'
      exact ⟨a, vs, Oi, List.getElem?_set_self (by rw [← hl]; exact hj), upd_same, offL_imm hO' im (iv.mono (same_new hf _))⟩
    · rw [List.getElem?_set_ne (Ne.symm e)] at q
      have z := h3 j sv q
      cases sv with
      | sh d' => obtain ⟨v', e1, e2⟩ := z; exact ⟨v', by rw [List.getElem?_set_ne (Ne.symm e)]; exact e1, e2.mono sm⟩
      | own ds' =>
        obtain ⟨b, ws, e1, e2, e3, e4⟩ := z
        exact ⟨b, ws, by rw [On j e]; exact e1, by rw [List.getElem?_set_ne (Ne.symm e)]; exact e2, by rw [upd_ne (na j b e1)]; exact e3, e4.mono sm⟩
      | oin b C dx fs =>
        obtain ⟨e1, e2, e3, ws, e4, e5⟩ := z
        exact ⟨by rw [On j e]; exact e1, by rw [List.getElem?_set_ne (Ne.symm e)]; exact e2, e3, ws, by rw [upd_ne (na j b e1)]; exact e4, e5.mono sm⟩
theorem Rel.own_put {i : Nat} {a : Addr} {ds ds' : List D} {vs' : List V} (O : Nat → Option Addr) (h1 : ∀ i j a, O i = some a → O j = some a → i = j) (ho : OwnK H O) (h2 : Same H₀ (Off H O)) (hl : ρ.length = σ.length)
    (h3 : ∀ i sv, ρ[i]? = some (some sv) → Slot K H O σ i sv) (q : ρ[i]? = some (some (.own ds))) (z1 : O i = some a) (z2 : σ[i]? = some (some (.ref a))) (iv : IsL K (Off H O) ds' vs') : Rel K H₀ (ρ.set i (some (.own ds'))) σ (upd H a (.lst vs')) := by
  have eo : Off (upd H a (.lst vs')) O = Off H O := Off.upd z1
  refine ⟨O, h1, fun j b qj => ?_, by rw [eo]; exact h2, by rw [List.length_set, hl], fun j sv qj => ?_⟩
  · by_cases e : b = a
    · subst e; exact .inl ⟨_, upd_same⟩
    · rcases ho j b qj with ⟨ws, w⟩ | ⟨C', dx', ws, w⟩
      · exact .inl ⟨ws, by rw [upd_ne e]; exact w⟩
      · exact .inr ⟨C', dx', ws, by rw [upd_ne e]; exact w⟩
  · by_cases e : j = i
    · subst e
      have hj : j < ρ.length := (List.getElem?_eq_some_iff.mp q).1
      rw [List.getElem?_set_self hj] at qj
      have q' := Option.some.inj (Option.some.inj qj)
      subst q'
      exact ⟨a, vs', z1, z2, upd_same, by rw [eo]; exact iv⟩
    · rw [List.getElem?_set_ne (Ne.symm e)] at qj
      have z := h3 j sv qj
      cases sv with
      | sh d' => obtain ⟨v', e1, e2⟩ := z; exact ⟨v', e1, by rw [eo]; exact e2⟩
      | own es =>
        obtain ⟨b, ws, e1, e2, e3, e4⟩ := z
        have nb : b ≠ a := fun w => e (h1 j i a (by rw [← w]; exact e1) z1)
        exact ⟨b, ws, e1, e2, by rw [upd_ne nb]; exact e3, by rw [eo]; exact e4⟩
      | oin b C' dx' fs' =>
        obtain ⟨e1, e2, e3, ws, e4, e5⟩ := z
        have nb : b ≠ a := fun w => e (h1 j i a (by rw [← w]; exact e1) z1)
        exact ⟨e1, e2, e3, ws, by rw [upd_ne nb]; exact e4, by rw [eo]; exact e5⟩
end

section
variable {X : Cx} {B : Hp} {e e' : Expr} {es : List Expr} {fa fb : Rho → M D} {ga : Rho → M (List D)} {pos pos' p p2 apos cpos : Pos} {x : Str} {i : Nat}
/-- x = [..], a list of one's own -/
def sNew (i : Nat) (g : Rho → M (List D)) : Rho → Option Out := fun ρ => lft (g ρ) ρ fun ds => if immL ds = true ∧ ds.length ≤ 1000 then some (.nx (ρ.set i (some (.own ds)))) else none
theorem pds_new (hN : X.N.Nodup) (hi : X.N[i]? = some x) (hx : Loc X.env.scope x) (he : PDA X B es ga) (hs : swapsWith (.List es p) (some (.Name x pos')) pos.line X.env = pure false := by rfl) (hf : X.fn x = true ∨ X.env.scope.names.lookup x = some .local := by first | exact .inl rfl | exact .inr rfl | assumption) :
    PDS X B (.Assign [.Name x pos'] (.List es p) pos) (sNew i ga) := by
  refine PS.of (ps_set hN hi hx (pe_lst he) hs hf) fun E σ H h => ?_
  obtain ⟨ρ, r, h⟩ := h
  refine ⟨ρ, r, (lft_red r h).imp fun ds h1 vs H1 e1 i1 => ?_⟩
  split at h1
  · rename_i hh
    refine ⟨by rw [← i1.length]; exact Nat.le_trans hh.2 (by decide), fun l hl => ?_⟩
    exact h1 _ _ ((r.mono e1).own_new hl hh.1 i1)
  · exact False.elim h1
/-- x.m(..), x a list of one's own -/
def sOwn (G : List D → List D → Option (List D)) (i : Nat) (g : Rho → M (List D)) : Rho → Option Out := fun ρ => match ρ[i]? with
  | some (some (.own ds)) => lft (g ρ) ρ fun as => if immL as = true ∧ ds.length < 100000 then (match G ds as with | some ds' => some (.nx (ρ.set i (some (.own ds')))) | none => none) else none
  | _ => none
def LMok (r : V → List V → Hp → VK → Prop) (G : List D → List D → Option (List D)) : Prop :=
  ∀ (K : PySem.W.Frag) (H0 H1 : Hp) (l : Addr) (ds as ds' : List D) (vs us : List V) (Q : VK), IsL K H0 ds vs → IsL K H0 as us → H1 l = some (.lst vs) → ds.length < 100000 → G ds as = some ds' → (∀ vs', IsL K H0 ds' vs' → Q .non (upd H1 l (.lst vs'))) → r (.ref l) us H1 Q
theorem pds_own {id : String} {name : Str} {r : V → List V → Hp → VK → Prop} {G : List D → List D → Option (List D)} (slot : PySem.Slot "list" name id) (hty : typeOf (.builtin id) = pure (.type "method_descriptor")) (hm : MtM X id r) (hr : LMok r G)
    (hN : X.N[i]? = some x) (hv : Vis X.env.scope x) (ha : PDA X B (e :: es) ga)
    (hfew : ((backTo cpos (starEach (e :: es) X.env)).all (fun x => !x.1) && (backToKw cpos (keywordEach [] X.env)).all (fun x => x.1.isSome)
      && decide ((e :: es).length + ([] : List Keyword).length + (if ([] : List Keyword).isEmpty then 0 else 1) < 30)) = true)
    (hs : starEach (e :: es) X.env = (false, eval e X.env) :: starEach es X.env) (hplain : (backTo cpos (starEach es X.env)).any (·.1) = false)
    (hline : (apos.endLine == cpos.line) = true := by rfl)
    (hsw : swapsWith (.Call (.Attribute (.Name x p) name apos) (e :: es) [] cpos) none pos.line X.env = pure false := by rfl)
    (hd : (x == ("__debug__" : Str)) = false := by decide) (hcd : (x == ("__classdict__" : Str)) = false := by decide) :
    PDS X B (.Expr (.Call (.Attribute (.Name x p) name apos) (e :: es) [] cpos) pos) (sOwn G i ga) := by
  refine PS.of (ps_expr (pe_bm PySem.F.plainAttrs_list slot hty hm (pe_var hN hv hd hcd) ha (hbase := rfl) (hfew := hfew) (hline := hline) (hs := hs) (hplain := hplain)) hsw) fun E σ H h => ?_
  obtain ⟨ρ, r1, h⟩ := h
  unfold sOwn at h
  split at h
  · rename_i ds q
    obtain ⟨O, h1, ho, h2, hl, h3⟩ := (show Rel X.K B ρ σ H from r1)
    obtain ⟨a, vs, z1, z2, z3, z4⟩ := h3 i _ q
    refine ⟨.ref a, z2, .inl ⟨rfl, _, SqL.of z3⟩, ρ, r1, (lft_red r1 h).imp fun as k1 us H1 e1 i1 => ?_⟩
    split at k1
    · rename_i hh
      split at k1
      · rename_i ds' hG
        have ho1 := ho.mono e1
        refine hr X.K (Off H1 O) H1 a ds as ds' vs us _ (z4.mono (Off.mono e1)) (offL_imm ho1 hh.1 i1) (e1 _ _ z3) hh.2 hG fun vs' i' => ?_
        exact k1 _ _ (Rel.own_put O h1 ho1 (h2.trans (Off.mono e1)) hl (fun j sv qj => (h3 j sv qj).mono e1) q z1 z2 i')
      · exact False.elim k1
    · exact False.elim k1
  · exact False.elim h
/-! append, insert -/
def lApp (ds : List D) : List D → Option (List D)
  | [d] => some (ds ++ [d])
  | _ => none
theorem lm_app : LMok rAppend lApp := by
  intro K H0 H1 l ds as ds' vs us Q i1 i2 hl hn hG q
  unfold lApp at hG
  split at hG
  · cases hG
    cases i2 with
    | cons id1 rest =>
      cases rest
      exact ⟨l, vs, _, rfl, rfl, hl, by rw [← i1.length]; exact Nat.lt_of_lt_of_le hn (by decide), q _ (i1.append (.cons id1 .nil))⟩
  · cases hG
theorem pds_append (hN : X.N[i]? = some x) (hv : Vis X.env.scope x) (ha : PD X B e fa) (hs : nostar e = true := by rfl) (hline : (apos.endLine == cpos.line) = true := by rfl)
    (hsw : swapsWith (.Call (.Attribute (.Name x p) "append" apos) [e] [] cpos) none pos.line X.env = pure false := by rfl)
    (hd : (x == ("__debug__" : Str)) = false := by decide) (hcd : (x == ("__classdict__" : Str)) = false := by decide) :
    PDS X B (.Expr (.Call (.Attribute (.Name x p) "append" apos) [e] [] cpos) pos) (sOwn lApp i (aCons fa aNil)) :=
  pds_own PySem.F.slot_list_append PySem.F.type_list_append mt_append lm_app hN hv (pda_cons ha pda_nil (star_ok hs)) (by rw [star1 hs]; rfl) (star_ok hs) rfl hline hsw hd hcd
def insL {α : Type} (xs : List α) (k : Nat) (y : α) : List α := xs.take k ++ y :: xs.drop k
def lIns (ds : List D) : List D → Option (List D)
  | [.int k, d] => if 0 ≤ k ∧ k ≤ 100000 then some (insL ds (min k.toNat ds.length) d) else none
  | _ => none
def rInsert : V → List V → Hp → VK → Prop := fun x vs H Q => ∃ l xs k y, x = .ref l ∧ vs = [.int k, y] ∧ H l = some (.lst xs) ∧ xs.length < sizeLine ∧ 0 ≤ k ∧ k ≤ 100000 ∧ Q .non (upd H l (.lst (insL xs (min k.toNat xs.length) y)))
theorem mt_insert : MtM X "list.insert" rInsert := by
  intro pins s σ H x vs v us Q I rx rv h
  obtain ⟨l, xs, k, y, rfl, rfl, hH, hz, k0, k1, q⟩ := h
  cases rx
  obtain ⟨u1, u, rfl, ⟨t, rfl⟩, ru⟩ := rv.two
  obtain ⟨z, its, n, r, hl, e⟩ := I.lstM hH
  have hfit : ¬ (!Builtin.List.listFitsIndex k) = true := by
    have : Builtin.List.listFitsIndex k = true := fitsIndex_both (by omega) (by omega)
    rw [this]
    decide
  refine call_meets F.slot_list_insert ⟨_, e, rfl⟩ F.entry_list_insert (F.args_list_insert_3 _ _ _) (AutoListH.list_insert_list_int_val_1 l its.toArray n k t u hfit (by rw [List.size_toArray]; omega)) ⟨e, ?_⟩
  refine ⟨.non, _, I.lset (its' := insL its (min k.toNat xs.length) u) hH e ?_ ?_ ?_, rfl, q⟩
  · have hk : ¬ k < 0 := by omega
    simp only [hk, if_false, List.size_toArray, ← hl]
    unfold insL
    simp
    exact List.take_of_length_le (by rw [List.length_drop]; omega)
  · unfold insL
    exact (r.take _).append (.cons ru (r.drop _))
  · unfold insL
    rw [List.length_append, List.length_cons, List.length_take, List.length_drop]
    omega
theorem lm_ins : LMok rInsert lIns := by
  intro K H0 H1 l ds as ds' vs us Q i1 i2 hl hn hG q
  unfold lIns at hG
  split at hG
  · rename_i k d
    split at hG
    · rename_i hk
      cases hG
      cases i2 with
      | cons ik rest =>
        cases ik
        cases rest with
        | cons id1 rest =>
          cases rest
          have hn' := hn
          rw [i1.length] at hn'
          refine ⟨l, vs, k, _, rfl, rfl, hl, Nat.lt_of_lt_of_le hn' (by decide), hk.1, hk.2, q _ ?_⟩
          unfold insL
          rw [i1.length]
          exact (i1.take _).append (.cons id1 (i1.drop _))
    · cases hG
  · cases hG
theorem pds_insert (hN : X.N[i]? = some x) (hv : Vis X.env.scope x) (ha : PD X B e fa) (hb : PD X B e' fb) (hs : nostar e = true := by rfl) (hs' : nostar e' = true := by rfl) (hline : (apos.endLine == cpos.line) = true := by rfl)
    (hsw : swapsWith (.Call (.Attribute (.Name x p) "insert" apos) [e, e'] [] cpos) none pos.line X.env = pure false := by rfl)
    (hd : (x == ("__debug__" : Str)) = false := by decide) (hcd : (x == ("__classdict__" : Str)) = false := by decide) :
    PDS X B (.Expr (.Call (.Attribute (.Name x p) "insert" apos) [e, e'] [] cpos) pos) (sOwn lIns i (aCons fa (aCons fb aNil))) :=
  pds_own PySem.F.slot_list_insert PySem.F.type_list_insert mt_insert lm_ins hN hv (pda_cons ha (pda_cons hb pda_nil (star_ok hs')) (star_ok hs)) (by rw [star2 hs hs']; rfl) (star_ok hs) (by rw [star1 hs']; rfl) hline hsw hd hcd
end

/-! ### any, all, of a list of truths -/
section
variable {X : Cx} {B : Hp} {e : Expr} {fa : Rho → M D} {pos p : Pos}
def blL : List D → Option (List Bool)
  | [] => some []
  | .bl b :: ds => match blL ds with | some bs => some (b :: bs) | none => none
  | _ :: _ => none
def anyD : D → M D
  | .lst ds => match blL ds with | some bs => ok (.bl (bs.any id)) | none => none
  | _ => none
def allD : D → M D
  | .lst ds => match blL ds with | some bs => ok (.bl (bs.all id)) | none => none
  | _ => none
theorem blL_is {K : PySem.W.Frag} {H : Hp} : ∀ (ds : List D) {vs : List V} {bs : List Bool}, IsL K H ds vs → blL ds = some bs → vs = bs.map V.bl
  | [], _, _, r, h => by cases r; cases h; rfl
  | .bl b :: ds, _, _, .cons i r, h => by
    cases i
    unfold blL at h
    split at h
    · rename_i bs hb
      cases h
      rw [blL_is ds r hb]; rfl
    · cases h
  | .non :: _, _, _, _, h => nomatch h
  | .int _ :: _, _, _, _, h => nomatch h
  | .str _ :: _, _, _, _, h => nomatch h
  | .tup _ :: _, _, _, _, h => nomatch h
  | .lst _ :: _, _, _, _, h => nomatch h
  | .obj _ _ :: _, _, _, _, h => nomatch h
  | .dk _ :: _, _, _, _, h => nomatch h
  | .dt _ :: _, _, _, _, h => nomatch h
  | .exc _ :: _, _, _, _, h => nomatch h
  | .set _ :: _, _, _, _, h => nomatch h
theorem truth_at {bs : List Bool} {its : List Value} (r : Vals (bs.map V.bl) its) {i : Nat} {v : Value} (h : its.toArray[i]? = some v) : v = .bool (bs.getD i false) := by
  rw [List.getElem?_toArray] at h
  induction bs generalizing its i with
  | nil => cases r; simp at h
  | cons b bs ih =>
    cases r with
    | cons r1 r2 =>
      cases i with
      | zero => simp at h; subst h; cases r1; rfl
      | succ i => rw [List.getElem?_cons_succ] at h; exact ih r2 h
theorem range_any (bs : List Bool) : (List.range bs.length).any (fun i => bs.getD i false) = bs.any id := by
  induction bs with
  | nil => rfl
  | cons b bs ih => rw [List.length_cons, List.range_succ_eq_map, List.any_cons, List.any_map, List.any_cons, ← ih]; rfl
theorem range_all (bs : List Bool) : (List.range bs.length).all (fun i => bs.getD i false) = bs.all id := by
  induction bs with
  | nil => rfl
  | cons b bs ih => rw [List.length_cons, List.range_succ_eq_map, List.all_cons, List.all_map, List.all_cons, ← ih]; rfl
def rTruths (f : List Bool → Bool) (K : PySem.W.Frag) : List V → Hp → VK → Prop := fun xs H Q => ∃ p bs, xs = [.ref p] ∧ SqL K H p (bs.map V.bl) ∧ Q (.bl (f bs)) H
theorem call_anyB (hc : X.calm = true) : CallR X (.builtin "any") (rTruths (fun bs => bs.any id) X.K) := by
  intro pins s σ H xs us Q I r h
  obtain ⟨p, bs, rfl, hq, q⟩ := h
  obtain ⟨u, rfl, rx⟩ := vals1 r
  cases rx
  obtain ⟨its, r', pl, hz⟩ := I.list hq
  have hlen : its.toArray.size = bs.length := by rw [List.size_toArray, ← r'.length, List.length_map]
  have hlt : p < s.heap.objs.size := by obtain ⟨o, _, e, _⟩ := pl; exact Heap.lt_size e
  refine call_any_walk (wpAny_pyIter_list pl.isList ?_)
  refine ⟨s.heap.objs.size, _, _, _, _, _, fun i => bs.getD i false, rfl, Walks.list (by simpa using I.ok.hd hc) _ p (Nat.ne_of_lt hlt) its.toArray, ⟨⟨_, Heap.get?_push_size _ rfl, rfl, rfl⟩, pl.isList.push _⟩, fun i v s Q E hP hQ => ?_, fun h' tk hk => ?_⟩
  · rw [truth_at r' hP]; exact wpAny_truthy_bool hQ
  · rw [hlen, range_any]
    exact ⟨.bl _, H, I.kept (t' := tk) fun b ob e => hk b ob (by simp; exact Nat.ne_of_lt (Heap.lt_size e)) (Heap.get?_push_of_some _ e), rfl, q⟩
theorem call_allB (hc : X.calm = true) : CallR X (.builtin "all") (rTruths (fun bs => bs.all id) X.K) := by
  intro pins s σ H xs us Q I r h
  obtain ⟨p, bs, rfl, hq, q⟩ := h
  obtain ⟨u, rfl, rx⟩ := vals1 r
  cases rx
  obtain ⟨its, r', pl, hz⟩ := I.list hq
  have hlen : its.toArray.size = bs.length := by rw [List.size_toArray, ← r'.length, List.length_map]
  have hlt : p < s.heap.objs.size := by obtain ⟨o, _, e, _⟩ := pl; exact Heap.lt_size e
  refine call_all_walk (wpAny_pyIter_list pl.isList ?_)
  refine ⟨s.heap.objs.size, _, _, _, _, _, fun i => bs.getD i false, rfl, Walks.list (by simpa using I.ok.hd hc) _ p (Nat.ne_of_lt hlt) its.toArray, ⟨⟨_, Heap.get?_push_size _ rfl, rfl, rfl⟩, pl.isList.push _⟩, fun i v s Q E hP hQ => ?_, fun h' tk hk => ?_⟩
  · rw [truth_at r' hP]; exact wpAny_truthy_bool hQ
  · rw [hlen, range_all]
    exact ⟨.bl _, H, I.kept (t' := tk) fun b ob e => hk b ob (by simp; exact Nat.ne_of_lt (Heap.lt_size e)) (Heap.get?_push_of_some _ e), rfl, q⟩
theorem boot_any : bootBuiltins "any" = some (.builtin "any") := by decide +kernel
theorem boot_all : bootBuiltins "all" = some (.builtin "all") := by decide +kernel
theorem pd_any (hc : X.calm = true) (hg : Gl X "any") (hm : X.mg "any" = none) (ha : PD X B e fa) (hs : nostar e = true := by rfl) : PD X B (.Call (.Name "any" p) [e] [] pos) (f1 anyD fa) := by
  refine PE.of (pe_callB (call_anyB hc) hg hm boot_any (pa_cons ha pa_nil (star_ok hs)) (he := star_ok hs) (hpl := by rfl)) fun σ H Q h => ?_
  obtain ⟨ρ, r1, h⟩ := h
  refine ⟨ρ, r1, (Res.bind h).imp fun d q1 v H1 e1 i1 => ?_⟩
  cases i1 with
  | lst hh rr =>
    dsimp only [anyD] at q1
    split at q1
    · rename_i bs hb
      exact ⟨_, bs, rfl, by rw [← blL_is _ rr hb]; exact hh, q1 _ H1 e1 (.bl _)⟩
    · exact False.elim q1
  | _ => exact False.elim q1
theorem pd_all (hc : X.calm = true) (hg : Gl X "all") (hm : X.mg "all" = none) (ha : PD X B e fa) (hs : nostar e = true := by rfl) : PD X B (.Call (.Name "all" p) [e] [] pos) (f1 allD fa) := by
  refine PE.of (pe_callB (call_allB hc) hg hm boot_all (pa_cons ha pa_nil (star_ok hs)) (he := star_ok hs) (hpl := by rfl)) fun σ H Q h => ?_
  obtain ⟨ρ, r1, h⟩ := h
  refine ⟨ρ, r1, (Res.bind h).imp fun d q1 v H1 e1 i1 => ?_⟩
  cases i1 with
  | lst hh rr =>
    dsimp only [allD] at q1
    split at q1
    · rename_i bs hb
      exact ⟨_, bs, rfl, by rw [← blL_is _ rr hb]; exact hh, q1 _ H1 e1 (.bl _)⟩
    · exact False.elim q1
  | _ => exact False.elim q1
end
end L2.PU

set_option Elab.async false
set_option linter.all false
set_option maxRecDepth 100000
set_option maxHeartbeats 4000000
namespace L2.PU
open PySem PySem.Spec PyProof.Rows

/-! ### f".. {x!r} .." of texts -/
section
variable {X : Cx} {B : Hp} {e : Expr} {es : List Expr} {fa : Rho → M D} {pos p : Pos}
def PJ (X : Cx) (B : Hp) (es : List Expr) (g : Rho → Str → M Str) : Prop :=
  ∀ (pins : List (Addr × Obj)) (s : Shared) (σ : St) (H : Hp) (ρ : Rho) (acc : Str) (Q : Str → Shared → Prop), Inv X pins σ H s → Rel X.K B ρ σ H →
    Res X σ H (fun out => out.length ≤ sizeLine → ∀ s' H', Same H H' → Inv X pins σ H' s' → Q out s') (g ρ acc) → Joins (model X.prog X.w) X.A X.xe (evalEach es X.env) acc Q s
def jNil : Rho → Str → M Str := fun _ acc => if acc.length ≤ 100000 then ok acc else none
def jCon (y : Str) (g : Rho → Str → M Str) : Rho → Str → M Str := fun ρ acc => if (acc ++ y).length ≤ 100000 then g ρ (acc ++ y) else none
def jRep (f : Rho → M D) (g : Rho → Str → M Str) : Rho → Str → M Str := fun ρ acc => bnd (f ρ) fun d => match d with
  | .str x => if (reprText x).length ≤ 100000 ∧ (acc ++ reprText x).length ≤ 100000 then g ρ (acc ++ reprText x) else none
  | _ => none
theorem pj_nil : PJ X B [] jNil := by
  intro pins s σ H ρ acc Q I r h
  unfold jNil at h
  split at h
  · rename_i hz
    exact h (line5 hz) s H (Same.refl H) I
  · exact False.elim h
theorem pj_con {y : Str} {j : Nat} {g : Rho → Str → M Str} (hg : PJ X B es g) : PJ X B (.Constant (.str y) j pos :: es) (jCon y g) := by
  intro pins s σ H ρ acc Q I r h
  unfold jCon at h
  split at h
  · rename_i hz
    refine thn (pe_str (X := X) (x := y) (j := j) (pos := pos) pins s σ H (fun v H1 => v = .str y ∧ H1 = H) I ⟨rfl, rfl⟩) fun v s1 ⟨x, H1, I1, r1, e1, e2⟩ => ?_
    subst e1 e2
    obtain ⟨t, rfl⟩ := r1
    exact ⟨y, t, rfl, line5 hz, hg pins s1 σ _ ρ (acc ++ y) Q I1 r h⟩
  · exact False.elim h
theorem pj_rep {g : Rho → Str → M Str} (he : PD X B e fa) (hg : PJ X B es g) : PJ X B (.FormattedValue e 114 none pos :: es) (jRep fa g) := by
  intro pins s σ H ρ acc Q I r h
  show wpAny _ _ (eval (.FormattedValue e 114 none pos) X.env) _ _ s
  refine wpAny_FormattedValue_repr ?_
  refine thn (he pins s σ H (fun v H1 => ∃ x, v = .str x ∧ Same H H1 ∧ ((reprText x).length ≤ 100000 ∧ (acc ++ reprText x).length ≤ 100000) ∧ Res X σ H (fun out => out.length ≤ sizeLine → ∀ s' H', Same H H' → Inv X pins σ H' s' → Q out s') (g ρ (acc ++ reprText x))) I ⟨ρ, r, (Res.bind h).imp fun d h1 v H1 e1 i1 => ?_⟩) fun v s1 ⟨x', H1, I1, r1, x, e1, sm, hz, h1⟩ => ?_
  · cases i1 <;> first | (exact False.elim h1) | skip
    rename_i x
    dsimp only at h1
    split at h1
    · rename_i hz
      exact ⟨x, rfl, e1, hz, h1⟩
    · exact False.elim h1
  · subst e1
    obtain ⟨t, rfl⟩ := r1
    refine PySem.wpAny_pyReprObj_str ?_ (line5 hz.1)
    have fin : ∀ (t : Tok) (k : Nat), Joins (model X.prog X.w) X.A X.xe (evalEach es X.env) (acc ++ reprText x) Q { s1 with toks := k } := fun t k =>
      hg pins { s1 with toks := k } σ H1 ρ (acc ++ reprText x) Q (I1.tok _) (r.mono sm) (h1.mono sm fun out q hz s' H' e' I' => q hz s' H' (sm.trans e') I')
    exact wpAny_formatField_str ⟨_, _, rfl, line5 hz.2, fin 0 _⟩ ⟨_, _, rfl, line5 hz.2, fin 0 _⟩ (line5 hz.1)
def jnd (g : Rho → Str → M Str) : Rho → M D := fun ρ => bnd (g ρ Str.empty) fun x => ok (.str x)
theorem pd_joined {e1 e2 : Expr} {g : Rho → Str → M Str} (hg : PJ X B (e1 :: e2 :: es) g) : PD X B (.JoinedStr (e1 :: e2 :: es) pos) (jnd g) := by
  intro pins s σ H Q I h
  obtain ⟨ρ, r, h⟩ := h
  refine wpAny_JoinedStr (hg pins s σ H ρ Str.empty _ I r ((Res.bind h).imp fun x h1 hz s' H' e' I' => ?_))
  exact ⟨hz, ⟨.str x, H', I'.tok _, ⟨_, rfl⟩, h1 _ H' e' (.str x)⟩⟩
end
end L2.PU

set_option Elab.async false
set_option linter.all false
set_option maxRecDepth 100000
set_option maxHeartbeats 4000000
namespace L2.PU
open PySem PySem.Spec PyProof.Rows

/-! ### set(x), len(s), s != t: sets of texts -/
section
variable {X : Cx} {B : Hp} {e a b : Expr} {fa fb : Rho → M D} {pos p p2 pos2 : Pos}
def strL : List D → Option (List Str)
  | [] => some []
  | .str x :: ds => match strL ds with | some xs => some (x :: xs) | none => none
  | _ :: _ => none
theorem strL_map (xs : List Str) : strL (xs.map D.str) = some xs := by
  induction xs with
  | nil => rfl
  | cons x r ih => rw [List.map_cons]; unfold strL; rw [ih]
theorem strL_eq : ∀ (ds : List D) {xs : List Str}, strL ds = some xs → ds = xs.map D.str
  | [], _, h => by cases h; rfl
  | .str x :: ds, _, h => by
    unfold strL at h
    split at h
    · rename_i xs hx
      cases h
      rw [strL_eq ds hx]; rfl
    · cases h
  | .non :: _, _, h => nomatch h
  | .bl _ :: _, _, h => nomatch h
  | .int _ :: _, _, h => nomatch h
  | .tup _ :: _, _, h => nomatch h
  | .lst _ :: _, _, h => nomatch h
  | .obj _ _ :: _, _, h => nomatch h
  | .dk _ :: _, _, h => nomatch h
  | .dt _ :: _, _, h => nomatch h
  | .exc _ :: _, _, h => nomatch h
  | .set _ :: _, _, h => nomatch h
theorem strs_at {K : PySem.W.Frag} {H : Hp} : ∀ {xs : List Str} {vs : List V} {its : List Value}, IsL K H (xs.map D.str) vs → Vals vs its → ∀ (i : Nat) (v : Value), its[i]? = some v → ∃ t, v = Value.str (xs.getD i Str.empty) t
  | [], _, _, .nil, r, i, v, h => by cases r; simp at h
  | x :: xs, _, _, .cons i1 r1, r, i, v, h => by
    cases i1
    cases r with
    | cons q r =>
      obtain ⟨t, rfl⟩ := q
      cases i with
      | zero => simp at h; subst h; exact ⟨t, rfl⟩
      | succ i => rw [List.getElem?_cons_succ] at h; exact strs_at r1 r i v h
def toS : D → M D
  | .tup ds => match strL ds with | some xs => if xs.length ≤ 2000 then ok (.set (metS xs)) else none | none => none
  | .lst ds => match strL ds with | some xs => if xs.length ≤ 2000 then ok (.set (metS xs)) else none | none => none
  | _ => none
def rSet (K : PySem.W.Frag) : List V → Hp → VK → Prop := fun vs H Q => ∃ p ys xs, vs = [.ref p] ∧ (SqL K H p ys ∨ SqT K H p ys) ∧ IsL K H (xs.map D.str) ys ∧ xs.length ≤ 2000 ∧ ∀ l, H l = none → Q (.ref l) (upd H l (.set (fun k => (metS xs).contains k) (metS xs).length))
theorem call_setS (hc : X.calm = true) : CallR X (.type "set") (rSet X.K) := by
  intro pins s σ H vs us Q I r h
  obtain ⟨p, ys, xs, rfl, hq, ix, hz, q⟩ := h
  obtain ⟨u, rfl, rx⟩ := vals1 r
  cases rx
  have hl := ix.length
  rw [List.length_map] at hl
  have fin : ∀ (its : List Value), Vals ys its → ∀ (o : Obj) (n : Nat) (T : String), (T = "list" ∨ T = "tuple") → s.heap.get? p = some o → o.cls = .type T → o.data = .seq its.toArray n → wpAny (model X.prog X.w) X.A (call (.type "set") [.ref p]) (EP X pins σ Q) X.xe s := by
    intro its r' o n T hT ho hcl hd
    have hlen : xs.length = its.toArray.size := by rw [List.size_toArray, ← r'.length, hl]
    refine call_set_seq hT (I.ok.hd hc) ho hcl hd (fun i v hv => strs_at ix r' i v (by simpa using hv)) hlen (by rw [← hlen]; show xs.length + 1 < 4096; omega) fun h' tk z zt kp => ?_
    exact ⟨.ref s.heap.objs.size, _, I.laid (t' := tk) kp (Nat.le_refl _) (show ObjOk X.prog X.w _ h' _ (.set _ _) from ⟨z, zt⟩), rfl, q _ (I.hok.fresh (Nat.le_refl _))⟩
  rcases hq with hq | hq
  · obtain ⟨its, r', ⟨o, n, ho, hcl, _, hd⟩, _⟩ := I.list hq
    exact fin its r' o n "list" (.inl rfl) ho hcl hd
  · obtain ⟨its, r', ⟨o, ho, hcl, n, hd⟩, _⟩ := I.tuple hq
    exact fin its r' o n "tuple" (.inr rfl) ho hcl hd
theorem boot_set : bootBuiltins "set" = some (.type "set") := by decide +kernel
theorem pd_set (hc : X.calm = true) (hg : Gl X "set") (hm : X.mg "set" = none) (ha : PD X B e fa) (hs : nostar e = true := by rfl) : PD X B (.Call (.Name "set" p) [e] [] pos) (f1 toS fa) := by
  refine PE.of (pe_callTy (call_setS hc) hg hm boot_set (pa_cons ha pa_nil (star_ok hs)) (he := star_ok hs) (hpl := by rfl)) fun σ H Q h => ?_
  obtain ⟨ρ, r1, h⟩ := h
  refine ⟨ρ, r1, (Res.bind h).imp fun d q1 v H1 e1 i1 => ?_⟩
  cases i1 with
  | lst hh rr =>
    dsimp only [toS] at q1
    split at q1
    · rename_i xs hx
      have ed := strL_eq _ hx
      subst ed
      split at q1
      · rename_i hz
        exact ⟨_, _, xs, rfl, .inl hh, rr, hz, fun l hl => q1 _ _ (e1.trans (same_new hl _)) (.set upd_same)⟩
      · exact False.elim q1
    · exact False.elim q1
  | tup hh rr =>
    dsimp only [toS] at q1
    split at q1
    · rename_i xs hx
      have ed := strL_eq _ hx
      subst ed
      split at q1
      · rename_i hz
        exact ⟨_, _, xs, rfl, .inr hh, rr, hz, fun l hl => q1 _ _ (e1.trans (same_new hl _)) (.set upd_same)⟩
      · exact False.elim q1
    · exact False.elim q1
  | _ => exact False.elim q1
def lenS : D → M D
  | .set ss => ok (.int ss.length)
  | d => lenD d
theorem call_lenS : CallR X (.builtin "len") (fun xs H Q => ∃ p S n, xs = [.ref p] ∧ H p = some (.set S n) ∧ Q (.int n) H) := by
  intro pins s σ H xs us Q I r h
  obtain ⟨p, S, n, rfl, hp, q⟩ := h
  obtain ⟨u, rfl, rx⟩ := vals1 r
  cases rx
  obtain ⟨⟨o, es, ep, t, ho, hex, hd, _, _, hb, hf, hn⟩, _⟩ := (show ObjOk X.prog X.w H s.heap p (.set S n) from I.hok p _ hp)
  refine call_len_set ho hex hd hf (by unfold scanBound at hb; omega) ⟨.int n, H, I.tok _, ⟨_, by rw [hn]⟩, q⟩
theorem pd_lenS (hg : Gl X "len") (hm : X.mg "len" = none) (ha : PD X B e fa) (hs : nostar e = true := by rfl) : PD X B (.Call (.Name "len" p) [e] [] pos) (f1 lenS fa) := by
  refine PE.of (pe_callB (CallR.or call_len_seq call_lenS) hg hm PySem.boot_len (pa_cons ha pa_nil (star_ok hs)) (he := star_ok hs) (hpl := by rfl)) fun σ H Q h => ?_
  obtain ⟨ρ, r1, h⟩ := h
  refine ⟨ρ, r1, (Res.bind h).imp fun d h1 v H1 e1 i1 => ?_⟩
  cases i1 with
  | lst hh r => exact .inl ⟨_, _, rfl, .inl hh, by rw [← r.length]; exact h1 _ H1 e1 (.int _)⟩
  | tup hh r => exact .inl ⟨_, _, rfl, .inr hh, by rw [← r.length]; exact h1 _ H1 e1 (.int _)⟩
  | set hh => exact .inr ⟨_, _, _, rfl, hh, h1 _ H1 e1 (.int _)⟩
  | _ => exact False.elim h1
def gSNe : D → D → M D
  | .set x, .set y => ok (.bl (!(decide (x.length = y.length) && x.all fun k => y.contains k)))
  | _, _ => none
theorem op_sne (hu : X.A.units < cLine) : OpR X (compareOp .NotEq) (fun x y H Q => ∃ a b xs ys, x = .ref a ∧ y = .ref b ∧ H a = some (.set (fun k => (xs : List Str).contains k) xs.length) ∧ H b = some (.set (fun k => (ys : List Str).contains k) ys.length) ∧ Q (.bl (!(decide (xs.length = ys.length) && xs.all fun k => ys.contains k))) H) := by
  intro pins s σ H x y v u Q I rx ry h
  obtain ⟨a, b, xs, ys, rfl, rfl, ha, hb, q⟩ := h
  cases rx
  cases ry
  have za : s.heap.SetOf (PySem.strKind X.prog X.w) a (fun k => xs.contains k) xs.length := (show ObjOk X.prog X.w H s.heap a (.set _ _) from I.hok a _ ha).1
  have zb : s.heap.SetOf (PySem.strKind X.prog X.w) b (fun k => ys.contains k) ys.length := (show ObjOk X.prog X.w H s.heap b (.set _ _) from I.hok b _ hb).1
  have ta : s.TypeIs (.ref a) "set" := by obtain ⟨o, _, _, _, ho, hex, _⟩ := za; exact ⟨o, ho, hex.1⟩
  have tb : s.TypeIs (.ref b) "set" := by obtain ⟨o, _, _, _, ho, hex, _⟩ := zb; exact ⟨o, ho, hex.1⟩
  show wpAny _ _ (richCompare .NotEq (.ref a) (.ref b)) _ _ _
  refine wpAny_richCompare_same_room ta tb F.slot_set_ne (wpAny_call_entry F.slot_set_ne ta entry_set_ne (set_ne_body za zb ?_) (F.args_set_ne_2 _ _)) hu
  exact And.intro (fun z => nomatch z) ⟨.bl _, H, I, rfl, q⟩
theorem r_sne : R2ok X (fun x y H Q => ∃ a b xs ys, x = .ref a ∧ y = .ref b ∧ H a = some (.set (fun k => (xs : List Str).contains k) xs.length) ∧ H b = some (.set (fun k => (ys : List Str).contains k) ys.length) ∧ Q (.bl (!(decide (xs.length = ys.length) && xs.all fun k => ys.contains k))) H) gSNe := by
  intro H x y dx dy d Q ix iy e q
  cases ix <;> cases iy <;> first | (cases e; done) | skip
  cases e
  rename_i h1 _ _ h2
  exact ⟨_, _, _, _, rfl, rfl, h1, h2, q _ H (Same.refl H) (.bl _)⟩
theorem n_sne : NoErr gSNe := by intro x y c; cases x <;> cases y <;> (intro h; cases h)
theorem pd_sne {k : Nat} (hr : Room k X.A) (ha : PD X B a fa) (hb : PD X B b fb) : PD X B (.Compare a [.NotEq] [b] pos) (b2 gSNe fa fb) := pd_cmp (op_sne hr.units0) r_sne n_sne ha hb (nomark _)
theorem pdt_sne {k : Nat} (hr : Room k X.A) (ha : PD X B a fa) (hb : PD X B b fb) : PDT X B (.Compare a [.NotEq] [b] pos) (testB (b2 gSNe fa fb)) := pdt_cmp (op_sne hr.units0) r_sne n_sne ha hb (nomark _)

/-! ### tuple(reversed(t)) -/
def revT : D → M D
  | .tup ds => ok (.tup ds.reverse)
  | _ => none
theorem IsL.reverse {K : PySem.W.Frag} {H : Hp} : ∀ {ds : List D} {vs : List V}, IsL K H ds vs → IsL K H ds.reverse vs.reverse
  | _, _, .nil => .nil
  | _, _, .cons i r => by rw [List.reverse_cons, List.reverse_cons]; exact IsL.append (IsL.reverse r) (.cons i .nil)
theorem pd_trev (hc : X.calm = true) (hg : Gl X "tuple") (hm : X.mg "tuple" = none) (hg2 : Gl X "reversed") (hm2 : X.mg "reversed" = none) (ha : PD X B e fa) (hs : nostar e = true := by rfl) :
    PD X B (.Call (.Name "tuple" p) [.Call (.Name "reversed" p2) [e] [] pos2] [] pos) (f1 revT fa) := by
  intro pins s σ H Q I h
  obtain ⟨ρ, r1, h⟩ := h
  refine wpAny_Call_Name_kw (ld_blt I hg hm boot_tuple ?_ (by decide) (by decide))
  refine PyProof.Rows.callWith_type1 ?_ (star_ok rfl) rfl
  show wpAny _ _ (spliced [(false, eval (.Call (.Name "reversed" p2) [e] [] pos2) X.env)]) _ _ s
  refine Calls.spliced_cons ?_
  refine wpAny_Call_Name_kw (ld_blt I hg2 hm2 PyProof.Rows.boot_reversed ?_ (by decide) (by decide))
  refine PyProof.Rows.callWith_type1 (thn (pa_cons ha pa_nil (star_ok hs) pos2 pins s σ H (fun vs H1 => ∃ a xs ds, vs = [.ref a] ∧ SqT X.K H1 a xs ∧ IsL X.K H1 ds xs ∧ Same H H1 ∧ ∀ v H', Same H H' → Is X.K H' (.tup ds.reverse) v → Q v H') I ⟨ρ, r1, (Res.bind h).imp fun d q1 v H1 e1 i1 => ?_⟩) fun us s1 ⟨vs, H1, I1, rv, a, xs, ds, ev, hq, il, sm, q⟩ => ?_) (star_ok hs) rfl
  · cases i1 with
    | tup hh rr => exact ⟨_, _, _, rfl, hh, rr, e1, q1⟩
    | _ => exact False.elim q1
  · subst ev
    obtain ⟨u, rfl, rx⟩ := vals1 rv
    cases rx
    obtain ⟨its, r', pl, hz⟩ := I1.tuple hq
    have hsz : its.toArray.size ≤ sizeLine := by rw [List.size_toArray, ← r'.length]; exact hz
    have lt : a < s1.heap.objs.size := by obtain ⟨o, e, _⟩ := pl; exact Heap.lt_size e
    refine call_rev pl hsz fun tk => ?_
    refine Calls.spliced_nil ?_
    refine call_tuple_rev (I1.ok.hd hc) (Nat.ne_of_lt lt) ⟨_, Heap.get?_push_size _ rfl, rfl, rfl⟩ (by obtain ⟨o, e, r⟩ := pl; exact ⟨o, Heap.get?_push_of_some _ e, r⟩) hsz fun h' tk' kp => ?_
    have kp' : ∀ b u, s1.heap.get? b = some u → h'.get? b = some u := fun b u e => kp b u (Nat.ne_of_lt (Heap.lt_size e)) (Heap.get?_push_of_some _ e)
    have I2 : Inv X pins σ H1 { s1 with heap := h', toks := tk' } := I1.kept (t' := tk') kp'
    have ea : its.toArray.toList.reverse.toArray = its.reverse.toArray := by simp
    rw [ea]
    have I3 : Inv X pins σ (upd H1 h'.objs.size (.tup xs.reverse)) { s1 with heap := h'.push { cls := .type "tuple", data := .seq its.reverse.toArray }, toks := tk' } :=
      I2.laid (t' := tk') (fun b o e => Heap.get?_push_of_some _ e) (Nat.le_refl _) (show ObjOk X.prog X.w _ _ _ (.tup xs.reverse) from ⟨by rw [List.length_reverse]; exact hz, its.reverse, r'.reverse, TupD.new _ _⟩)
    have fr : H1 h'.objs.size = none := I2.hok.fresh (Nat.le_refl _)
    exact ⟨.ref h'.objs.size, _, I3, rfl, q _ _ (sm.trans (same_new fr _)) (.tup (SqT.of upd_same) (il.reverse.mono (same_new fr _)))⟩
end
end L2.PU

set_option Elab.async false
set_option linter.all false
set_option maxRecDepth 100000
set_option maxHeartbeats 4000000
namespace L2.PU
open PySem PySem.Spec PyProof.Rows

/-! ### t.index(x): texts -/
section
variable {X : Cx} {B : Hp} {e a b : Expr} {fa fb : Rho → M D} {pos p apos cpos : Pos}
/-- the first place -/
def idxS (x : Str) : List Str → Option Nat
  | [] => none
  | y :: r => if y = x then some 0 else (idxS x r).map (· + 1)
theorem idxS_some {x : Str} : ∀ {ys : List Str} {j : Nat}, idxS x ys = some j → ys[j]? = some x ∧ ∀ m, m < j → ys[m]? ≠ some x
  | [], _, h => nomatch h
  | y :: r, j, h => by
    unfold idxS at h
    split at h
    · rename_i e
      cases h
      exact ⟨by rw [e]; rfl, fun m hm => absurd hm (Nat.not_lt_zero m)⟩
    · rename_i e
      obtain ⟨k, hk, rfl⟩ := Option.map_eq_some_iff.mp h
      obtain ⟨h1, h2⟩ := idxS_some hk
      refine ⟨by simpa using h1, fun m hm => ?_⟩
      cases m with
      | zero => simpa using e
      | succ m => simpa using h2 m (by omega)
def gIndex : D → D → M D
  | .tup ds, .str x => match strL ds with
    | some ys => (match idxS x ys with | some j => ok (.int j) | none => none)
    | none => none
  | _, _ => none
def tix (fa fb : Rho → M D) : Rho → M D := fun ρ => bnd (fa ρ) fun x => match x with
  | .tup ds => bnd (fb ρ) fun y => gIndex (.tup ds) y
  | _ => none
theorem pd_tindex (ha : PD X B a fa) (hb : PD X B b fb) (hs : nostar b = true := by rfl) (hbase : attributeBase a "index" X.env (eval a X.env) = eval a X.env := by rfl) (hline : (apos.endLine == cpos.line) = true := by rfl) :
    PD X B (.Call (.Attribute a "index" apos) [b] [] cpos) (tix fa fb) := by
  intro pins s σ H Q I h
  obtain ⟨ρ, r1, h⟩ := h
  refine wpAny_Call_method1_late hbase hline (by rw [star1 hs]; rfl) ?_
  refine thn (ha pins s σ H (fun v H1 => ∃ ds, Is X.K H1 (.tup ds) v ∧ Same H H1 ∧ Res X σ H (fun d => ∀ v H', Same H H' → Is X.K H' d v → Q v H') (bnd (fb ρ) fun y => gIndex (.tup ds) y)) I ⟨ρ, r1, (Res.bind h).imp fun dx h1 v H1 e1 i1 => ?_⟩) fun v s1 ⟨x, H1, I1, rx, ds, ix, sm, h1⟩ => ?_
  · cases i1 with
    | tup hh rr => exact ⟨_, .tup hh rr, e1, h1⟩
    | _ => exact False.elim h1
  · cases ix with
    | tup hq il =>
      cases rx
      obtain ⟨o, ho, hc, hd⟩ := I1.tupleD hq
      refine ⟨"tuple", "tuple.index", PySem.F.plainAttrs_tuple, PySem.F.slot_tuple_index, PySem.F.type_tuple_index, ⟨o, ho, hc⟩, fun a' e' => by cases e'; exact ⟨o, ho, hd⟩, ?_⟩
      refine Calls.callWith_builtin rfl (Calls.evalArgs_plain ?_)
      refine Calls.spliced_cons (thn (hb pins s1 σ H1 (fun y H2 => ∃ x j ys, y = .str x ∧ strL ds = some ys ∧ idxS x ys = some j ∧ Same H1 H2 ∧ Q (.int j) H2) I1 ⟨ρ, r1.mono sm, (Res.bind h1).mono sm fun dy h2 y H2 e2 i2 => ?_⟩) fun u s2 ⟨y, H2, I2, ry, x, j, ys, ey, hys, hj, sm2, q⟩ => Calls.spliced_nil ?_)
      · cases i2 with
        | str x =>
          dsimp only [gIndex] at h2
          split at h2
          · rename_i ys hys
            split at h2
            · rename_i j hj
              exact ⟨x, j, ys, rfl, hys, hj, e2, h2 _ _ (sm.trans e2) (.int _)⟩
            · exact False.elim h2
          · exact False.elim h2
        | _ => exact False.elim h2
      · subst ey
        obtain ⟨t, rfl⟩ := ry
        have hq2 : SqT X.K H2 _ _ := SqT.mono sm2 hq
        have ed := strL_eq _ hys
        subst ed
        obtain ⟨its, r', pl, hz⟩ := I2.tuple hq2
        have hT : s2.TypeIs (.ref _) "tuple" := pl.typeIs
        obtain ⟨k1, k2⟩ := idxS_some hj
        have hlen : its.toArray.size = ys.length := by rw [List.size_toArray, ← r'.length, ← il.length, List.length_map]
        have hjl : j < ys.length := (List.getElem?_eq_some_iff.mp k1).1
        have at_ : ∀ (i : Nat) (v : Value), its.toArray[i]? = some v → ∃ t, v = Value.str (ys.getD i Str.empty) t := fun i v hv => strs_at il r' i v (by simpa using hv)
        refine wpAny_call_entry PySem.F.slot_tuple_index hT PySem.F.entry_tuple_index (tuple_index_body (j := j) pl (fun i v hv => ⟨_, at_ i v hv⟩) (by rw [hlen]; exact hjl) ?_ ?_ ⟨.int j, H2, I2.tok _, ⟨_, rfl⟩, q⟩) (PySem.F.args_tuple_index_2 _ _)
        · have hl : j < its.toArray.size := by rw [hlen]; exact hjl
          obtain ⟨u, hu⟩ := at_ j its.toArray[j] (by simp [hl])
          refine ⟨u, ?_⟩
          have e1 : its.toArray[j]? = some its.toArray[j] := by simp [hl]
          rw [e1, hu, List.getD_eq_getElem?_getD, k1]
          rfl
        · intro m u hm e1
          obtain ⟨t', e2⟩ := at_ m _ e1
          injection e2 with e3 e4
          have hml : m < ys.length := by omega
          rw [List.getD_eq_getElem?_getD, List.getElem?_eq_getElem hml] at e3
          refine k2 m hm ?_
          rw [List.getElem?_eq_getElem hml]
          exact congrArg some e3.symm
end

/-! ### t == (), a tuple and the empty one -/
section
variable {X : Cx} {B : Hp} {e a b : Expr} {fa fb : Rho → M D} {pos : Pos}
def gEqNil : D → D → M D
  | .tup ds, .tup [] => ok (.bl ds.isEmpty)
  | _, _ => none
theorem n_eqnil : NoErr gEqNil := by
  intro x y c h
  unfold gEqNil at h
  split at h <;> cases h
def rEqNil (K : PySem.W.Frag) : R2 := fun x y H Q => ∃ a b xs, x = .ref a ∧ y = .ref b ∧ SqT K H a xs ∧ SqT K H b [] ∧ Q (.bl xs.isEmpty) H
theorem op_eqnil (hu : X.A.units < cLine) : OpR X (compareOp .Eq) (rEqNil X.K) := by
  intro pins s σ H x y v u Q I rx ry h
  obtain ⟨a, b, xs, rfl, rfl, ha, hb, q⟩ := h
  cases rx
  cases ry
  obtain ⟨its, r1, p1, _⟩ := I.tuple ha
  obtain ⟨its2, r2, p2, _⟩ := I.tuple hb
  have e2 : its2 = [] := r2.nil_iff.mpr rfl
  subst e2
  refine PySem.SeqAt.eq_tupleAt (e := fun _ => true) p1 p2 hu (fun j h1 h2 => by simp at h2) ⟨.bl xs.isEmpty, H, I, ?_, q⟩
  have hl := r1.length
  cases xs with
  | nil => cases r1; rfl
  | cons x xs => cases r1; rfl
theorem r_eqnil : R2ok X (rEqNil X.K) gEqNil := by
  intro H x y dx dy d Q ix iy e q
  unfold gEqNil at e
  split at e
  · rename_i ds
    cases e
    cases ix with
    | tup h1 r1 =>
      cases iy with
      | tup h2 r2 =>
        cases r2
        exact ⟨_, _, _, rfl, rfl, h1, h2, by rw [isEmpty_isL r1]; exact q _ H (Same.refl H) (.bl _)⟩
  · cases e
theorem pd_eqnil {k : Nat} (hr : Room k X.A) (ha : PD X B a fa) (hb : PD X B b fb) : PD X B (.Compare a [.Eq] [b] pos) (b2 gEqNil fa fb) := pd_cmp (op_eqnil hr.units0) r_eqnil n_eqnil ha hb (nomark _)
theorem pdt_eqnil {k : Nat} (hr : Room k X.A) (ha : PD X B a fa) (hb : PD X B b fb) : PDT X B (.Compare a [.Eq] [b] pos) (testB (b2 gEqNil fa fb)) := pdt_cmp (op_eqnil hr.units0) r_eqnil n_eqnil ha hb (nomark _)
end
end L2.PU

set_option Elab.async false
set_option linter.all false
set_option maxRecDepth 100000
set_option maxHeartbeats 4000000
namespace L2.PU
open PySem PySem.Spec PyProof.Rows

/-! ### sorted(a set of texts) -/
section
variable {X : Cx} {B : Hp} {e a b : Expr} {fa fb : Rho → M D} {pos p p2 pos2 : Pos}
theorem inv_drew {pins : List (Addr × Obj)} {σ : List (Option V)} {H : Hp} {s : Shared} (I : Inv X pins σ H s) (d : Drawn) : Inv X pins σ H { s with drawn := d } := ⟨I.ok, I.os, I.bare, I.base, I.loc, I.cell, I.free, I.freeC, I.pin, I.hok, I.len⟩
theorem strsD {K : PySem.W.Frag} {H : Hp} : ∀ {vs : List Value} {xs : List Str}, StrsAre vs xs → Vals (xs.map V.str) vs ∧ IsL K H (xs.map D.str) (xs.map V.str)
  | _, _, .nil => ⟨.nil, .nil⟩
  | _, _, .cons y t r => ⟨.cons ⟨t, rfl⟩ (strsD (K := K) (H := H) r).1, .cons (.str y) (strsD r).2⟩
def srtD : D → M D
  | .set ss => if ss.length < 64 ∧ ss.Nodup then ok (.lst ((srtS ss).map .str)) else none
  | _ => none
theorem call_sortedS (hc : X.calm = true) : CallR X (.builtin "sorted") (fun xs H Q => ∃ p ss, xs = [.ref p] ∧ H p = some (.set (fun k => (ss : List Str).contains k) ss.length) ∧ ss.length < 64 ∧ ss.Nodup ∧ ∀ l, H l = none → Q (.ref l) (upd H l (.lst ((srtS ss).map V.str)))) := by
  intro pins s σ H xs us Q I r h
  obtain ⟨p, ss, rfl, hp, h64, hn, q⟩ := h
  obtain ⟨u, rfl, rx⟩ := vals1 r
  cases rx
  obtain ⟨z, zt⟩ := (show ObjOk X.prog X.w H s.heap p (.set _ _) from I.hok p _ hp)
  refine sorted_set (I.ok.hd hc) h64 hn z zt fun out l h' tk d m hS hl ho kp => ?_
  have hlen : (srtS ss).length = ss.length := (srtS_perm ss).length_eq
  have hs : sizeLine = 16777216 := sizeLine_eq
  exact ⟨.ref l, _, (inv_drew I d).laid (t' := tk) kp hl (show ObjOk X.prog X.w _ h' _ (.lst _) from ⟨by rw [List.length_map]; omega, out, m, (strsD (K := X.K) (H := H) hS).1, ho⟩), rfl, q _ (I.hok.fresh hl)⟩
theorem boot_sorted : bootBuiltins "sorted" = some (.builtin "sorted") := by decide +kernel
theorem isl_str {K : PySem.W.Frag} {H : Hp} : ∀ (xs : List Str), IsL K H (xs.map D.str) (xs.map V.str)
  | [] => .nil
  | x :: xs => .cons (.str x) (isl_str xs)
theorem pd_sorted (hc : X.calm = true) (hg : Gl X "sorted") (hm : X.mg "sorted" = none) (ha : PD X B e fa) (hs : nostar e = true := by rfl) : PD X B (.Call (.Name "sorted" p) [e] [] pos) (f1 srtD fa) := by
  refine PE.of (pe_callB (call_sortedS hc) hg hm boot_sorted (pa_cons ha pa_nil (star_ok hs)) (he := star_ok hs) (hpl := by rfl)) fun σ H Q h => ?_
  obtain ⟨ρ, r1, h⟩ := h
  refine ⟨ρ, r1, (Res.bind h).imp fun d q1 v H1 e1 i1 => ?_⟩
  cases i1 with
  | set hh =>
    dsimp only [srtD] at q1
    split at q1
    · rename_i hz
      exact ⟨_, _, rfl, hh, hz.1, hz.2, fun l hl => q1 _ _ (e1.trans (same_new hl _)) (.lst (SqL.of upd_same) (isl_str _))⟩
    · exact False.elim q1
  | _ => exact False.elim q1
end
end L2.PU

set_option Elab.async false
set_option linter.all false
set_option maxRecDepth 100000
set_option maxHeartbeats 4000000
namespace L2.PU
open PySem PySem.Spec PyProof.Rows

/-! ### x.extend(y), x a list of one's own, y a list -/
section
variable {X : Cx} {B : Hp} {e e' : Expr} {es : List Expr} {fa fb : Rho → M D} {ga : Rho → M (List D)} {pos pos' p p2 apos cpos : Pos} {x : Str} {i : Nat}
def rExt (K : PySem.W.Frag) : V → List V → Hp → VK → Prop := fun x vs H Q => ∃ l b xs zs, x = .ref l ∧ vs = [.ref b] ∧ H l = some (.lst xs) ∧ SqL K H b zs ∧ xs.length + zs.length ≤ sizeLine ∧ Q .non (upd H l (.lst (xs ++ zs)))
theorem mt_ext : MtM X "list.extend" (rExt X.K) := by
  intro pins s σ H x vs v us Q I rx rv h
  obtain ⟨l, b, xs, zs, rfl, rfl, hH, hB, hz, q⟩ := h
  cases rx
  obtain ⟨u, rfl, ru⟩ := rv.one
  cases ru
  obtain ⟨z, its, n, r, hl, e⟩ := I.lstM hH
  obtain ⟨its2, r2, ⟨o2, n2, ho2, hc2, _, hd2⟩, z2⟩ := I.list hB
  have hl2 := r2.length
  have hsz : its.toArray.size + its2.toArray.size ≤ sizeLine := by rw [List.size_toArray, List.size_toArray]; omega
  refine wpAny_call_entry F.slot_list_extend ⟨_, e, rfl⟩ F.entry_list_extend ?_ (F.args_list_extend_2 _ _)
  show wpAny _ _ (Builtin.List.listExtendWith (.ref l) (.ref b) .none) _ _ _
  unfold Builtin.List.listExtendWith
  refine wpAny_bind (wpAny_typeOf (T := "list") ⟨o2, ho2, hc2⟩ ?_)
  have ht : (Value.type "list" == Value.type "list") = true := by rfl
  rw [if_pos (by rw [ht]; simp)]
  refine wpAny_bind (listItems_at ho2 hd2 (wpAny_bind (listItems_at e rfl ?_)))
  rw [if_neg (by rw [notLongL hsz, Bool.and_false]; exact Bool.false_ne_true)]
  refine wpAny_bind (listUpdate_at e rfl (wpAny_pure ⟨_, rfl, ?_⟩) (by rw [List.size_toArray]; omega) (by rw [Array.size_append]; omega))
  refine ⟨.non, _, I.lset (its' := its ++ its2) hH e (by simp) (r.append r2) ?_, rfl, q⟩
  rw [List.length_append]
  omega
def sExt (i : Nat) (g : Rho → M (List D)) : Rho → Option Out := fun ρ => match ρ[i]? with
  | some (some (.own ds)) => lft (g ρ) ρ fun as => (match as with | [.lst es] => if immL es = true ∧ ds.length + es.length ≤ 100000 then some (.nx (ρ.set i (some (.own (ds ++ es))))) else none | _ => none)
  | _ => none
theorem pds_extend (hN : X.N[i]? = some x) (hv : Vis X.env.scope x) (ha : PD X B e fa) (hs : nostar e = true := by rfl) (hline : (apos.endLine == cpos.line) = true := by rfl)
    (hsw : swapsWith (.Call (.Attribute (.Name x p) "extend" apos) [e] [] cpos) none pos.line X.env = pure false := by rfl)
    (hd : (x == ("__debug__" : Str)) = false := by decide) (hcd : (x == ("__classdict__" : Str)) = false := by decide) :
    PDS X B (.Expr (.Call (.Attribute (.Name x p) "extend" apos) [e] [] cpos) pos) (sExt i (aCons fa aNil)) := by
  refine PS.of (ps_expr (pe_bm PySem.F.plainAttrs_list PySem.F.slot_list_extend PySem.F.type_list_extend mt_ext (pe_var hN hv hd hcd) (pda_cons ha pda_nil (star_ok hs)) (hbase := rfl) (hfew := by rw [star1 hs]; rfl) (hline := hline) (hs := star_ok hs) (hplain := rfl)) hsw) fun E σ H h => ?_
  obtain ⟨ρ, r1, h⟩ := h
  unfold sExt at h
  split at h
  · rename_i ds q
    obtain ⟨O, h1, ho, h2, hl, h3⟩ := (show Rel X.K B ρ σ H from r1)
    obtain ⟨a, vs, z1, z2, z3, z4⟩ := h3 i _ q
    refine ⟨.ref a, z2, .inl ⟨rfl, _, SqL.of z3⟩, ρ, r1, (lft_red r1 h).imp fun as k1 us H1 e1 i1 => ?_⟩
    split at k1
    · rename_i es
      split at k1
      · rename_i hh
        cases i1 with
        | cons id1 rest =>
          cases rest
          cases id1 with
          | lst hq rr =>
            have ho1 := ho.mono e1
            have il := offL_imm ho1 hh.1 rr
            have z4' := z4.mono (Off.mono e1 (O := O))
            refine ⟨a, _, vs, _, rfl, rfl, e1 _ _ z3, hq, ?_, k1 _ _ (Rel.own_put O h1 ho1 (h2.trans (Off.mono e1)) hl (fun j sv qj => (h3 j sv qj).mono e1) q z1 z2 (z4'.append il))⟩
            rw [← z4.length, ← rr.length]
            exact Nat.le_trans hh.2 (by decide)
      · exact False.elim k1
    · exact False.elim k1
  · exact False.elim h
end
end L2.PU

set_option Elab.async false
set_option linter.all false
set_option maxRecDepth 100000
set_option maxHeartbeats 4000000
namespace L2.PU
open PySem PySem.Spec PyProof.Rows
/-! ### a def by what its body comes to -/
def viaX (n : Nat) (f : List D → M D) : List D → M D := fun ds => if ds.length = n then f ds else none
def viaD (n : Nat) (f : List D → M D) : List D → M D := fun ds => if ds.length = n then (match f ds with | some (.ok d) => some (.ok d) | _ => none) else none
theorem viaX_len {n : Nat} {f : List D → M D} : ∀ ds r, viaX n f ds = some r → ds.length = n := fun ds r h => by
  unfold viaX at h
  split at h
  · assumption
  · cases h
theorem viaX_q {n : Nat} {f : List D → M D} : ∀ ds r, viaX n f ds = some r → f ds = some r := fun ds r h => by
  unfold viaX at h
  split at h
  · exact h
  · cases h
theorem viaD_len {n : Nat} {f : List D → M D} : ∀ ds r, viaD n f ds = some r → ds.length = n := fun ds r h => by
  unfold viaD at h
  split at h
  · assumption
  · cases h
theorem viaD_q {n : Nat} {f : List D → M D} : ∀ ds r, viaD n f ds = some r → ∃ d, r = .ok d ∧ f ds = ok d := fun ds r h => by
  unfold viaD at h
  split at h
  · split at h
    · rename_i d hd
      cases h
      exact ⟨d, rfl, hd⟩
    · cases h
  · cases h
theorem viaX_of {n : Nat} {f : List D → M D} {ds : List D} {r : M D} (hl : ds.length = n) (h : f ds = r) : viaX n f ds = r := by unfold viaX; rw [if_pos hl, h]
theorem viaD_of {n : Nat} {f : List D → M D} {ds : List D} {d : D} (hl : ds.length = n) (h : f ds = ok d) : viaD n f ds = ok d := by unfold viaD; rw [if_pos hl, h]; rfl
/-! ### tuples of texts -/
abbrev tS (xs : List Str) : D := .tup (xs.map D.str)
theorem immL_strs (xs : List Str) : immL (xs.map D.str) = true := by
  induction xs with
  | nil => rfl
  | cons x r ih => rw [List.map_cons, immL, ih]; rfl
theorem imm_tS (xs : List Str) : (tS xs).imm = true := immL_strs xs
theorem in_tS (neg : Bool) (x : Str) (h : List Str) : gIn neg (.str x) (tS h) = ok (.bl (if neg then !h.contains x else h.contains x)) := by
  unfold gIn
  simp only [flD, seqD, Option.bind_some, flL_strs, inV_strs]
theorem cmpL_strs {k : Nat} {ft : Rho → M Bool} {fe : Rho → M D} {ρ : Rho} {p : Str → Bool} {g : Str → D} : ∀ (l : List Str), (∀ x ∈ l, ft (ρ.set k (some (.sh (.str x)))) = ok (p x)) → (∀ x ∈ l, p x = true → fe (ρ.set k (some (.sh (.str x)))) = ok (g x) ∧ (g x).imm = true) →
    cmpL [k] h1 ft fe (l.map D.str) ρ = ok ((l.filter p).map g)
  | [], _, _ => rfl
  | x :: l, h1', h2' => by
    have ih := cmpL_strs (p := p) (g := g) l (fun y hy => h1' y (List.mem_cons_of_mem _ hy)) (fun y hy => h2' y (List.mem_cons_of_mem _ hy))
    have e1 := h1' x List.mem_cons_self
    rw [List.map_cons]
    unfold cmpL
    show (match ft (ρ.set k (some (.sh (.str x)))) with
      | some (.ok true) => (match fe (ρ.set k (some (.sh (.str x)))) with
        | some (.ok r) => if r.imm = true then bnd (cmpL [k] h1 ft fe (l.map D.str) ρ) fun rs => ok (r :: rs) else none
        | _ => none)
      | some (.ok false) => cmpL [k] h1 ft fe (l.map D.str) ρ
      | _ => none) = _
    rw [e1, ih]
    cases hp : p x with
    | true =>
      obtain ⟨e2, e3⟩ := h2' x List.mem_cons_self hp
      rw [e2, List.filter_cons_of_pos hp]
      show (if (g x).imm = true then bnd (ok ((l.filter p).map g)) fun rs => ok (g x :: rs) else none) = _
      rw [if_pos e3]
      rfl
    | false =>
      rw [List.filter_cons_of_neg (by simp [hp])]
      rfl
/-! ### steps -/
theorem sSeq_ex {F G : Rho → Option Out} {ρ ρ' : Rho} {c : Addr} (h : F ρ = some (.ex c ρ')) : sSeq F G ρ = some (.ex c ρ') := by unfold sSeq; rw [h]
theorem sRaise_ok {C : Addr} {g : Rho → M (List D)} {ρ : Rho} {ds : List D} (h : g ρ = ok ds) (hl : ds.length ≤ 1000) : sRaise C g ρ = some (.ex C ρ) := by
  unfold sRaise
  rw [h]
  show (if ds.length ≤ 1000 then some (Out.ex C ρ) else none) = _
  rw [if_pos hl]
theorem andB_ok {f g : Rho → M Bool} {ρ : Rho} {a b : Bool} (h1 : f ρ = ok a) (h2 : g ρ = ok b) : andB f g ρ = ok (a && b) := by
  unfold andB
  rw [h1, bnd_ok]
  cases a
  · rfl
  · rw [if_pos rfl, h2]; rfl
theorem orB_ok {f g : Rho → M Bool} {ρ : Rho} {a b : Bool} (h1 : f ρ = ok a) (h2 : g ρ = ok b) : orB f g ρ = ok (a || b) := by
  unfold orB
  rw [h1, bnd_ok]
  cases a
  · rw [if_neg (by decide), h2]; rfl
  · rfl
theorem one_raise {C : Addr} {f : Rho → M D} {ρ : Rho} {d : D} (h : f ρ = ok d) : sSeq (sRaise C (aCons f aNil)) sNil ρ = some (.ex C ρ) := sSeq_ex (sRaise_ok (aCons_ok h aNil_ok) (by simp))
/-! ### messages -/
theorem len_app (a b : Str) : (a ++ b).length = a.length + b.length := PySem.strLen_append a b
theorem msg1 {c x : Str} {f : Rho → M D} {ρ : Rho} (hc : c.length ≤ 1000) (hx : (reprText x).length ≤ 10000) (hf : f ρ = ok (.str x)) : ∃ z, jnd (jCon c (jRep f jNil)) ρ = ok (.str z) := by
  have e0 : Str.empty.length = 0 := rfl
  have l1 : (Str.empty ++ c).length ≤ 100000 := by rw [len_app, e0]; omega
  have l2 : (reprText x).length ≤ 100000 ∧ (Str.empty ++ c ++ reprText x).length ≤ 100000 := by rw [len_app, len_app, e0]; omega
  refine ⟨Str.empty ++ c ++ reprText x, ?_⟩
  unfold jnd jCon jRep jNil
  rw [if_pos l1, hf]
  simp only [bnd_ok]
  rw [if_pos l2, if_pos l2.2]
  rfl
theorem msg2 {c c' x : Str} {f : Rho → M D} {ρ : Rho} (hc : c.length ≤ 1000) (hc' : c'.length ≤ 1000) (hx : (reprText x).length ≤ 10000) (hf : f ρ = ok (.str x)) : ∃ z, jnd (jCon c (jRep f (jCon c' jNil))) ρ = ok (.str z) := by
  have e0 : Str.empty.length = 0 := rfl
  have l1 : (Str.empty ++ c).length ≤ 100000 := by rw [len_app, e0]; omega
  have l2 : (reprText x).length ≤ 100000 ∧ (Str.empty ++ c ++ reprText x).length ≤ 100000 := by rw [len_app, len_app, e0]; omega
  have l3 : (Str.empty ++ c ++ reprText x ++ c').length ≤ 100000 := by rw [len_app, len_app, len_app, e0]; omega
  refine ⟨Str.empty ++ c ++ reprText x ++ c', ?_⟩
  unfold jnd jCon jRep jNil
  rw [if_pos l1, hf]
  simp only [bnd_ok]
  rw [if_pos l2, if_pos l3, if_pos l3]
  rfl
def Sh (x : Str) : Prop := (reprText x).length ≤ 10000
/-! ### lists without a thing twice -/
theorem sub_len : ∀ (a b : List Str), a.Nodup → (∀ x ∈ a, x ∈ b) → a.length ≤ b.length
  | [], _, _, _ => Nat.zero_le _
  | x :: a, b, hn, hs => by
    rw [List.nodup_cons] at hn
    have hx := hs x List.mem_cons_self
    have h1 := sub_len a (b.erase x) hn.2 (fun y hy => (List.mem_erase_of_ne (fun (e : y = x) => hn.1 (e ▸ hy))).mpr (hs y (List.mem_cons_of_mem _ hy)))
    rw [List.length_erase_of_mem hx] at h1
    have : 0 < b.length := List.length_pos_of_mem hx
    rw [List.length_cons]
    omega
theorem sub_all {a b : List Str} (hn : a.Nodup) (hs : ∀ x ∈ a, x ∈ b) (hl : b.length ≤ a.length) : ∀ y ∈ b, y ∈ a := fun y hy => Classical.byContradiction fun q => by
  have h1 := sub_len a (b.erase y) hn (fun x hx => (List.mem_erase_of_ne (fun (e : x = y) => q (e ▸ hx))).mpr (hs x hx))
  rw [List.length_erase_of_mem hy] at h1
  have : 0 < b.length := List.length_pos_of_mem hy
  omega
theorem metS_self {l : List Str} (h : l.Nodup) : metS l = l := by
  have g : ∀ (vs σ : List Str), (σ ++ vs).Nodup → vs.foldl addS σ = σ ++ vs := by
    intro vs
    induction vs with
    | nil => intro σ _; simp
    | cons v vs ih =>
      intro σ hn
      rw [List.foldl_cons]
      have hv : σ.contains v = false := by
        cases hc : σ.contains v with
        | false => rfl
        | true =>
          have hm := List.contains_iff_mem.mp hc
          rw [List.nodup_append] at hn
          exact absurd rfl (hn.2.2 v hm v List.mem_cons_self)
      have e : addS σ v = σ ++ [v] := by unfold addS; rw [hv]; rfl
      rw [e, ih (σ ++ [v]) (by rw [List.append_assoc]; exact hn), List.append_assoc]
      rfl
  have := g l [] (by simpa using h)
  simpa [metS] using this
theorem insL_perm {α : Type} (xs : List α) (k : Nat) (y : α) : (insL xs k y).Perm (y :: xs) := by
  unfold insL
  have h := @List.perm_middle α y (xs.take k) (xs.drop k)
  rw [List.take_append_drop] at h
  exact h
theorem insL_map {α β : Type} (f : α → β) (xs : List α) (k : Nat) (y : α) : insL (xs.map f) k (f y) = (insL xs k y).map f := by
  unfold insL
  rw [List.map_append, List.map_cons, List.map_take, List.map_drop]
theorem cut_to (ds : List D) {j : Nat} (h : j ≤ ds.length) : cutD ds none (some (j : Int)) = ds.take j := by
  unfold cutD
  rw [HT.sIx_none, HT.sIx_nat, List.drop_zero, Nat.sub_zero, Nat.min_eq_left h]
theorem cut_from (ds : List D) {j : Nat} (h : j ≤ ds.length) : cutD ds (some (j : Int)) none = ds.drop j := by
  unfold cutD
  rw [HT.sIx_none, HT.sIx_nat, Nat.min_eq_left h]
  exact List.take_of_length_le (by rw [List.length_drop]; exact Nat.le_refl _)
/-! ### the drawn names -/
abbrev L (s : Str) : List Nat := s.cps.toList
theorem L_app (a b : Str) : L (a ++ b) = L a ++ L b := by
  show (a.cps ++ b.cps).toList = _
  rw [Array.toList_append]
theorem str_of_L {a b : Str} (h : L a = L b) : a = b := by
  obtain ⟨a⟩ := a
  obtain ⟨b⟩ := b
  exact congrArg Str.mk (Array.toList_inj.mp h)
theorem len_L (s : Str) : s.length = (L s).length := by simp [Str.length]
theorem L_cut (z : Str) (lo hi : Option Int) : ∀ c ∈ L (strCut z lo hi), c ∈ L z := fun c hc => by
  have : c ∈ (z.cps.toList.drop (HT.sIx z.length 0 lo)).take (HT.sIx z.length z.length hi - HT.sIx z.length 0 lo) := by simpa [strCut] using hc
  exact List.mem_of_mem_drop (List.mem_of_mem_take this)
theorem cut_len (z : Str) (lo hi : Option Int) : (strCut z lo hi).length ≤ z.length := by
  rw [len_L, len_L]
  have e : L (strCut z lo hi) = (z.cps.toList.drop (HT.sIx z.length 0 lo)).take (HT.sIx z.length z.length hi - HT.sIx z.length 0 lo) := by simp [strCut]
  rw [e, List.length_take, List.length_drop]
  show _ ≤ z.cps.toList.length
  omega
theorem L_rep (z : Str) : ∀ (n : Nat), ∀ c ∈ L (repS z n), c ∈ L z := by
  have g : ∀ (m : Nat) (a : Array Nat), ∀ c ∈ ((List.replicate m z.cps).foldl (· ++ ·) a).toList, c ∈ a.toList ∨ c ∈ z.cps.toList := by
    intro m
    induction m with
    | zero => intro a c hc; exact .inl hc
    | succ m ih =>
      intro a c hc
      rw [List.replicate_succ, List.foldl_cons] at hc
      rcases ih _ c hc with h | h
      · rw [Array.toList_append] at h
        exact List.mem_append.mp h
      · exact .inr h
  intro n c hc
  rcases g n #[] c hc with h | h
  · simp at h
  · exact h
def chs : Str := "aXq 0~zB-c!_dEf.gH1i(jK"
theorem chs_len : (L chs).length = 23 := by decide +kernel
theorem chs_nd : (L chs).Nodup := by decide +kernel
theorem chs_lo : ∀ c ∈ L chs, c < 16 ^ 8 := by decide +kernel
def chr (i : Nat) : Str := ⟨#[(L chs).getD i 0]⟩
def nam (st k : Int) : Str :=
  if st / 23 % 3 = 1 then strCut "zz" none (some (st % 3)) ++ repS "a" ((5 * k + st) % 23).toNat
  else strCut "zyzy" none (some (st / 69 % 4)) ++ chr ((5 * k + st) % 23).toNat ++ strCut "yzzy" none (some (st / 276 % 4))
theorem chr_at {i : Nat} (h : i < 23) : (L chs)[i]? = some ((L chs).getD i 0) := by
  have h' : i < (L chs).length := by rw [chs_len]; exact h
  rw [List.getD_eq_getElem?_getD, List.getElem?_eq_getElem h']
  rfl
theorem nam_inj {st k k' : Int} (h1 : 0 ≤ k) (h2 : k < 23) (h3 : 0 ≤ k') (h4 : k' < 23) (e : nam st k = nam st k') : k = k' := by
  have lo : ∀ z : Int, 0 ≤ z % 23 ∧ z % 23 < 23 := fun z => by omega
  obtain ⟨a1, a2⟩ := lo (5 * k + st)
  obtain ⟨b1, b2⟩ := lo (5 * k' + st)
  have key : ((5 * k + st) % 23).toNat = ((5 * k' + st) % 23).toNat → k = k' := fun q => by omega
  unfold nam at e
  split at e
  · have el := congrArg Str.length e
    rw [len_app, len_app, rep_len, rep_len] at el
    have e1 : (("a" : Str)).length = 1 := by decide +kernel
    rw [e1] at el
    exact key (by omega)
  · have el := congrArg L e
    rw [L_app, L_app, L_app, L_app] at el
    have el2 := List.append_cancel_right el
    have el3 := List.append_cancel_left el2
    have ec : (L chs).getD ((5 * k + st) % 23).toNat 0 = (L chs).getD ((5 * k' + st) % 23).toNat 0 := by
      have : [(L chs).getD ((5 * k + st) % 23).toNat 0] = [(L chs).getD ((5 * k' + st) % 23).toNat 0] := by simpa [chr] using el3
      injection this
    have n1 : ((5 * k + st) % 23).toNat < (L chs).length := by rw [chs_len]; omega
    have n2 : ((5 * k' + st) % 23).toNat < (L chs).length := by rw [chs_len]; omega
    rw [List.getD_eq_getElem?_getD, List.getD_eq_getElem?_getD, List.getElem?_eq_getElem n1, List.getElem?_eq_getElem n2] at ec
    exact key ((List.getElem_inj chs_nd).mp ec)
theorem nam_sh (st k : Int) : Sh (nam st k) ∧ (nam st k).length ≤ 100 := by
  have a1 : 0 ≤ (5 * k + st) % 23 ∧ (5 * k + st) % 23 < 23 := by omega
  have hz : ∀ (z : Str) (o : Option Int), (∀ c ∈ L z, c < 16 ^ 8) → ∀ c ∈ L (strCut z none o), c < 16 ^ 8 := fun z o h c hc => h c (L_cut z none o c hc)
  have z1 : ∀ c ∈ L "zz", c < 16 ^ 8 := by decide +kernel
  have z2 : ∀ c ∈ L "zyzy", c < 16 ^ 8 := by decide +kernel
  have z3 : ∀ c ∈ L "yzzy", c < 16 ^ 8 := by decide +kernel
  have z4 : ∀ c ∈ L "a", c < 16 ^ 8 := by decide +kernel
  have l1 : (("zz" : Str)).length = 2 := by decide +kernel
  have l2 : (("zyzy" : Str)).length = 4 := by decide +kernel
  have l3 : (("yzzy" : Str)).length = 4 := by decide +kernel
  have l4 : (("a" : Str)).length = 1 := by decide +kernel
  have hh : (∀ c ∈ L (nam st k), c < 16 ^ 8) ∧ (nam st k).length ≤ 100 := by
    unfold nam
    split
    · constructor
      · intro c hc
        rw [L_app] at hc
        rcases List.mem_append.mp hc with hc | hc
        · exact hz _ _ z1 c hc
        · exact z4 c (L_rep _ _ c hc)
      · rw [len_app, rep_len, l4]
        have := cut_len "zz" none (some (st % 3))
        omega
    · constructor
      · intro c hc
        rw [L_app, L_app] at hc
        rcases List.mem_append.mp hc with hc | hc
        · rcases List.mem_append.mp hc with hc | hc
          · exact hz _ _ z2 c hc
          · have e : c = (L chs).getD ((5 * k + st) % 23).toNat 0 := by simpa [chr] using hc
            exact chs_lo c (by rw [e]; exact List.mem_of_getElem? (chr_at (by omega)))
        · exact hz _ _ z3 c hc
      · rw [len_app, len_app]
        have := cut_len "zyzy" none (some (st / 69 % 4))
        have := cut_len "yzzy" none (some (st / 276 % 4))
        have e : (chr ((5 * k + st) % 23).toNat).length = 1 := rfl
        omega
  refine ⟨?_, hh.2⟩
  have := PySem.StrLaws.reprText_len (nam st k) hh.1
  unfold Sh
  omega
theorem mulB_int {i j : Int} (h1 : 0 ≤ i) (h2 : i < 1000000000000000000000000000000) (h3 : 0 ≤ j) (h4 : j < 1000000000000000000000000000000) : mulB i j = true := by
  have q : ∀ z : Int, 0 ≤ z → z < 1000000000000000000000000000000 → z.natAbs < 2 ^ 1048576 := fun z a b => pow_line (m := 100) (by omega) (by decide)
  exact mulB_of (q i h1 h2) (q j h3 h4)
def mix (c : Int) : Int := (c % 1000000000 + 1) * 2862933555777941757 % 1000000000000000000000007
theorem mix_lo (c : Int) : 0 ≤ mix c := by unfold mix; omega
theorem p9 : (10 : Int) ^ (9 : Int).toNat = 1000000000 := by decide
theorem p24 : (10 : Int) ^ (24 : Int).toNat = 1000000000000000000000000 := by decide
def denMix : Rho → Option Out :=
    (sSeq (sRet (b2 gMod (b2 gTimes (b2 gPlus (b2 gMod (look 0) (b2 gPow (con (.int 10)) (con (.int 9)))) (con (.int 1))) (con (.int 2862933555777941757))) (b2 gPlus (b2 gPow (con (.int 10)) (con (.int 24))) (con (.int 7)))))
    sNil)
theorem mix_sp (c : Int) : fnRes (denMix [some (.sh (.int c))]) = ok (.int (mix c)) := by
  have hm : mulB (c % 1000000000 + 1) 2862933555777941757 = true := mulB_int (by omega) (by omega) (by omega) (by omega)
  simp [denMix, sSeq, sRet, b2, look, con, bnd, ok, lft, gMod, gPlus, gTimes, gMul, gPow, p9, p24, fnRes, SV.cur, hm, mix]
def denName : Rho → Option Out :=
    (sSeq (sSet 2 (b2 gMod (b2 gPlus (b2 gTimes (con (.int 5)) (look 1)) (look 0)) (con (.int 23))))
    (sSeq (sIf (testB (b2 gEq (b2 gMod (b2 gFdiv (look 0) (con (.int 23))) (con (.int 3))) (con (.int 1)))) (sSeq (sRet (b2 gPlus (cut3 (con (.str "zz")) oNone (oPart (b2 gMod (look 0) (con (.int 3))))) (b2 gTimes (con (.str "a")) (look 2))))
    sNil) sNil)
    (sSeq (sRet (b2 gPlus (b2 gPlus (cut3 (con (.str "zyzy")) oNone (oPart (b2 gMod (b2 gFdiv (look 0) (con (.int 69))) (con (.int 4))))) (b2 gIx (con (.str "aXq 0~zB-c!_dEf.gH1i(jK")) (look 2))) (cut3 (con (.str "yzzy")) oNone (oPart (b2 gMod (b2 gFdiv (look 0) (con (.int 276))) (con (.int 4)))))))
    sNil)))
theorem name_sp {st k : Int} (h1 : 0 ≤ st) (h2 : st < 2000) (h3 : 0 ≤ k) (h4 : k < 1000) : fnRes (denName [some (.sh (.int st)), some (.sh (.int k)), none]) = ok (.str (nam st k)) := by
  have hm : mulB 5 k = true := mulB_int (by omega) (by omega) (by omega) (by omega)
  have a1 : 0 ≤ (5 * k + st) % 23 ∧ (5 * k + st) % 23 < 23 := by omega
  have s1 : sSet 2 (b2 gMod (b2 gPlus (b2 gTimes (con (.int 5)) (look 1)) (look 0)) (con (.int 23))) [some (.sh (.int st)), some (.sh (.int k)), none] = some (.nx [some (.sh (.int st)), some (.sh (.int k)), some (.sh (.int ((5 * k + st) % 23)))]) := by
    simp [sSet, b2, look, con, bnd, ok, lft, gMod, gPlus, gTimes, gMul, SV.cur, hm, setV, D.imm]
  have l1 : (("zz" : Str)).length = 2 := by decide +kernel
  have l2 : (("zyzy" : Str)).length = 4 := by decide +kernel
  have l3 : (("yzzy" : Str)).length = 4 := by decide +kernel
  have l4 : (("a" : Str)).length = 1 := by decide +kernel
  have l5 : chs.length = 23 := by decide +kernel
  have d2 : b2 gEq (b2 gMod (b2 gFdiv (look 0) (con (.int 23))) (con (.int 3))) (con (.int 1)) [some (.sh (.int st)), some (.sh (.int k)), some (.sh (.int ((5 * k + st) % 23)))] = ok (.bl (decide (st / 23 % 3 = 1))) := by
    simp [b2, look, con, bnd, ok, gMod, gFdiv, gEq, eqF, SV.cur]
  have cut : ∀ (z : Str) (f : Rho → M D) (i : Int) (ρ : Rho), z.length ≤ 1000 → f ρ = ok (.int i) → cut3 (con (.str z)) oNone (oPart f) ρ = ok (.str (strCut z none (some i))) := fun z f i ρ hz hf => by
    unfold cut3 oPart oNone con
    rw [hf]
    simp only [bnd_ok]
    show (if z.length ≤ 1000 then ok (D.str (strCut z none (some i))) else none) = _
    rw [if_pos hz]
  have plus : ∀ (f g : Rho → M D) (x y : Str) (ρ : Rho), x.length ≤ 1000 → y.length ≤ 1000 → f ρ = ok (.str x) → g ρ = ok (.str y) → b2 gPlus f g ρ = ok (.str (x ++ y)) := fun f g x y ρ hx hy hf hg => by
    refine b2_ok hf hg ?_
    show (if x.length + y.length ≤ 100000 then ok (D.str (x ++ y)) else none) = _
    rw [if_pos (by omega)]
  have md : ∀ (d : Int), 0 < d → b2 gMod (look 0) (con (.int d)) [some (.sh (.int st)), some (.sh (.int k)), some (.sh (.int ((5 * k + st) % 23)))] = ok (.int (st % d)) := fun d hd => by
    simp [b2, look, con, bnd, ok, gMod, SV.cur, hd]
  have mf : ∀ (d e : Int), 0 < d → 0 < e → d < 1000 → b2 gMod (b2 gFdiv (look 0) (con (.int d))) (con (.int e)) [some (.sh (.int st)), some (.sh (.int k)), some (.sh (.int ((5 * k + st) % 23)))] = ok (.int (st / d % e)) := fun d e hd he hd2 => by
    have hd3 : d < 1073741824 := by omega
    simp [b2, look, con, bnd, ok, gMod, gFdiv, SV.cur, hd, he, hd3]
  unfold denName
  rw [sSeq_nx s1]
  by_cases hb : st / 23 % 3 = 1
  · rw [decide_eq_true hb] at d2
    have t2 : b2 gTimes (con (.str "a")) (look 2) [some (.sh (.int st)), some (.sh (.int k)), some (.sh (.int ((5 * k + st) % 23)))] = ok (.str (repS "a" ((5 * k + st) % 23).toNat)) := by
      refine b2_ok (x := .str "a") (y := .int ((5 * k + st) % 23)) rfl rfl ?_
      show (if 0 ≤ (5 * k + st) % 23 ∧ (("a" : Str)).length ≤ 1000 ∧ (5 * k + st) % 23 ≤ 1000 then ok (D.str (repS "a" ((5 * k + st) % 23).toNat)) else none) = _
      rw [if_pos ⟨a1.1, by rw [l4]; decide, by omega⟩]
    have c1 := cut "zz" (b2 gMod (look 0) (con (.int 3))) _ _ (by rw [l1]; decide) (md 3 (by decide))
    have p1 := plus _ _ _ _ _ (by have := cut_len "zz" none (some (st % 3)); omega) (by rw [rep_len, l4]; omega) c1 t2
    rw [sSeq_rt ((sIf_t (testB_ok d2)).trans (sSeq_rt (sRet_ok p1)))]
    unfold nam
    rw [if_pos hb]
    rfl
  · rw [decide_eq_false hb] at d2
    rw [sSeq_nx ((sIf_f (testB_ok d2)).trans rfl)]
    have c1 := cut "zyzy" (b2 gMod (b2 gFdiv (look 0) (con (.int 69))) (con (.int 4))) _ _ (by rw [l2]; decide) (mf 69 4 (by decide) (by decide) (by decide))
    have c2 := cut "yzzy" (b2 gMod (b2 gFdiv (look 0) (con (.int 276))) (con (.int 4))) _ _ (by rw [l3]; decide) (mf 276 4 (by decide) (by decide) (by decide))
    have i1 : b2 gIx (con (.str "aXq 0~zB-c!_dEf.gH1i(jK")) (look 2) [some (.sh (.int st)), some (.sh (.int k)), some (.sh (.int ((5 * k + st) % 23)))] = ok (.str (chr ((5 * k + st) % 23).toNat)) := by
      refine b2_ok (x := .str chs) (y := .int ((5 * k + st) % 23)) rfl rfl ?_
      show (if chs.length ≤ 1000 then (match atI (L chs) ((5 * k + st) % 23) with | some c => ok (D.str ⟨#[c]⟩) | none => none) else none) = _
      have ea : atI (L chs) ((5 * k + st) % 23) = some ((L chs).getD ((5 * k + st) % 23).toNat 0) := by
        have e : (5 * k + st) % 23 = (((5 * k + st) % 23).toNat : Int) := by omega
        rw [e, Int.toNat_natCast]
        exact atI_nat (chr_at (by omega))
      rw [if_pos (by rw [l5]; decide), ea]
      rfl
    have p1 := plus _ _ _ _ _ (by have := cut_len "zyzy" none (some (st / 69 % 4)); omega) (show (chr ((5 * k + st) % 23).toNat).length ≤ 1000 from (show 1 ≤ 1000 by decide)) c1 i1
    have p2 := plus _ _ _ _ _ (by rw [len_app]; have := cut_len "zyzy" none (some (st / 69 % 4)); have e : (chr ((5 * k + st) % 23).toNat).length = 1 := rfl; omega) (by have := cut_len "yzzy" none (some (st / 276 % 4)); omega) p1 c2
    rw [sSeq_rt (sRet_ok p2)]
    unfold nam
    rw [if_neg hb]
    rfl
def fMix : List D → M D
  | [.int c] => ok (.int (mix c))
  | _ => none
def fName : List D → M D
  | [.int st, .int k] => if 0 ≤ st ∧ st < 2000 ∧ 0 ≤ k ∧ k < 1000 then ok (.str (nam st k)) else none
  | _ => none
theorem fMix_len : ∀ ds r, fMix ds = some r → ds.length = 1 := by
  intro ds r h
  unfold fMix at h
  split at h
  · rfl
  · cases h
theorem fName_len : ∀ ds r, fName ds = some r → ds.length = 2 := by
  intro ds r h
  unfold fName at h
  split at h
  · rfl
  · cases h
theorem mix_den (N : List Str) (hN : N.length = 1) : ∀ ds r, fMix ds = some r → ∃ d, r = .ok d ∧ fnRes (denMix (rho0 N ds)) = ok d := by
  intro ds r h
  unfold fMix at h
  split at h
  · rename_i c
    cases h
    refine ⟨_, rfl, ?_⟩
    have e0 : rho0 N [.int c] = [some (.sh (.int c))] := by unfold rho0; rw [hN]; rfl
    rw [e0]
    exact mix_sp c
  · cases h
theorem name_den (N : List Str) (hN : N.length = 3) : ∀ ds r, fName ds = some r → ∃ d, r = .ok d ∧ fnRes (denName (rho0 N ds)) = ok d := by
  intro ds r h
  unfold fName at h
  split at h
  · rename_i st k
    split at h
    · rename_i q
      cases h
      refine ⟨_, rfl, ?_⟩
      have e0 : rho0 N [.int st, .int k] = [some (.sh (.int st)), some (.sh (.int k)), none] := by unfold rho0; rw [hN]; rfl
      rw [e0]
      exact name_sp q.1 q.2.1 q.2.2.1 q.2.2.2
    · cases h
  · cases h
theorem fName_ok {st k : Int} (h : 0 ≤ st ∧ st < 2000 ∧ 0 ≤ k ∧ k < 1000) : fName [.int st, .int k] = ok (.str (nam st k)) := if_pos h
theorem pl_tS : ∀ (xs : List Str), xs.length ≤ 1000 → (tS xs).pl = true := fun xs h => by
  have g : ∀ ys : List Str, plL (ys.map D.str) = true := by
    intro ys
    induction ys with
    | nil => rfl
    | cons y r ih => rw [List.map_cons, plL, ih]; rfl
  show (decide ((xs.map D.str).length ≤ 100000) && plL (xs.map D.str)) = true
  rw [g, List.length_map, decide_eq_true (by omega)]
  rfl
theorem dep_tS (xs : List Str) : (tS xs).dep ≤ 1 := by
  have g : ∀ ys : List Str, depL (ys.map D.str) = 0 := by
    intro ys
    induction ys with
    | nil => rfl
    | cons y r ih => rw [List.map_cons, depL, ih]; rfl
  show depL (xs.map D.str) + 1 ≤ 1
  rw [g]
  exact Nat.le_refl _
theorem same_tS {k : Nat} (hk : 1 < k) {xs : List Str} (h : xs.length ≤ 1000) : fSame k [tS xs, tS xs] = ok (.bl true) := fSame_self (pl_tS xs h) (Nat.lt_of_le_of_lt (dep_tS xs) hk)
theorem idx_of {h : List Str} {x : Str} (hx : h.contains x = true) : ∃ j, idxS x h = some j ∧ j < h.length := by
  induction h with
  | nil => simp at hx
  | cons z r ih =>
    unfold idxS
    by_cases e : z = x
    · rw [if_pos e]; exact ⟨0, rfl, Nat.succ_pos _⟩
    · rw [if_neg e]
      have hr : r.contains x = true := by
        rw [List.contains_cons] at hx
        have : (x == z) = false := by simpa using fun q : x = z => e q.symm
        rw [this, Bool.false_or] at hx
        exact hx
      obtain ⟨j, h1, h2⟩ := ih hr
      exact ⟨j + 1, by rw [h1]; rfl, Nat.succ_lt_succ h2⟩
theorem at_app {ns : List Int} {rest : Rho} (k : Nat) : app fAt (aCons (look 0) (aCons (con (.int (k : Int))) aNil)) (some (.sh (.lst (ns.map D.int))) :: rest) = ok (.int (atZ ns k)) := by
  rw [app_ok (aCons_ok (d := .lst (ns.map D.int)) rfl (aCons_ok (d := .int (k : Int)) rfl aNil_ok))]
  exact fAt_ints ns k
theorem mod_ok {f g : Rho → M D} {ρ : Rho} {i j : Int} (h1 : f ρ = ok (.int i)) (h2 : g ρ = ok (.int j)) (hj : 0 < j) : b2 gMod f g ρ = ok (.int (i % j)) := by
  refine b2_ok h1 h2 ?_
  show (if 0 < j then ok (D.int (i % j)) else none) = _
  rw [if_pos hj]
theorem fdiv_ok {f g : Rho → M D} {ρ : Rho} {i j : Int} (h1 : f ρ = ok (.int i)) (h2 : g ρ = ok (.int j)) (hj : 0 < j) (hj2 : j < 1073741824) : b2 gFdiv f g ρ = ok (.int (i / j)) := by
  refine b2_ok h1 h2 ?_
  simp [gFdiv, hj, hj2]
theorem add_ok {f g : Rho → M D} {ρ : Rho} {i j : Int} (h1 : f ρ = ok (.int i)) (h2 : g ρ = ok (.int j)) : b2 gPlus f g ρ = ok (.int (i + j)) := b2_ok h1 h2 rfl
theorem cat_ok {f g : Rho → M D} {ρ : Rho} {x y : List Str} (h1 : f ρ = ok (tS x)) (h2 : g ρ = ok (tS y)) (hx : x.length ≤ 1000) (hy : y.length ≤ 1000) : b2 gPlus f g ρ = ok (tS (x ++ y)) := by
  refine b2_ok h1 h2 ?_
  show (if (x.map D.str).length + (y.map D.str).length ≤ 100000 then ok (D.tup (x.map D.str ++ y.map D.str)) else none) = _
  rw [if_pos (by rw [List.length_map, List.length_map]; omega), ← List.map_append]
theorem eqi_ok {f g : Rho → M D} {ρ : Rho} {i j : Int} (h1 : f ρ = ok (.int i)) (h2 : g ρ = ok (.int j)) : b2 gEq f g ρ = ok (.bl (decide (i = j))) := b2_ok h1 h2 rfl
theorem cutTo_ok {f g : Rho → M D} {ρ : Rho} {x : List Str} {j : Nat} (h1 : f ρ = ok (tS x)) (h2 : g ρ = ok (.int j)) (hj : j ≤ x.length) : cut3 f oNone (oPart g) ρ = ok (tS (x.take j)) := by
  unfold cut3 oPart oNone
  rw [h1, h2]
  show ok (D.tup (cutD (x.map D.str) none (some (j : Int)))) = _
  rw [cut_to _ (by rw [List.length_map]; exact hj), ← List.map_take]
theorem cutFrom_ok {f g : Rho → M D} {ρ : Rho} {x : List Str} {j : Nat} (h1 : f ρ = ok (tS x)) (h2 : g ρ = ok (.int j)) (hj : j ≤ x.length) : cut3 f (oPart g) oNone ρ = ok (tS (x.drop j)) := by
  unfold cut3 oPart oNone
  rw [h1, h2]
  show ok (D.tup (cutD (x.map D.str) (some (j : Int)) none)) = _
  rw [cut_from _ (by rw [List.length_map]; exact hj), ← List.map_drop]
theorem ixL_ok {f g : Rho → M D} {ρ : Rho} {x : List Str} {i : Int} (h1 : f ρ = ok (.lst (x.map D.str)) ∨ f ρ = ok (tS x)) (h2 : g ρ = ok (.int i)) (h0 : 0 ≤ i) (hi : i < x.length) : ∃ y ∈ x, b2 gIx f g ρ = ok (.str y) := by
  have hn : i.toNat < x.length := by omega
  have ea := atI_nat (xs := x.map D.str) (j := i.toNat) (v := D.str x[i.toNat]) (by rw [List.getElem?_map, List.getElem?_eq_getElem hn]; rfl)
  have e : ((i.toNat : Nat) : Int) = i := by omega
  rw [e] at ea
  refine ⟨x[i.toNat], List.getElem_mem hn, ?_⟩
  rcases h1 with h1 | h1
  · refine b2_ok h1 h2 ?_
    show (match atI (x.map D.str) i with | some d => ok d | none => none) = _
    rw [ea]
  · refine b2_ok h1 h2 ?_
    show (match atI (x.map D.str) i with | some d => ok d | none => none) = _
    rw [ea]
theorem lenT_ok {f : Rho → M D} {ρ : Rho} {x : List Str} (h : f ρ = ok (tS x)) : f1 lenD f ρ = ok (.int x.length) := by
  unfold f1
  rw [h]
  show ok (D.int ((x.map D.str).length : Int)) = _
  rw [List.length_map]
theorem in_ok {neg : Bool} {f g : Rho → M D} {ρ : Rho} {x : Str} {h : List Str} (h1 : f ρ = ok (.str x)) (h2 : g ρ = ok (tS h)) : b2 (gIn neg) f g ρ = ok (.bl (if neg then !h.contains x else h.contains x)) := b2_ok h1 h2 (in_tS neg x h)
theorem cmp_ok {m k : Nat} {it : Rho → M (List D)} {ft : Rho → M Bool} {fe : Rho → M D} {ρ : Rho} {l : List Str} {p : Str → Bool} {g : Str → D} (hi : it ρ = ok (l.map D.str)) (hl : l.length ≤ 1000)
    (h1' : ∀ x ∈ l, ft ((ext m (free ρ)).set k (some (.sh (.str x)))) = ok (p x)) (h2' : ∀ x ∈ l, p x = true → fe ((ext m (free ρ)).set k (some (.sh (.str x)))) = ok (g x) ∧ (g x).imm = true) :
    cmp m it [k] h1 ft fe ρ = ok (.lst ((l.filter p).map g)) := by
  unfold cmp
  rw [hi, bnd_ok, if_pos (by rw [List.length_map]; omega), cmpL_strs l h1' h2', bnd_ok]
theorem sSet_imm {i : Nat} {f : Rho → M D} {ρ : Rho} {d : D} (h : f ρ = ok d) (hd : d.imm = true) : sSet i f ρ = some (.nx (ρ.set i (some (.sh d)))) := by rw [sSet_ok h, setV_imm hd]
theorem sSet_any {i : Nat} {f : Rho → M D} {ρ : Rho} {d : D} (h : f ρ = ok d) (hf : free ρ = ρ) : sSet i f ρ = some (.nx (ρ.set i (some (.sh d)))) := by
  rw [sSet_ok h]
  unfold setV
  split
  · rfl
  · rw [hf]
end L2.PU

set_option Elab.async false
set_option linter.all false
set_option maxRecDepth 100000
set_option maxHeartbeats 4000000
namespace L2.PU
open PySem PySem.Spec PyProof.Rows
/-! ### comprehensions over a range; drawn names -/
theorem cmpL_nats {k : Nat} {fe : Rho → M D} {ρ : Rho} {g : Nat → D} : ∀ (l : List Nat), (∀ j ∈ l, fe (ρ.set k (some (.sh (.int (j : Int))))) = ok (g j) ∧ (g j).imm = true) →
    cmpL [k] h1 (fun _ => ok true) fe (l.map fun (j : Nat) => D.int (0 + (j : Int))) ρ = ok (l.map g)
  | [], _ => rfl
  | x :: l, h => by
    have ih := cmpL_nats (g := g) l (fun y hy => h y (List.mem_cons_of_mem _ hy))
    obtain ⟨e1, e2⟩ := h x List.mem_cons_self
    rw [List.map_cons]
    unfold cmpL
    show (match fe (ρ.set k (some (.sh (.int (0 + (x : Int)))))) with
        | some (.ok r) => if r.imm = true then bnd (cmpL [k] h1 (fun _ => ok true) fe (l.map fun (j : Nat) => D.int (0 + (j : Int))) ρ) fun rs => ok (r :: rs) else none
        | _ => none) = _
    rw [Int.zero_add, e1, ih]
    show (if (g x).imm = true then bnd (ok (l.map g)) fun rs => ok (g x :: rs) else none) = _
    rw [if_pos e2]
    rfl
theorem cmp_rng {m k n : Nat} {f : Rho → M D} {fe : Rho → M D} {ρ : Rho} {g : Nat → D} (hf : f ρ = ok (.int (n : Int))) (hn : n ≤ 1000000) (h : ∀ j, j < n → fe ((ext m (free ρ)).set k (some (.sh (.int (j : Int))))) = ok (g j) ∧ (g j).imm = true) :
    cmp m (itR f) [k] h1 (fun _ => ok true) fe ρ = ok (.lst ((List.range n).map g)) := by
  have e : itR f ρ = ok (rng 0 n) := by
    unfold itR
    rw [hf]
    rw [bnd_ok]
    simp only [rngD]
    rw [if_pos ⟨by omega, by omega⟩, Int.toNat_natCast]
  unfold cmp
  rw [e, bnd_ok, if_pos (by unfold rng; rw [List.length_map, List.length_range]; exact hn)]
  unfold rng
  rw [cmpL_nats (List.range n) (fun j hj => h j (List.mem_range.mp hj))]
  rfl
def nms (n : Nat) (st : Int) : List Str := (List.range n).map fun (j : Nat) => nam st (j : Int)
theorem nms_len (n : Nat) (st : Int) : (nms n st).length = n := by unfold nms; rw [List.length_map, List.length_range]
theorem nms_nd (n : Nat) (hn : n ≤ 23) (st : Int) : (nms n st).Nodup := by
  unfold nms
  unfold List.Nodup
  rw [List.pairwise_map]
  refine List.Pairwise.imp_of_mem (R := (· < ·)) ?_ List.pairwise_lt_range
  intro a b ha hb hab e
  rw [List.mem_range] at ha hb
  have := nam_inj (st := st) (k := a) (k' := b) (by omega) (by omega) (by omega) (by omega) e
  omega
theorem nms_sh (n : Nat) (st : Int) : ∀ x ∈ nms n st, Sh x := fun x hx => by
  obtain ⟨j, _, rfl⟩ := List.mem_map.mp hx
  exact (nam_sh st j).1
/-- a comprehension of drawn names -/
theorem names_ok {m k n : Nat} {f fs : Rho → M D} {ρ : Rho} {st : Int} (hf : f ρ = ok (.int (n : Int))) (hn : n ≤ 1000) (hst : 0 ≤ st ∧ st < 2000) (hs : ∀ v, fs ((ext m (free ρ)).set k v) = ok (.int st)) (hk : k < (ext m (free ρ)).length) :
    cmp m (itR f) [k] h1 (fun _ => ok true) (app fName (aCons fs (aCons (look k) aNil))) ρ = ok (.lst ((nms n st).map D.str)) := by
  rw [cmp_rng (g := fun j => .str (nam st (j : Int))) hf (by omega) (fun j hj => ⟨?_, rfl⟩)]
  · unfold nms
    rw [List.map_map]
    rfl
  · have lk : look k ((ext m (free ρ)).set k (some (.sh (.int (j : Int))))) = ok (.int (j : Int)) := by
      unfold look
      rw [List.getElem?_set_self hk]
      rfl
    rw [app_ok (aCons_ok (hs _) (aCons_ok lk aNil_ok))]
    exact fName_ok ⟨hst.1, hst.2, by omega, by omega⟩
theorem test_bl {f : Rho → M D} {ρ : Rho} {b : Bool} (h : f ρ = ok (.bl b)) : test f ρ = ok b := by unfold test; rw [h]; rfl
theorem blL_map {α : Type} (f : α → Bool) : ∀ (l : List α), blL (l.map fun c => D.bl (f c)) = some (l.map f)
  | [] => rfl
  | x :: l => by rw [List.map_cons, blL, blL_map f l]; rfl
end L2.PU

set_option Elab.async false
set_option linter.all false
set_option maxRecDepth 100000
set_option maxHeartbeats 4000000
namespace K15
open PySem PySem.Spec PyProof.Rows L2 L2.PU
abbrev St := L2.St
def top (i : Nat) : Stmt := PySem.Challenge.pw_whence_k15_tests.main.body.getD i (.Pass ⟨0, 0, 0, 0⟩)
abbrev s_columns_of : Stmt := top 4
abbrev s_columns_told : Stmt := top 5
abbrev s_check_columns : Stmt := top 6
abbrev s_passes : Stmt := top 7
abbrev s_holds : Stmt := top 8
abbrev s_test_called : Stmt := top 9
abbrev s_column_called : Stmt := top 10
abbrev s_law_at : Stmt := top 12
abbrev s_law_same : Stmt := top 13
abbrev s_law_mix : Stmt := top 14
abbrev s_law_name : Stmt := top 15
abbrev s_law_value : Stmt := top 16
abbrev s_law_put : Stmt := top 17
abbrev s_law_base : Stmt := top 18
abbrev s_law_refused : Stmt := top 19
abbrev s_law_grown : Stmt := top 20
abbrev s_law : Stmt := top 21
/-- the addresses of the text's own things -/
structure Adr where
  X_WhenceError : Addr
  X_NoColumn : Addr
  f_columns_of : Addr
  f_columns_told : Addr
  f_check_columns : Addr
  f_passes : Addr
  f_holds : Addr
  f_test_called : Addr
  f_column_called : Addr
  f_law_at : Addr
  f_law_same : Addr
  f_law_mix : Addr
  f_law_name : Addr
  f_law_value : Addr
  f_law_put : Addr
  f_law_base : Addr
  f_law_refused : Addr
  f_law_grown : Addr
  f_law : Addr
def cs (t : Adr) (C : Addr) : Bool := false
structure Txt (K : PySem.W.Frag) (mg : Str → Option Value) (t : Adr) : Prop where
  g_WhenceError : mg "WhenceError" = some (.ref t.X_WhenceError)
  xi_WhenceError : PySem.W.excIn K t.X_WhenceError [.type "ValueError", .type "Exception", .type "BaseException", .type "object"] "ValueError.__new__" = true
  g_NoColumn : mg "NoColumn" = some (.ref t.X_NoColumn)
  xi_NoColumn : PySem.W.excIn K t.X_NoColumn [.type "ValueError", .type "Exception", .type "BaseException", .type "object"] "ValueError.__new__" = true
  xk_NoColumn_ValueError : PySem.W.kitOne K (.ref t.X_NoColumn) (.type "ValueError") = some true
  xk_NoColumn_WhenceError : PySem.W.kitOne K (.ref t.X_NoColumn) (.ref t.X_WhenceError) = some true
  xm_NoColumn_NoColumn : PySem.W.exmOne K (.ref t.X_NoColumn) (.ref t.X_NoColumn) = some true
  xm_WhenceError_NoColumn : PySem.W.exmOne K (.ref t.X_WhenceError) (.ref t.X_NoColumn) = some false
  xm_WhenceError_WhenceError : PySem.W.exmOne K (.ref t.X_WhenceError) (.ref t.X_WhenceError) = some true
  nx_NoColumn_WhenceError : t.X_NoColumn ≠ t.X_WhenceError
  F_columns_of : ∃ fd, Fun K "columns_of" "columns_of" s_columns_of t.f_columns_of fd ∧ Binds K fd ["test"] []
  g_columns_of : mg "columns_of" = some (.ref t.f_columns_of)
  F_columns_told : ∃ fd, Fun K "columns_told" "columns_told" s_columns_told t.f_columns_told fd ∧ Binds K fd ["test"] []
  g_columns_told : mg "columns_told" = some (.ref t.f_columns_told)
  F_check_columns : ∃ fd, Fun K "check_columns" "check_columns" s_check_columns t.f_check_columns fd ∧ Binds K fd ["test", "head"] []
  g_check_columns : mg "check_columns" = some (.ref t.f_check_columns)
  F_passes : ∃ fd, Fun K "passes" "passes" s_passes t.f_passes fd ∧ Binds K fd ["test", "head", "row"] []
  g_passes : mg "passes" = some (.ref t.f_passes)
  F_holds : ∃ fd, Fun K "holds" "holds" s_holds t.f_holds fd ∧ Binds K fd ["test", "head", "row"] []
  g_holds : mg "holds" = some (.ref t.f_holds)
  F_test_called : ∃ fd, Fun K "test_called" "test_called" s_test_called t.f_test_called fd ∧ Binds K fd ["test", "old", "new"] []
  g_test_called : mg "test_called" = some (.ref t.f_test_called)
  F_column_called : ∃ fd, Fun K "column_called" "column_called" s_column_called t.f_column_called fd ∧ Binds K fd ["column", "old", "new"] []
  g_column_called : mg "column_called" = some (.ref t.f_column_called)
  F_law_at : ∃ fd, Fun K "_law_at" "_law_at" s_law_at t.f_law_at fd ∧ Binds K fd ["_law_script", "_law_k"] []
  g_law_at : mg "_law_at" = some (.ref t.f_law_at)
  F_law_same : ∃ fd, Fun K "_law_same" "_law_same" s_law_same t.f_law_same fd ∧ Binds K fd ["_law_found", "_law_due"] []
  g_law_same : mg "_law_same" = some (.ref t.f_law_same)
  F_law_mix : ∃ fd, Fun K "_law_mix" "_law_mix" s_law_mix t.f_law_mix fd ∧ Binds K fd ["_law_cell"] []
  g_law_mix : mg "_law_mix" = some (.ref t.f_law_mix)
  F_law_name : ∃ fd, Fun K "_law_name" "_law_name" s_law_name t.f_law_name fd ∧ Binds K fd ["_law_style", "_law_k"] []
  g_law_name : mg "_law_name" = some (.ref t.f_law_name)
  F_law_value : ∃ fd, Fun K "_law_value" "_law_value" s_law_value t.f_law_value fd ∧ Binds K fd ["_law_by"] []
  g_law_value : mg "_law_value" = some (.ref t.f_law_value)
  F_law_put : ∃ fd, Fun K "_law_put" "_law_put" s_law_put t.f_law_put fd ∧ Binds K fd ["_law_column", "_law_old", "_law_new"] []
  g_law_put : mg "_law_put" = some (.ref t.f_law_put)
  F_law_base : ∃ fd, Fun K "_law_base" "_law_base" s_law_base t.f_law_base fd ∧ Binds K fd ["_law_names", "_law_head", "_law_row", "_law_by", "_law_old", "_law_new"] []
  g_law_base : mg "_law_base" = some (.ref t.f_law_base)
  F_law_refused : ∃ fd, Fun K "_law_refused" "_law_refused" s_law_refused t.f_law_refused fd ∧ Binds K fd ["_law_test", "_law_head", "_law_row"] []
  g_law_refused : mg "_law_refused" = some (.ref t.f_law_refused)
  F_law_grown : ∃ fd, Fun K "_law_grown" "_law_grown" s_law_grown t.f_law_grown fd ∧ Binds K fd ["_law_built", "_law_base_here", "_law_word"] []
  g_law_grown : mg "_law_grown" = some (.ref t.f_law_grown)
  F_law : ∃ fd, Fun K "law" "law" s_law t.f_law fd ∧ Binds K fd ["_law_script"] []
  g_law : mg "law" = some (.ref t.f_law)
  b_ValueError : mg "ValueError" = none
  b_any : mg "any" = none
  b_bool : mg "bool" = none
  b_int : mg "int" = none
  b_isinstance : mg "isinstance" = none
  b_len : mg "len" = none
  b_list : mg "list" = none
  b_range : mg "range" = none
  b_reversed : mg "reversed" = none
  b_set : mg "set" = none
  b_sorted : mg "sorted" = none
  b_str : mg "str" = none
  b_tuple : mg "tuple" = none
section
variable {P : Program} {w : World} {K : PySem.W.Frag} {mg : Str → Option Value} {base : Heap} {t : Adr}
def km_ValueError (t : Adr) (C : Addr) : Bool := decide (C = t.X_NoColumn)
theorem kmo_ValueError (T : Txt K mg t) : ∀ C, km_ValueError t C = true → PySem.W.kitOne K (.ref C) (.type "ValueError") = some true := fun C hC => by
  unfold km_ValueError at hC
  simp only [Bool.or_eq_true, decide_eq_true_eq] at hC
  rcases hC with rfl
  · exact T.xk_NoColumn_ValueError
def km_WhenceError (t : Adr) (C : Addr) : Bool := decide (C = t.X_NoColumn)
theorem kmo_WhenceError (T : Txt K mg t) : ∀ C, km_WhenceError t C = true → PySem.W.kitOne K (.ref C) (.ref t.X_WhenceError) = some true := fun C hC => by
  unfold km_WhenceError at hC
  simp only [Bool.or_eq_true, decide_eq_true_eq] at hC
  rcases hC with rfl
  · exact T.xk_NoColumn_WhenceError
def hm_NoColumn (t : Adr) (C : Addr) : Option Bool := if C = t.X_NoColumn then some true else none
theorem hmo_NoColumn (T : Txt K mg t) : ∀ C b, hm_NoColumn t C = some b → PySem.W.exmOne K (.ref C) (.ref t.X_NoColumn) = some b := fun C b hC => by
  unfold hm_NoColumn at hC
  split at hC
  · rename_i z; subst z; cases hC; exact T.xm_NoColumn_NoColumn
  cases hC
def N_columns_of : List Str := ["test"]
theorem sc_columns_of : FnScope N_columns_of ["test"] (defScope s_columns_of) := ⟨rfl, rfl, rfl, by decide +kernel, rfl, by decide +kernel, by decide +kernel⟩
def den_columns_of (t : Adr) (F_columns_told : List D → M D) : Rho → Option Out :=
    (sSeq (sRet (f1 srtD (f1 toS (app F_columns_told (aCons (look 0) aNil)))))
    sNil)
theorem tm_columns_of (T : Txt K mg t) {k : Nat} {F_columns_told : List D → M D} (G_columns_told : Def P w K mg base k "columns_told" F_columns_told) {cdv : Value} {A : Around} {outer : List Env} {s : Shared} {H : Hp} {E : XK} (hr : Room k (A.deeper (envOfC "columns_of" (defScope s_columns_of) s.heap.objs.size t.f_columns_of cdv))) (B : Hp) :
    PDB (cxN P w K mg base N_columns_of "columns_of" (defScope s_columns_of) t.f_columns_of cdv A outer s H E) B (defBody s_columns_of) (den_columns_of t F_columns_told) :=
  by
  refine pdb_cons ?_ ?_; (refine pds_ret ?_; (refine pd_sorted rfl rfl T.b_sorted ?_; (refine pd_set rfl rfl T.b_set ?_; (refine pd_call G_columns_told hr rfl ?_; (refine pda_cons ?_ ?_; (exact pd_var 0); (exact pda_nil)))))); (exact pdb_nil)
theorem ok_columns_of (T : Txt K mg t) {k : Nat} {F_columns_told : List D → M D} (G_columns_told : Def P w K mg base k "columns_told" F_columns_told) {F : List D → M D} (hL : ∀ ds r, F ds = some r → ds.length = 1) (hq : ∀ ds r, F ds = some r → ∃ d, r = .ok d ∧ fnRes (den_columns_of t F_columns_told (rho0 N_columns_of ds)) = ok d) : Def P w K mg base (k + 1) "columns_of" F := by
  obtain ⟨fd, Fu, bi⟩ := T.F_columns_of
  exact ⟨_, _, _, T.g_columns_of, Fu.kp, bi, hL, fn_D Fu sc_columns_of hL fun cdv A outer s H E hr => ⟨_, fun B => tm_columns_of T G_columns_told hr B, hq⟩⟩
def N_columns_told : List Str := ["test", "columns", "part"]
theorem sc_columns_told : FnScope N_columns_told ["test"] (defScope s_columns_told) := ⟨rfl, rfl, rfl, by decide +kernel, rfl, by decide +kernel, by decide +kernel⟩
def den_columns_told (t : Adr) (F_columns_told : List D → M D) : Rho → Option Out :=
    (sSeq (sIf (testB (b2 gEq (b2 gIx (look 0) (con (.int 0))) (con (.str "is")))) (sSeq (sRet (mkL (aCons (b2 gIx (look 0) (con (.int 1))) aNil)))
    sNil) sNil)
    (sSeq (sIf (testB (b2 gEq (b2 gIx (look 0) (con (.int 0))) (con (.str "same")))) (sSeq (sRet (mkL (aCons (b2 gIx (look 0) (con (.int 1))) (aCons (b2 gIx (look 0) (con (.int 2))) aNil))))
    sNil) sNil)
    (sSeq (sNew 1 aNil)
    (sSeq (sForE (cut3 (look 0) (oPart (con (.int 1))) oNone) (gN 2) (sSeq (sExt 1 (aCons (app F_columns_told (aCons (look 2) aNil)) aNil))
    sNil))
    (sSeq (sRet (look 1))
    sNil)))))
theorem tm_columns_told (T : Txt K mg t) {k : Nat} {F_columns_told : List D → M D} (G_columns_told : Def P w K mg base k "columns_told" F_columns_told) {cdv : Value} {A : Around} {outer : List Env} {s : Shared} {H : Hp} {E : XK} (hr : Room k (A.deeper (envOfC "columns_told" (defScope s_columns_told) s.heap.objs.size t.f_columns_told cdv))) (B : Hp) :
    PDB (cxN P w K mg base N_columns_told "columns_told" (defScope s_columns_told) t.f_columns_told cdv A outer s H E) B (defBody s_columns_told) (den_columns_told t F_columns_told) :=
  by
  refine pdb_cons ?_ ?_; (refine pds_if ?_ ?_ ?_; (refine pdt_eq ?_ ?_; (refine pd_ix ?_ ?_ (fun _ _ => rfl); (exact pd_var 0); (exact pd_int)); (exact pd_str)); (refine pdb_cons ?_ ?_; (refine pds_ret ?_; (refine pd_lst ?_; (refine pda_cons ?_ ?_; (refine pd_ix ?_ ?_ (fun _ _ => rfl); (exact pd_var 0); (exact pd_int)); (exact pda_nil)))); (exact pdb_nil)); (exact pdb_nil)); (refine pdb_cons ?_ ?_; (refine pds_if ?_ ?_ ?_; (refine pdt_eq ?_ ?_; (refine pd_ix ?_ ?_ (fun _ _ => rfl); (exact pd_var 0); (exact pd_int)); (exact pd_str)); (refine pdb_cons ?_ ?_; (refine pds_ret ?_; (refine pd_lst ?_; (refine pda_cons ?_ ?_; (refine pd_ix ?_ ?_ (fun _ _ => rfl); (exact pd_var 0); (exact pd_int)); (refine pda_cons ?_ ?_; (refine pd_ix ?_ ?_ (fun _ _ => rfl); (exact pd_var 0); (exact pd_int)); (exact pda_nil))))); (exact pdb_nil)); (exact pdb_nil)); (refine pdb_cons ?_ ?_; (refine pds_new (i := 1) (sc_columns_told).nd rfl (Or.inl rfl) ?_; (exact pda_nil)); (refine pdb_cons ?_ ?_; (refine pds_forE PassesOwn.never rfl ?_ (fun B => ?_) (fun B => ?_); (refine pd_slice ?_ ?_ ?_; (exact pd_var 0); (refine pdo_some ?_; (exact pd_int)); (exact pdo_none)); (exact pdg_name (i := 2) (sc_columns_told).nd rfl (Or.inl rfl)); (refine pdb_cons ?_ ?_; (refine pds_extend (i := 1) rfl (Or.inl rfl) ?_; (refine pd_call G_columns_told hr rfl ?_; (refine pda_cons ?_ ?_; (exact pd_var 2); (exact pda_nil)))); (exact pdb_nil))); (refine pdb_cons ?_ ?_; (refine pds_ret ?_; (exact pd_var 1)); (exact pdb_nil)))))
theorem ok_columns_told (T : Txt K mg t) {k : Nat} {F_columns_told : List D → M D} (G_columns_told : Def P w K mg base k "columns_told" F_columns_told) {F : List D → M D} (hL : ∀ ds r, F ds = some r → ds.length = 1) (hq : ∀ ds r, F ds = some r → ∃ d, r = .ok d ∧ fnRes (den_columns_told t F_columns_told (rho0 N_columns_told ds)) = ok d) : Def P w K mg base (k + 1) "columns_told" F := by
  obtain ⟨fd, Fu, bi⟩ := T.F_columns_told
  exact ⟨_, _, _, T.g_columns_told, Fu.kp, bi, hL, fn_D Fu sc_columns_told hL fun cdv A outer s H E hr => ⟨_, fun B => tm_columns_told T G_columns_told hr B, hq⟩⟩
def N_check_columns : List Str := ["test", "head", "column"]
theorem sc_check_columns : FnScope N_check_columns ["test", "head"] (defScope s_check_columns) := ⟨rfl, rfl, rfl, by decide +kernel, rfl, by decide +kernel, by decide +kernel⟩
def den_check_columns (t : Adr) (F_columns_of : List D → M D) : Rho → Option Out :=
    (sSeq (sForE (app F_columns_of (aCons (look 0) aNil)) (gN 2) (sSeq (sIf (testB (b2 (gIn true) (look 2) (look 1))) (sSeq (sRaise t.X_NoColumn (aCons (jnd (jCon "the test has a column " (jRep (look 2) (jCon ", the head has not" jNil)))) aNil))
    sNil) sNil)
    sNil))
    sNil)
theorem tm_check_columns (T : Txt K mg t) {k : Nat} {F_columns_of : List D → M D} (G_columns_of : Def P w K mg base k "columns_of" F_columns_of) {cdv : Value} {A : Around} {outer : List Env} {s : Shared} {H : Hp} {E : XK} (hr : Room k (A.deeper (envOfC "check_columns" (defScope s_check_columns) s.heap.objs.size t.f_check_columns cdv))) (B : Hp) :
    PDB (cxX P w K mg base N_check_columns "check_columns" (defScope s_check_columns) t.f_check_columns cdv A outer s H E) B (defBody s_check_columns) (den_check_columns t F_columns_of) :=
  by
  refine pdb_cons ?_ ?_; (refine pds_forE PassesOwn.leaving rfl ?_ (fun B => ?_) (fun B => ?_); (refine pd_call G_columns_of hr rfl ?_; (refine pda_cons ?_ ?_; (exact pd_var 0); (exact pda_nil))); (exact pdg_name (i := 2) (sc_check_columns).nd rfl (Or.inl rfl)); (refine pdb_cons ?_ ?_; (refine pds_if ?_ ?_ ?_; (refine pdt_notin ?_ ?_; (exact pd_var 2); (exact pd_var 1)); (refine pdb_cons ?_ ?_; (refine pds_raise PySem.F.excBase_ValueError T.xi_NoColumn T.g_NoColumn rfl rfl ?_; (refine pda_cons ?_ ?_; (refine pd_joined ?_; (refine pj_con ?_; (refine pj_rep ?_ ?_; (exact pd_var 2); (refine pj_con ?_; (exact pj_nil))))); (exact pda_nil))); (exact pdb_nil)); (exact pdb_nil)); (exact pdb_nil))); (exact pdb_nil)
theorem ok_check_columns (T : Txt K mg t) {k : Nat} {F_columns_of : List D → M D} (G_columns_of : Def P w K mg base k "columns_of" F_columns_of) {F : List D → M D} (hL : ∀ ds r, F ds = some r → ds.length = 2) (hq : ∀ ds r, F ds = some r → fnRes (den_check_columns t F_columns_of (rho0 N_check_columns ds)) = some r) : Def P w K mg base (k + 1) "check_columns" F := by
  obtain ⟨fd, Fu, bi⟩ := T.F_check_columns
  exact ⟨_, _, _, T.g_check_columns, Fu.kp, bi, hL, fn_X Fu sc_check_columns hL fun cdv A outer s H E hr => ⟨_, fun B => tm_check_columns T G_columns_of hr B, hq⟩⟩
def N_passes : List Str := ["test", "head", "row"]
theorem sc_passes : FnScope N_passes ["test", "head", "row"] (defScope s_passes) := ⟨rfl, rfl, rfl, by decide +kernel, rfl, by decide +kernel, by decide +kernel⟩
def den_passes (t : Adr) (F_check_columns : List D → M D) (F_holds : List D → M D) : Rho → Option Out :=
    (sSeq (sDrop (app F_check_columns (aCons (look 0) (aCons (look 1) aNil))))
    (sSeq (sRet (app F_holds (aCons (look 0) (aCons (look 1) (aCons (look 2) aNil)))))
    sNil))
theorem tm_passes (T : Txt K mg t) {k : Nat} {F_check_columns : List D → M D} (G_check_columns : Def P w K mg base k "check_columns" F_check_columns) {F_holds : List D → M D} (G_holds : Def P w K mg base k "holds" F_holds) {cdv : Value} {A : Around} {outer : List Env} {s : Shared} {H : Hp} {E : XK} (hr : Room k (A.deeper (envOfC "passes" (defScope s_passes) s.heap.objs.size t.f_passes cdv))) (B : Hp) :
    PDB (cxX P w K mg base N_passes "passes" (defScope s_passes) t.f_passes cdv A outer s H E) B (defBody s_passes) (den_passes t F_check_columns F_holds) :=
  by
  refine pdb_cons ?_ ?_; (refine pds_expr ?_; (refine pd_call G_check_columns hr rfl ?_; (refine pda_cons ?_ ?_; (exact pd_var 0); (refine pda_cons ?_ ?_; (exact pd_var 1); (exact pda_nil))))); (refine pdb_cons ?_ ?_; (refine pds_ret ?_; (refine pd_call G_holds hr rfl ?_; (refine pda_cons ?_ ?_; (exact pd_var 0); (refine pda_cons ?_ ?_; (exact pd_var 1); (refine pda_cons ?_ ?_; (exact pd_var 2); (exact pda_nil)))))); (exact pdb_nil))
theorem ok_passes (T : Txt K mg t) {k : Nat} {F_check_columns : List D → M D} (G_check_columns : Def P w K mg base k "check_columns" F_check_columns) {F_holds : List D → M D} (G_holds : Def P w K mg base k "holds" F_holds) {F : List D → M D} (hL : ∀ ds r, F ds = some r → ds.length = 3) (hq : ∀ ds r, F ds = some r → fnRes (den_passes t F_check_columns F_holds (rho0 N_passes ds)) = some r) : Def P w K mg base (k + 1) "passes" F := by
  obtain ⟨fd, Fu, bi⟩ := T.F_passes
  exact ⟨_, _, _, T.g_passes, Fu.kp, bi, hL, fn_X Fu sc_passes hL fun cdv A outer s H E hr => ⟨_, fun B => tm_passes T G_check_columns G_holds hr B, hq⟩⟩
def N_holds : List Str := ["test", "head", "row", "word"]
theorem sc_holds : FnScope N_holds ["test", "head", "row"] (defScope s_holds) := ⟨rfl, rfl, rfl, by decide +kernel, rfl, by decide +kernel, by decide +kernel⟩
def den_holds (t : Adr) (F_holds : List D → M D) : Rho → Option Out :=
    (sSeq (sSet 3 (b2 gIx (look 0) (con (.int 0))))
    (sSeq (sIf (testB (b2 gEq (look 3) (con (.str "is")))) (sSeq (sRet (b2 gEq (b2 gIx (look 2) (tix (look 1) (b2 gIx (look 0) (con (.int 1))))) (b2 gIx (look 0) (con (.int 2)))))
    sNil) sNil)
    (sSeq (sIf (testB (b2 gEq (look 3) (con (.str "same")))) (sSeq (sRet (b2 gEq (b2 gIx (look 2) (tix (look 1) (b2 gIx (look 0) (con (.int 1))))) (b2 gIx (look 2) (tix (look 1) (b2 gIx (look 0) (con (.int 2)))))))
    sNil) sNil)
    (sSeq (sIf (testB (b2 gEq (look 3) (con (.str "not")))) (sSeq (sRet (notV (app F_holds (aCons (b2 gIx (look 0) (con (.int 1))) (aCons (look 1) (aCons (look 2) aNil))))))
    sNil) sNil)
    (sSeq (sIf (testB (b2 gEq (look 3) (con (.str "and")))) (sSeq (sRet (andV (app F_holds (aCons (b2 gIx (look 0) (con (.int 1))) (aCons (look 1) (aCons (look 2) aNil)))) (app F_holds (aCons (b2 gIx (look 0) (con (.int 2))) (aCons (look 1) (aCons (look 2) aNil))))))
    sNil) sNil)
    (sSeq (sRet (orV (app F_holds (aCons (b2 gIx (look 0) (con (.int 1))) (aCons (look 1) (aCons (look 2) aNil)))) (app F_holds (aCons (b2 gIx (look 0) (con (.int 2))) (aCons (look 1) (aCons (look 2) aNil))))))
    sNil))))))
theorem tm_holds (T : Txt K mg t) {k : Nat} {F_holds : List D → M D} (G_holds : Def P w K mg base k "holds" F_holds) {cdv : Value} {A : Around} {outer : List Env} {s : Shared} {H : Hp} {E : XK} (hr : Room k (A.deeper (envOfC "holds" (defScope s_holds) s.heap.objs.size t.f_holds cdv))) (B : Hp) :
    PDB (cxN P w K mg base N_holds "holds" (defScope s_holds) t.f_holds cdv A outer s H E) B (defBody s_holds) (den_holds t F_holds) :=
  by
  refine pdb_cons ?_ ?_; (refine pds_set (i := 3) (sc_holds).nd rfl (Or.inl rfl) ?_; (refine pd_ix ?_ ?_ (fun _ _ => rfl); (exact pd_var 0); (exact pd_int))); (refine pdb_cons ?_ ?_; (refine pds_if ?_ ?_ ?_; (refine pdt_eq ?_ ?_; (exact pd_var 3); (exact pd_str)); (refine pdb_cons ?_ ?_; (refine pds_ret ?_; (refine pd_eq ?_ ?_; (refine pd_ix ?_ ?_ (fun _ _ => rfl); (exact pd_var 2); (refine pd_tindex ?_ ?_; (exact pd_var 1); (refine pd_ix ?_ ?_ (fun _ _ => rfl); (exact pd_var 0); (exact pd_int)))); (refine pd_ix ?_ ?_ (fun _ _ => rfl); (exact pd_var 0); (exact pd_int)))); (exact pdb_nil)); (exact pdb_nil)); (refine pdb_cons ?_ ?_; (refine pds_if ?_ ?_ ?_; (refine pdt_eq ?_ ?_; (exact pd_var 3); (exact pd_str)); (refine pdb_cons ?_ ?_; (refine pds_ret ?_; (refine pd_eq ?_ ?_; (refine pd_ix ?_ ?_ (fun _ _ => rfl); (exact pd_var 2); (refine pd_tindex ?_ ?_; (exact pd_var 1); (refine pd_ix ?_ ?_ (fun _ _ => rfl); (exact pd_var 0); (exact pd_int)))); (refine pd_ix ?_ ?_ (fun _ _ => rfl); (exact pd_var 2); (refine pd_tindex ?_ ?_; (exact pd_var 1); (refine pd_ix ?_ ?_ (fun _ _ => rfl); (exact pd_var 0); (exact pd_int)))))); (exact pdb_nil)); (exact pdb_nil)); (refine pdb_cons ?_ ?_; (refine pds_if ?_ ?_ ?_; (refine pdt_eq ?_ ?_; (exact pd_var 3); (exact pd_str)); (refine pdb_cons ?_ ?_; (refine pds_ret ?_; (refine pd_not ?_; (refine pd_call G_holds hr rfl ?_; (refine pda_cons ?_ ?_; (refine pd_ix ?_ ?_ (fun _ _ => rfl); (exact pd_var 0); (exact pd_int)); (refine pda_cons ?_ ?_; (exact pd_var 1); (refine pda_cons ?_ ?_; (exact pd_var 2); (exact pda_nil))))))); (exact pdb_nil)); (exact pdb_nil)); (refine pdb_cons ?_ ?_; (refine pds_if ?_ ?_ ?_; (refine pdt_eq ?_ ?_; (exact pd_var 3); (exact pd_str)); (refine pdb_cons ?_ ?_; (refine pds_ret ?_; (refine pd_and ?_ ?_; (refine pd_call G_holds hr rfl ?_; (refine pda_cons ?_ ?_; (refine pd_ix ?_ ?_ (fun _ _ => rfl); (exact pd_var 0); (exact pd_int)); (refine pda_cons ?_ ?_; (exact pd_var 1); (refine pda_cons ?_ ?_; (exact pd_var 2); (exact pda_nil))))); (refine pd_one ?_; (refine pd_call G_holds hr rfl ?_; (refine pda_cons ?_ ?_; (refine pd_ix ?_ ?_ (fun _ _ => rfl); (exact pd_var 0); (exact pd_int)); (refine pda_cons ?_ ?_; (exact pd_var 1); (refine pda_cons ?_ ?_; (exact pd_var 2); (exact pda_nil)))))))); (exact pdb_nil)); (exact pdb_nil)); (refine pdb_cons ?_ ?_; (refine pds_ret ?_; (refine pd_or ?_ ?_; (refine pd_call G_holds hr rfl ?_; (refine pda_cons ?_ ?_; (refine pd_ix ?_ ?_ (fun _ _ => rfl); (exact pd_var 0); (exact pd_int)); (refine pda_cons ?_ ?_; (exact pd_var 1); (refine pda_cons ?_ ?_; (exact pd_var 2); (exact pda_nil))))); (refine pd_one ?_; (refine pd_call G_holds hr rfl ?_; (refine pda_cons ?_ ?_; (refine pd_ix ?_ ?_ (fun _ _ => rfl); (exact pd_var 0); (exact pd_int)); (refine pda_cons ?_ ?_; (exact pd_var 1); (refine pda_cons ?_ ?_; (exact pd_var 2); (exact pda_nil)))))))); (exact pdb_nil))))))
theorem ok_holds (T : Txt K mg t) {k : Nat} {F_holds : List D → M D} (G_holds : Def P w K mg base k "holds" F_holds) {F : List D → M D} (hL : ∀ ds r, F ds = some r → ds.length = 3) (hq : ∀ ds r, F ds = some r → ∃ d, r = .ok d ∧ fnRes (den_holds t F_holds (rho0 N_holds ds)) = ok d) : Def P w K mg base (k + 1) "holds" F := by
  obtain ⟨fd, Fu, bi⟩ := T.F_holds
  exact ⟨_, _, _, T.g_holds, Fu.kp, bi, hL, fn_D Fu sc_holds hL fun cdv A outer s H E hr => ⟨_, fun B => tm_holds T G_holds hr B, hq⟩⟩
def N_test_called : List Str := ["test", "old", "new", "word"]
def Nc_test_called_0 : List Str := ["?0", "old", "new", "?3", "part"]
theorem nd_test_called_0 : Nc_test_called_0.Nodup := by decide +kernel
theorem sc_test_called : FnScope N_test_called ["test", "old", "new"] (defScope s_test_called) := ⟨rfl, rfl, rfl, by decide +kernel, rfl, by decide +kernel, by decide +kernel⟩
def den_test_called (t : Adr) (F_column_called : List D → M D) (F_test_called : List D → M D) : Rho → Option Out :=
    (sSeq (sSet 3 (b2 gIx (look 0) (con (.int 0))))
    (sSeq (sIf (testB (b2 gEq (look 3) (con (.str "is")))) (sSeq (sRet (mkT (aCons (look 3) (aCons (app F_column_called (aCons (b2 gIx (look 0) (con (.int 1))) (aCons (look 1) (aCons (look 2) aNil)))) (aCons (b2 gIx (look 0) (con (.int 2))) aNil)))))
    sNil) sNil)
    (sSeq (sIf (testB (b2 gEq (look 3) (con (.str "same")))) (sSeq (sRet (mkT (aCons (look 3) (aCons (app F_column_called (aCons (b2 gIx (look 0) (con (.int 1))) (aCons (look 1) (aCons (look 2) aNil)))) (aCons (app F_column_called (aCons (b2 gIx (look 0) (con (.int 2))) (aCons (look 1) (aCons (look 2) aNil)))) aNil)))))
    sNil) sNil)
    (sSeq (sRet (f1 toT (b2 gPlus (mkL (aCons (look 3) aNil)) (cmp 1 (itE (cut3 (look 0) (oPart (con (.int 1))) oNone)) [4] h1 (fun _ => ok true) (app F_test_called (aCons (look 4) (aCons (look 1) (aCons (look 2) aNil))))))))
    sNil))))
theorem tm_test_called (T : Txt K mg t) {k : Nat} {F_column_called : List D → M D} (G_column_called : Def P w K mg base k "column_called" F_column_called) {F_test_called : List D → M D} (G_test_called : Def P w K mg base k "test_called" F_test_called) {cdv : Value} {A : Around} {outer : List Env} {s : Shared} {H : Hp} {E : XK} (hr : Room k (A.deeper (envOfC "test_called" (defScope s_test_called) s.heap.objs.size t.f_test_called cdv))) (B : Hp) :
    PDB (cxN P w K mg base N_test_called "test_called" (defScope s_test_called) t.f_test_called cdv A outer s H E) B (defBody s_test_called) (den_test_called t F_column_called F_test_called) :=
  by
  refine pdb_cons ?_ ?_; (refine pds_set (i := 3) (sc_test_called).nd rfl (Or.inl rfl) ?_; (refine pd_ix ?_ ?_ (fun _ _ => rfl); (exact pd_var 0); (exact pd_int))); (refine pdb_cons ?_ ?_; (refine pds_if ?_ ?_ ?_; (refine pdt_eq ?_ ?_; (exact pd_var 3); (exact pd_str)); (refine pdb_cons ?_ ?_; (refine pds_ret ?_; (refine pd_tup ?_; (refine pda_cons ?_ ?_; (exact pd_var 3); (refine pda_cons ?_ ?_; (refine pd_call G_column_called hr rfl ?_; (refine pda_cons ?_ ?_; (refine pd_ix ?_ ?_ (fun _ _ => rfl); (exact pd_var 0); (exact pd_int)); (refine pda_cons ?_ ?_; (exact pd_var 1); (refine pda_cons ?_ ?_; (exact pd_var 2); (exact pda_nil))))); (refine pda_cons ?_ ?_; (refine pd_ix ?_ ?_ (fun _ _ => rfl); (exact pd_var 0); (exact pd_int)); (exact pda_nil)))))); (exact pdb_nil)); (exact pdb_nil)); (refine pdb_cons ?_ ?_; (refine pds_if ?_ ?_ ?_; (refine pdt_eq ?_ ?_; (exact pd_var 3); (exact pd_str)); (refine pdb_cons ?_ ?_; (refine pds_ret ?_; (refine pd_tup ?_; (refine pda_cons ?_ ?_; (exact pd_var 3); (refine pda_cons ?_ ?_; (refine pd_call G_column_called hr rfl ?_; (refine pda_cons ?_ ?_; (refine pd_ix ?_ ?_ (fun _ _ => rfl); (exact pd_var 0); (exact pd_int)); (refine pda_cons ?_ ?_; (exact pd_var 1); (refine pda_cons ?_ ?_; (exact pd_var 2); (exact pda_nil))))); (refine pda_cons ?_ ?_; (refine pd_call G_column_called hr rfl ?_; (refine pda_cons ?_ ?_; (refine pd_ix ?_ ?_ (fun _ _ => rfl); (exact pd_var 0); (exact pd_int)); (refine pda_cons ?_ ?_; (exact pd_var 1); (refine pda_cons ?_ ?_; (exact pd_var 2); (exact pda_nil))))); (exact pda_nil)))))); (exact pdb_nil)); (exact pdb_nil)); (refine pdb_cons ?_ ?_; (refine pds_ret ?_; (refine pd_tuple rfl T.b_tuple ?_; (refine pd_plus ?_ ?_; (refine pd_lst ?_; (refine pda_cons ?_ ?_; (exact pd_var 3); (exact pda_nil))); (refine pd_comp1 (N' := Nc_test_called_0) (m := 1) (ks := [4]) rfl rfl rfl rfl (by repeat (first | exact lk_nil | refine lk_cons rfl (by first | exact Or.inl rfl | exact Or.inr rfl) ?_)) rfl rfl rfl rfl rfl ?_ (fun C s₀ H₀ ex => ?_) (fun C s₀ H₀ ex B => ?_) (fun C s₀ H₀ ex B => ?_); (refine pit_D ?_; (refine pd_slice ?_ ?_ ?_; (exact pd_var 0); (refine pdo_some ?_; (exact pd_int)); (exact pdo_none))); (exact pdn_1 nd_test_called_0 rfl (Or.inl rfl)); (exact pif_none); (refine pd_call G_test_called hr rfl ?_; (refine pda_cons ?_ ?_; (exact pd_var 4); (refine pda_cons ?_ ?_; (exact pd_var 1); (refine pda_cons ?_ ?_; (exact pd_var 2); (exact pda_nil))))))))); (exact pdb_nil))))
theorem ok_test_called (T : Txt K mg t) {k : Nat} {F_column_called : List D → M D} (G_column_called : Def P w K mg base k "column_called" F_column_called) {F_test_called : List D → M D} (G_test_called : Def P w K mg base k "test_called" F_test_called) {F : List D → M D} (hL : ∀ ds r, F ds = some r → ds.length = 3) (hq : ∀ ds r, F ds = some r → ∃ d, r = .ok d ∧ fnRes (den_test_called t F_column_called F_test_called (rho0 N_test_called ds)) = ok d) : Def P w K mg base (k + 1) "test_called" F := by
  obtain ⟨fd, Fu, bi⟩ := T.F_test_called
  exact ⟨_, _, _, T.g_test_called, Fu.kp, bi, hL, fn_D Fu sc_test_called hL fun cdv A outer s H E hr => ⟨_, fun B => tm_test_called T G_column_called G_test_called hr B, hq⟩⟩
def N_column_called : List Str := ["column", "old", "new"]
theorem sc_column_called : FnScope N_column_called ["column", "old", "new"] (defScope s_column_called) := ⟨rfl, rfl, rfl, by decide +kernel, rfl, by decide +kernel, by decide +kernel⟩
def den_column_called (t : Adr) : Rho → Option Out :=
    (sSeq (sRet (ifV (testB (b2 gEq (look 0) (look 1))) (look 2) (look 0)))
    sNil)
theorem tm_column_called (T : Txt K mg t) {k : Nat}  {cdv : Value} {A : Around} {outer : List Env} {s : Shared} {H : Hp} {E : XK} (hr : Room k (A.deeper (envOfC "column_called" (defScope s_column_called) s.heap.objs.size t.f_column_called cdv))) (B : Hp) :
    PDB (cxN P w K mg base N_column_called "column_called" (defScope s_column_called) t.f_column_called cdv A outer s H E) B (defBody s_column_called) (den_column_called t) :=
  by
  refine pdb_cons ?_ ?_; (refine pds_ret ?_; (refine pd_if ?_ ?_ ?_; (refine pdt_eq ?_ ?_; (exact pd_var 0); (exact pd_var 1)); (exact pd_var 2); (exact pd_var 0))); (exact pdb_nil)
theorem ok_column_called (T : Txt K mg t) {k : Nat}  {F : List D → M D} (hL : ∀ ds r, F ds = some r → ds.length = 3) (hq : ∀ ds r, F ds = some r → ∃ d, r = .ok d ∧ fnRes (den_column_called t (rho0 N_column_called ds)) = ok d) : Def P w K mg base (k + 1) "column_called" F := by
  obtain ⟨fd, Fu, bi⟩ := T.F_column_called
  exact ⟨_, _, _, T.g_column_called, Fu.kp, bi, hL, fn_D Fu sc_column_called hL fun cdv A outer s H E hr => ⟨_, fun B => tm_column_called T hr B, hq⟩⟩
def N_law_at : List Str := ["_law_script", "_law_k"]
theorem sc_law_at : FnScope N_law_at ["_law_script", "_law_k"] (defScope s_law_at) := ⟨rfl, rfl, rfl, by decide +kernel, rfl, by decide +kernel, by decide +kernel⟩
def den_law_at (t : Adr) : Rho → Option Out :=
    (sSeq (sIf (testB (b2 gLt (look 1) (f1 lenD (look 0)))) (sSeq (sRet (b2 gIx (look 0) (look 1)))
    sNil) sNil)
    (sSeq (sRet (con (.int 0)))
    sNil))
theorem tm_law_at (T : Txt K mg t) {k : Nat}  {cdv : Value} {A : Around} {outer : List Env} {s : Shared} {H : Hp} {E : XK} (hr : Room k (A.deeper (envOfC "_law_at" (defScope s_law_at) s.heap.objs.size t.f_law_at cdv))) (B : Hp) :
    PDB (cxN P w K mg base N_law_at "_law_at" (defScope s_law_at) t.f_law_at cdv A outer s H E) B (defBody s_law_at) (den_law_at t) :=
  by
  refine pdb_cons ?_ ?_; (refine pds_if ?_ ?_ ?_; (refine pdt_lt ?_ ?_; (exact pd_var 1); (refine pd_len rfl T.b_len ?_; (exact pd_var 0))); (refine pdb_cons ?_ ?_; (refine pds_ret ?_; (refine pd_ix ?_ ?_ (fun _ _ => rfl); (exact pd_var 0); (exact pd_var 1))); (exact pdb_nil)); (exact pdb_nil)); (refine pdb_cons ?_ ?_; (refine pds_ret ?_; (exact pd_int)); (exact pdb_nil))
theorem ok_law_at (T : Txt K mg t) {k : Nat}  {F : List D → M D} (hL : ∀ ds r, F ds = some r → ds.length = 2) (hq : ∀ ds r, F ds = some r → ∃ d, r = .ok d ∧ fnRes (den_law_at t (rho0 N_law_at ds)) = ok d) : Def P w K mg base (k + 1) "_law_at" F := by
  obtain ⟨fd, Fu, bi⟩ := T.F_law_at
  exact ⟨_, _, _, T.g_law_at, Fu.kp, bi, hL, fn_D Fu sc_law_at hL fun cdv A outer s H E hr => ⟨_, fun B => tm_law_at T hr B, hq⟩⟩
def N_law_same : List Str := ["_law_found", "_law_due", "_law_k"]
theorem sc_law_same : FnScope N_law_same ["_law_found", "_law_due"] (defScope s_law_same) := ⟨rfl, rfl, rfl, by decide +kernel, rfl, by decide +kernel, by decide +kernel⟩
def den_law_same (t : Adr) (F_law_same : List D → M D) : Rho → Option Out :=
    (sSeq (sIf (orB (testB (b2 gNe (isi "tuple" (look 1)) (isi "tuple" (look 0)))) (testB (b2 gNe (isi "list" (look 1)) (isi "list" (look 0))))) (sSeq (sRet (con (.bl false)))
    sNil) sNil)
    (sSeq (sIf (test (isi2 ["tuple", "list"] (look 1))) (sSeq (sIf (testB (b2 gNe (f1 lenD (look 0)) (f1 lenD (look 1)))) (sSeq (sRet (con (.bl false)))
    sNil) sNil)
    (sSeq (sForR1 (f1 lenD (look 1)) (gN 2) (sSeq (sIf (notB (test (app F_law_same (aCons (b2 gIx (look 0) (look 2)) (aCons (b2 gIx (look 1) (look 2)) aNil))))) (sSeq (sRet (con (.bl false)))
    sNil) sNil)
    sNil))
    (sSeq (sRet (con (.bl true)))
    sNil))) sNil)
    (sSeq (sIf (testB (b2 gIs (look 1) (con .non))) (sSeq (sRet (b2 gIs (look 0) (con .non)))
    sNil) sNil)
    (sSeq (sIf (orB (testB (b2 gNe (isi "bool" (look 1)) (isi "bool" (look 0)))) (testB (b2 gNe (isi "str" (look 1)) (isi "str" (look 0))))) (sSeq (sRet (con (.bl false)))
    sNil) sNil)
    (sSeq (sRet (andV (b2 gEq (isi "int" (look 1)) (isi "int" (look 0))) (b2 gEq (look 0) (look 1))))
    sNil)))))
theorem tm_law_same (T : Txt K mg t) {k : Nat} {F_law_same : List D → M D} (G_law_same : Def P w K mg base k "_law_same" F_law_same) {cdv : Value} {A : Around} {outer : List Env} {s : Shared} {H : Hp} {E : XK} (hr : Room k (A.deeper (envOfC "_law_same" (defScope s_law_same) s.heap.objs.size t.f_law_same cdv))) (B : Hp) :
    PDB (cxN P w K mg base N_law_same "_law_same" (defScope s_law_same) t.f_law_same cdv A outer s H E) B (defBody s_law_same) (den_law_same t F_law_same) :=
  by
  refine pdb_cons ?_ ?_; (refine pds_if ?_ ?_ ?_; (refine PDW.pdt ?_; (refine pdw_or ?_ ?_; (refine pdt_ne ?_ ?_; (refine pd_isi (T := "tuple") rfl T.b_isinstance rfl T.b_tuple (by decide +kernel) (by decide) ?_; (exact pd_var 1)); (refine pd_isi (T := "tuple") rfl T.b_isinstance rfl T.b_tuple (by decide +kernel) (by decide) ?_; (exact pd_var 0))); (refine pdw_or1 ?_; (refine pdt_ne ?_ ?_; (refine pd_isi (T := "list") rfl T.b_isinstance rfl T.b_list (by decide +kernel) (by decide) ?_; (exact pd_var 1)); (refine pd_isi (T := "list") rfl T.b_isinstance rfl T.b_list (by decide +kernel) (by decide) ?_; (exact pd_var 0)))))); (refine pdb_cons ?_ ?_; (refine pds_ret ?_; (exact pd_bl)); (exact pdb_nil)); (exact pdb_nil)); (refine pdb_cons ?_ ?_; (refine pds_if ?_ ?_ ?_; (refine pdt_val ?_; (refine pd_isi2 (T := "tuple") (U := "list") rfl T.b_isinstance rfl T.b_tuple (by decide +kernel) (by decide) rfl T.b_list (by decide +kernel) (by decide) ?_; (exact pd_var 1))); (refine pdb_cons ?_ ?_; (refine pds_if ?_ ?_ ?_; (refine pdt_ne ?_ ?_; (refine pd_len rfl T.b_len ?_; (exact pd_var 0)); (refine pd_len rfl T.b_len ?_; (exact pd_var 1))); (refine pdb_cons ?_ ?_; (refine pds_ret ?_; (exact pd_bl)); (exact pdb_nil)); (exact pdb_nil)); (refine pdb_cons ?_ ?_; (refine pds_forR1 rfl T.b_range PassesOwn.never rfl ?_ (fun B => ?_) (fun B => ?_); (refine pd_len rfl T.b_len ?_; (exact pd_var 1)); (exact pdg_name (i := 2) (sc_law_same).nd rfl (Or.inl rfl)); (refine pdb_cons ?_ ?_; (refine pds_if ?_ ?_ ?_; (refine pdt_not ?_; (refine pdt_val ?_; (refine pd_call G_law_same hr rfl ?_; (refine pda_cons ?_ ?_; (refine pd_ix ?_ ?_ (fun _ _ => rfl); (exact pd_var 0); (exact pd_var 2)); (refine pda_cons ?_ ?_; (refine pd_ix ?_ ?_ (fun _ _ => rfl); (exact pd_var 1); (exact pd_var 2)); (exact pda_nil)))))); (refine pdb_cons ?_ ?_; (refine pds_ret ?_; (exact pd_bl)); (exact pdb_nil)); (exact pdb_nil)); (exact pdb_nil))); (refine pdb_cons ?_ ?_; (refine pds_ret ?_; (exact pd_bl)); (exact pdb_nil)))); (exact pdb_nil)); (refine pdb_cons ?_ ?_; (refine pds_if ?_ ?_ ?_; (refine pdt_is ?_ ?_; (exact pd_var 1); (exact pd_non)); (refine pdb_cons ?_ ?_; (refine pds_ret ?_; (refine pd_is ?_ ?_; (exact pd_var 0); (exact pd_non))); (exact pdb_nil)); (exact pdb_nil)); (refine pdb_cons ?_ ?_; (refine pds_if ?_ ?_ ?_; (refine PDW.pdt ?_; (refine pdw_or ?_ ?_; (refine pdt_ne ?_ ?_; (refine pd_isi (T := "bool") rfl T.b_isinstance rfl T.b_bool (by decide +kernel) (by decide) ?_; (exact pd_var 1)); (refine pd_isi (T := "bool") rfl T.b_isinstance rfl T.b_bool (by decide +kernel) (by decide) ?_; (exact pd_var 0))); (refine pdw_or1 ?_; (refine pdt_ne ?_ ?_; (refine pd_isi (T := "str") rfl T.b_isinstance rfl T.b_str (by decide +kernel) (by decide) ?_; (exact pd_var 1)); (refine pd_isi (T := "str") rfl T.b_isinstance rfl T.b_str (by decide +kernel) (by decide) ?_; (exact pd_var 0)))))); (refine pdb_cons ?_ ?_; (refine pds_ret ?_; (exact pd_bl)); (exact pdb_nil)); (exact pdb_nil)); (refine pdb_cons ?_ ?_; (refine pds_ret ?_; (refine pd_and ?_ ?_; (refine pd_eq ?_ ?_; (refine pd_isi (T := "int") rfl T.b_isinstance rfl T.b_int (by decide +kernel) (by decide) ?_; (exact pd_var 1)); (refine pd_isi (T := "int") rfl T.b_isinstance rfl T.b_int (by decide +kernel) (by decide) ?_; (exact pd_var 0))); (refine pd_one ?_; (refine pd_eq ?_ ?_; (exact pd_var 0); (exact pd_var 1))))); (exact pdb_nil)))))
theorem ok_law_same (T : Txt K mg t) {k : Nat} {F_law_same : List D → M D} (G_law_same : Def P w K mg base k "_law_same" F_law_same) {F : List D → M D} (hL : ∀ ds r, F ds = some r → ds.length = 2) (hq : ∀ ds r, F ds = some r → ∃ d, r = .ok d ∧ fnRes (den_law_same t F_law_same (rho0 N_law_same ds)) = ok d) : Def P w K mg base (k + 1) "_law_same" F := by
  obtain ⟨fd, Fu, bi⟩ := T.F_law_same
  exact ⟨_, _, _, T.g_law_same, Fu.kp, bi, hL, fn_D Fu sc_law_same hL fun cdv A outer s H E hr => ⟨_, fun B => tm_law_same T G_law_same hr B, hq⟩⟩
def N_law_mix : List Str := ["_law_cell"]
theorem sc_law_mix : FnScope N_law_mix ["_law_cell"] (defScope s_law_mix) := ⟨rfl, rfl, rfl, by decide +kernel, rfl, by decide +kernel, by decide +kernel⟩
def den_law_mix (t : Adr) : Rho → Option Out :=
    (sSeq (sRet (b2 gMod (b2 gTimes (b2 gPlus (b2 gMod (look 0) (b2 gPow (con (.int 10)) (con (.int 9)))) (con (.int 1))) (con (.int 2862933555777941757))) (b2 gPlus (b2 gPow (con (.int 10)) (con (.int 24))) (con (.int 7)))))
    sNil)
theorem tm_law_mix (T : Txt K mg t) {k : Nat}  {cdv : Value} {A : Around} {outer : List Env} {s : Shared} {H : Hp} {E : XK} (hr : Room k (A.deeper (envOfC "_law_mix" (defScope s_law_mix) s.heap.objs.size t.f_law_mix cdv))) (B : Hp) :
    PDB (cxN P w K mg base N_law_mix "_law_mix" (defScope s_law_mix) t.f_law_mix cdv A outer s H E) B (defBody s_law_mix) (den_law_mix t) :=
  by
  refine pdb_cons ?_ ?_; (refine pds_ret ?_; (refine pd_mod ?_ ?_; (refine pd_times ?_ ?_; (refine pd_plus ?_ ?_; (refine pd_mod ?_ ?_; (exact pd_var 0); (refine pd_pow ?_ ?_; (exact pd_int); (exact pd_int))); (exact pd_int)); (exact pd_int)); (refine pd_plus ?_ ?_; (refine pd_pow ?_ ?_; (exact pd_int); (exact pd_int)); (exact pd_int)))); (exact pdb_nil)
theorem ok_law_mix (T : Txt K mg t) {k : Nat}  {F : List D → M D} (hL : ∀ ds r, F ds = some r → ds.length = 1) (hq : ∀ ds r, F ds = some r → ∃ d, r = .ok d ∧ fnRes (den_law_mix t (rho0 N_law_mix ds)) = ok d) : Def P w K mg base (k + 1) "_law_mix" F := by
  obtain ⟨fd, Fu, bi⟩ := T.F_law_mix
  exact ⟨_, _, _, T.g_law_mix, Fu.kp, bi, hL, fn_D Fu sc_law_mix hL fun cdv A outer s H E hr => ⟨_, fun B => tm_law_mix T hr B, hq⟩⟩
def N_law_name : List Str := ["_law_style", "_law_k", "_law_at_here"]
theorem sc_law_name : FnScope N_law_name ["_law_style", "_law_k"] (defScope s_law_name) := ⟨rfl, rfl, rfl, by decide +kernel, rfl, by decide +kernel, by decide +kernel⟩
def den_law_name (t : Adr) : Rho → Option Out :=
    (sSeq (sSet 2 (b2 gMod (b2 gPlus (b2 gTimes (con (.int 5)) (look 1)) (look 0)) (con (.int 23))))
    (sSeq (sIf (testB (b2 gEq (b2 gMod (b2 gFdiv (look 0) (con (.int 23))) (con (.int 3))) (con (.int 1)))) (sSeq (sRet (b2 gPlus (cut3 (con (.str "zz")) oNone (oPart (b2 gMod (look 0) (con (.int 3))))) (b2 gTimes (con (.str "a")) (look 2))))
    sNil) sNil)
    (sSeq (sRet (b2 gPlus (b2 gPlus (cut3 (con (.str "zyzy")) oNone (oPart (b2 gMod (b2 gFdiv (look 0) (con (.int 69))) (con (.int 4))))) (b2 gIx (con (.str "aXq 0~zB-c!_dEf.gH1i(jK")) (look 2))) (cut3 (con (.str "yzzy")) oNone (oPart (b2 gMod (b2 gFdiv (look 0) (con (.int 276))) (con (.int 4)))))))
    sNil)))
theorem tm_law_name (T : Txt K mg t) {k : Nat}  {cdv : Value} {A : Around} {outer : List Env} {s : Shared} {H : Hp} {E : XK} (hr : Room k (A.deeper (envOfC "_law_name" (defScope s_law_name) s.heap.objs.size t.f_law_name cdv))) (B : Hp) :
    PDB (cxN P w K mg base N_law_name "_law_name" (defScope s_law_name) t.f_law_name cdv A outer s H E) B (defBody s_law_name) (den_law_name t) :=
  by
  refine pdb_cons ?_ ?_; (refine pds_set (i := 2) (sc_law_name).nd rfl (Or.inl rfl) ?_; (refine pd_mod ?_ ?_; (refine pd_plus ?_ ?_; (refine pd_times ?_ ?_; (exact pd_int); (exact pd_var 1)); (exact pd_var 0)); (exact pd_int))); (refine pdb_cons ?_ ?_; (refine pds_if ?_ ?_ ?_; (refine pdt_eq ?_ ?_; (refine pd_mod ?_ ?_; (refine pd_fdiv ?_ ?_; (exact pd_var 0); (exact pd_int)); (exact pd_int)); (exact pd_int)); (refine pdb_cons ?_ ?_; (refine pds_ret ?_; (refine pd_plus ?_ ?_; (refine pd_slice ?_ ?_ ?_; (exact pd_str); (exact pdo_none); (refine pdo_some ?_; (refine pd_mod ?_ ?_; (exact pd_var 0); (exact pd_int)))); (refine pd_times ?_ ?_; (exact pd_str); (exact pd_var 2)))); (exact pdb_nil)); (exact pdb_nil)); (refine pdb_cons ?_ ?_; (refine pds_ret ?_; (refine pd_plus ?_ ?_; (refine pd_plus ?_ ?_; (refine pd_slice ?_ ?_ ?_; (exact pd_str); (exact pdo_none); (refine pdo_some ?_; (refine pd_mod ?_ ?_; (refine pd_fdiv ?_ ?_; (exact pd_var 0); (exact pd_int)); (exact pd_int)))); (refine pd_ix ?_ ?_ (fun _ _ => rfl); (exact pd_str); (exact pd_var 2))); (refine pd_slice ?_ ?_ ?_; (exact pd_str); (exact pdo_none); (refine pdo_some ?_; (refine pd_mod ?_ ?_; (refine pd_fdiv ?_ ?_; (exact pd_var 0); (exact pd_int)); (exact pd_int)))))); (exact pdb_nil)))
theorem ok_law_name (T : Txt K mg t) {k : Nat}  {F : List D → M D} (hL : ∀ ds r, F ds = some r → ds.length = 2) (hq : ∀ ds r, F ds = some r → ∃ d, r = .ok d ∧ fnRes (den_law_name t (rho0 N_law_name ds)) = ok d) : Def P w K mg base (k + 1) "_law_name" F := by
  obtain ⟨fd, Fu, bi⟩ := T.F_law_name
  exact ⟨_, _, _, T.g_law_name, Fu.kp, bi, hL, fn_D Fu sc_law_name hL fun cdv A outer s H E hr => ⟨_, fun B => tm_law_name T hr B, hq⟩⟩
def N_law_value : List Str := ["_law_by"]
theorem sc_law_value : FnScope N_law_value ["_law_by"] (defScope s_law_value) := ⟨rfl, rfl, rfl, by decide +kernel, rfl, by decide +kernel, by decide +kernel⟩
def den_law_value (t : Adr) : Rho → Option Out :=
    (sSeq (sIf (testB (b2 gGt (b2 gMod (look 0) (con (.int 7))) (con (.int 4)))) (sSeq (sRet (b2 gSub (b2 gMod (b2 gFdiv (look 0) (con (.int 7))) (b2 gPow (con (.int 10)) (con (.int 60)))) (b2 gPow (con (.int 10)) (con (.int 20)))))
    sNil) sNil)
    (sSeq (sRet (b2 gIx (mkL (aCons (con (.int 0)) (aCons (con (.int 1)) (aCons (con (.str "1")) (aCons (con (.str "")) (aCons (con (.str "b c")) aNil)))))) (b2 gMod (look 0) (con (.int 7)))))
    sNil))
theorem tm_law_value (T : Txt K mg t) {k : Nat}  {cdv : Value} {A : Around} {outer : List Env} {s : Shared} {H : Hp} {E : XK} (hr : Room k (A.deeper (envOfC "_law_value" (defScope s_law_value) s.heap.objs.size t.f_law_value cdv))) (B : Hp) :
    PDB (cxN P w K mg base N_law_value "_law_value" (defScope s_law_value) t.f_law_value cdv A outer s H E) B (defBody s_law_value) (den_law_value t) :=
  by
  refine pdb_cons ?_ ?_; (refine pds_if ?_ ?_ ?_; (refine pdt_gt ?_ ?_; (refine pd_mod ?_ ?_; (exact pd_var 0); (exact pd_int)); (exact pd_int)); (refine pdb_cons ?_ ?_; (refine pds_ret ?_; (refine pd_sub ?_ ?_; (refine pd_mod ?_ ?_; (refine pd_fdiv ?_ ?_; (exact pd_var 0); (exact pd_int)); (refine pd_pow ?_ ?_; (exact pd_int); (exact pd_int))); (refine pd_pow ?_ ?_; (exact pd_int); (exact pd_int)))); (exact pdb_nil)); (exact pdb_nil)); (refine pdb_cons ?_ ?_; (refine pds_ret ?_; (refine pd_ix ?_ ?_ (fun _ _ => rfl); (refine pd_lst ?_; (refine pda_cons ?_ ?_; (exact pd_int); (refine pda_cons ?_ ?_; (exact pd_int); (refine pda_cons ?_ ?_; (exact pd_str); (refine pda_cons ?_ ?_; (exact pd_str); (refine pda_cons ?_ ?_; (exact pd_str); (exact pda_nil))))))); (refine pd_mod ?_ ?_; (exact pd_var 0); (exact pd_int)))); (exact pdb_nil))
theorem ok_law_value (T : Txt K mg t) {k : Nat}  {F : List D → M D} (hL : ∀ ds r, F ds = some r → ds.length = 1) (hq : ∀ ds r, F ds = some r → ∃ d, r = .ok d ∧ fnRes (den_law_value t (rho0 N_law_value ds)) = ok d) : Def P w K mg base (k + 1) "_law_value" F := by
  obtain ⟨fd, Fu, bi⟩ := T.F_law_value
  exact ⟨_, _, _, T.g_law_value, Fu.kp, bi, hL, fn_D Fu sc_law_value hL fun cdv A outer s H E hr => ⟨_, fun B => tm_law_value T hr B, hq⟩⟩
def N_law_put : List Str := ["_law_column", "_law_old", "_law_new"]
theorem sc_law_put : FnScope N_law_put ["_law_column", "_law_old", "_law_new"] (defScope s_law_put) := ⟨rfl, rfl, rfl, by decide +kernel, rfl, by decide +kernel, by decide +kernel⟩
def den_law_put (t : Adr) : Rho → Option Out :=
    (sSeq (sIf (testB (b2 gEq (look 0) (look 1))) (sSeq (sRet (look 2))
    sNil) sNil)
    (sSeq (sRet (look 0))
    sNil))
theorem tm_law_put (T : Txt K mg t) {k : Nat}  {cdv : Value} {A : Around} {outer : List Env} {s : Shared} {H : Hp} {E : XK} (hr : Room k (A.deeper (envOfC "_law_put" (defScope s_law_put) s.heap.objs.size t.f_law_put cdv))) (B : Hp) :
    PDB (cxN P w K mg base N_law_put "_law_put" (defScope s_law_put) t.f_law_put cdv A outer s H E) B (defBody s_law_put) (den_law_put t) :=
  by
  refine pdb_cons ?_ ?_; (refine pds_if ?_ ?_ ?_; (refine pdt_eq ?_ ?_; (exact pd_var 0); (exact pd_var 1)); (refine pdb_cons ?_ ?_; (refine pds_ret ?_; (exact pd_var 2)); (exact pdb_nil)); (exact pdb_nil)); (refine pdb_cons ?_ ?_; (refine pds_ret ?_; (exact pd_var 0)); (exact pdb_nil))
theorem ok_law_put (T : Txt K mg t) {k : Nat}  {F : List D → M D} (hL : ∀ ds r, F ds = some r → ds.length = 3) (hq : ∀ ds r, F ds = some r → ∃ d, r = .ok d ∧ fnRes (den_law_put t (rho0 N_law_put ds)) = ok d) : Def P w K mg base (k + 1) "_law_put" F := by
  obtain ⟨fd, Fu, bi⟩ := T.F_law_put
  exact ⟨_, _, _, T.g_law_put, Fu.kp, bi, hL, fn_D Fu sc_law_put hL fun cdv A outer s H E hr => ⟨_, fun B => tm_law_put T hr B, hq⟩⟩
def N_law_base : List Str := ["_law_names", "_law_head", "_law_row", "_law_by", "_law_old", "_law_new", "_law_one", "_law_other", "_law_value_here", "_law_fits", "_law_passed"]
theorem sc_law_base : FnScope N_law_base ["_law_names", "_law_head", "_law_row", "_law_by", "_law_old", "_law_new"] (defScope s_law_base) := ⟨rfl, rfl, rfl, by decide +kernel, rfl, by decide +kernel, by decide +kernel⟩
def den_law_base (t : Adr) (F_law_put : List D → M D) (F_law_value : List D → M D) : Rho → Option Out :=
    (sSeq (sSet 6 (b2 gIx (look 0) (b2 gMod (b2 gFdiv (look 3) (con (.int 2))) (con (.int 5)))))
    (sSeq (sSet 7 (b2 gIx (look 0) (b2 gMod (b2 gFdiv (look 3) (con (.int 120))) (con (.int 5)))))
    (sSeq (sIf (andB (testB (b2 gGt (f1 lenD (look 1)) (con (.int 0)))) (testB (b2 gGt (b2 gMod (b2 gFdiv (look 3) (con (.int 10))) (con (.int 12))) (con (.int 0))))) (sSeq (sSet 6 (b2 gIx (look 1) (b2 gMod (b2 gFdiv (look 3) (con (.int 2))) (f1 lenD (look 1)))))
    sNil) sNil)
    (sSeq (sIf (andB (testB (b2 gGt (f1 lenD (look 1)) (con (.int 0)))) (testB (b2 gGt (b2 gMod (b2 gFdiv (look 3) (con (.int 600))) (con (.int 12))) (con (.int 0))))) (sSeq (sSet 7 (b2 gIx (look 1) (b2 gMod (b2 gFdiv (look 3) (con (.int 120))) (f1 lenD (look 1)))))
    sNil) sNil)
    (sSeq (sSet 8 (app F_law_value (aCons (b2 gFdiv (look 3) (con (.int 7200))) aNil)))
    (sSeq (sIf (andB (testB (b2 gGt (f1 lenD (look 1)) (con (.int 0)))) (testB (b2 gEq (b2 gMod (b2 gFdiv (look 3) (con (.int 7200))) (con (.int 3))) (con (.int 1))))) (sSeq (sSet 8 (b2 gIx (look 2) (b2 gMod (b2 gFdiv (look 3) (con (.int 21600))) (f1 lenD (look 1)))))
    sNil) sNil)
    (sSeq (sSet 9 (b2 (gIn false) (look 6) (look 1)))
    (sSeq (sIf (testB (b2 gEq (b2 gMod (look 3) (con (.int 2))) (con (.int 0)))) (sSeq (sSet 10 (andV (look 9) (b2 gEq (b2 gIx (look 2) (tix (look 1) (look 6))) (look 8))))
    (sSeq (sRet (mkT (aCons (mkT (aCons (con (.str "is")) (aCons (look 6) (aCons (look 8) aNil)))) (aCons (mkT (aCons (con (.str "is")) (aCons (app F_law_put (aCons (look 6) (aCons (look 4) (aCons (look 5) aNil)))) (aCons (look 8) aNil)))) (aCons (mkL (aCons (look 6) aNil)) (aCons (look 10) aNil))))))
    sNil)) sNil)
    (sSeq (sSet 9 (andV (look 9) (b2 (gIn false) (look 7) (look 1))))
    (sSeq (sSet 10 (andV (look 9) (b2 gEq (b2 gIx (look 2) (tix (look 1) (look 6))) (b2 gIx (look 2) (tix (look 1) (look 7))))))
    (sSeq (sRet (mkT (aCons (mkT (aCons (con (.str "same")) (aCons (look 6) (aCons (look 7) aNil)))) (aCons (mkT (aCons (con (.str "same")) (aCons (app F_law_put (aCons (look 6) (aCons (look 4) (aCons (look 5) aNil)))) (aCons (app F_law_put (aCons (look 7) (aCons (look 4) (aCons (look 5) aNil)))) aNil)))) (aCons (mkL (aCons (look 6) (aCons (look 7) aNil))) (aCons (look 10) aNil))))))
    sNil)))))))))))
theorem tm_law_base (T : Txt K mg t) {k : Nat} {F_law_put : List D → M D} (G_law_put : Def P w K mg base k "_law_put" F_law_put) {F_law_value : List D → M D} (G_law_value : Def P w K mg base k "_law_value" F_law_value) {cdv : Value} {A : Around} {outer : List Env} {s : Shared} {H : Hp} {E : XK} (hr : Room k (A.deeper (envOfC "_law_base" (defScope s_law_base) s.heap.objs.size t.f_law_base cdv))) (B : Hp) :
    PDB (cxN P w K mg base N_law_base "_law_base" (defScope s_law_base) t.f_law_base cdv A outer s H E) B (defBody s_law_base) (den_law_base t F_law_put F_law_value) :=
  by
  refine pdb_cons ?_ ?_; (refine pds_set (i := 6) (sc_law_base).nd rfl (Or.inl rfl) ?_; (refine pd_ix ?_ ?_ (fun _ _ => rfl); (exact pd_var 0); (refine pd_mod ?_ ?_; (refine pd_fdiv ?_ ?_; (exact pd_var 3); (exact pd_int)); (exact pd_int)))); (refine pdb_cons ?_ ?_; (refine pds_set (i := 7) (sc_law_base).nd rfl (Or.inl rfl) ?_; (refine pd_ix ?_ ?_ (fun _ _ => rfl); (exact pd_var 0); (refine pd_mod ?_ ?_; (refine pd_fdiv ?_ ?_; (exact pd_var 3); (exact pd_int)); (exact pd_int)))); (refine pdb_cons ?_ ?_; (refine pds_if ?_ ?_ ?_; (refine PDW.pdt ?_; (refine pdw_and ?_ ?_; (refine pdt_gt ?_ ?_; (refine pd_len rfl T.b_len ?_; (exact pd_var 1)); (exact pd_int)); (refine pdw_and1 ?_; (refine pdt_gt ?_ ?_; (refine pd_mod ?_ ?_; (refine pd_fdiv ?_ ?_; (exact pd_var 3); (exact pd_int)); (exact pd_int)); (exact pd_int))))); (refine pdb_cons ?_ ?_; (refine pds_set (i := 6) (sc_law_base).nd rfl (Or.inl rfl) ?_; (refine pd_ix ?_ ?_ (fun _ _ => rfl); (exact pd_var 1); (refine pd_mod ?_ ?_; (refine pd_fdiv ?_ ?_; (exact pd_var 3); (exact pd_int)); (refine pd_len rfl T.b_len ?_; (exact pd_var 1))))); (exact pdb_nil)); (exact pdb_nil)); (refine pdb_cons ?_ ?_; (refine pds_if ?_ ?_ ?_; (refine PDW.pdt ?_; (refine pdw_and ?_ ?_; (refine pdt_gt ?_ ?_; (refine pd_len rfl T.b_len ?_; (exact pd_var 1)); (exact pd_int)); (refine pdw_and1 ?_; (refine pdt_gt ?_ ?_; (refine pd_mod ?_ ?_; (refine pd_fdiv ?_ ?_; (exact pd_var 3); (exact pd_int)); (exact pd_int)); (exact pd_int))))); (refine pdb_cons ?_ ?_; (refine pds_set (i := 7) (sc_law_base).nd rfl (Or.inl rfl) ?_; (refine pd_ix ?_ ?_ (fun _ _ => rfl); (exact pd_var 1); (refine pd_mod ?_ ?_; (refine pd_fdiv ?_ ?_; (exact pd_var 3); (exact pd_int)); (refine pd_len rfl T.b_len ?_; (exact pd_var 1))))); (exact pdb_nil)); (exact pdb_nil)); (refine pdb_cons ?_ ?_; (refine pds_set (i := 8) (sc_law_base).nd rfl (Or.inl rfl) ?_; (refine pd_call G_law_value hr rfl ?_; (refine pda_cons ?_ ?_; (refine pd_fdiv ?_ ?_; (exact pd_var 3); (exact pd_int)); (exact pda_nil)))); (refine pdb_cons ?_ ?_; (refine pds_if ?_ ?_ ?_; (refine PDW.pdt ?_; (refine pdw_and ?_ ?_; (refine pdt_gt ?_ ?_; (refine pd_len rfl T.b_len ?_; (exact pd_var 1)); (exact pd_int)); (refine pdw_and1 ?_; (refine pdt_eq ?_ ?_; (refine pd_mod ?_ ?_; (refine pd_fdiv ?_ ?_; (exact pd_var 3); (exact pd_int)); (exact pd_int)); (exact pd_int))))); (refine pdb_cons ?_ ?_; (refine pds_set (i := 8) (sc_law_base).nd rfl (Or.inl rfl) ?_; (refine pd_ix ?_ ?_ (fun _ _ => rfl); (exact pd_var 2); (refine pd_mod ?_ ?_; (refine pd_fdiv ?_ ?_; (exact pd_var 3); (exact pd_int)); (refine pd_len rfl T.b_len ?_; (exact pd_var 1))))); (exact pdb_nil)); (exact pdb_nil)); (refine pdb_cons ?_ ?_; (refine pds_set (i := 9) (sc_law_base).nd rfl (Or.inl rfl) ?_; (refine pd_in ?_ ?_; (exact pd_var 6); (exact pd_var 1))); (refine pdb_cons ?_ ?_; (refine pds_if ?_ ?_ ?_; (refine pdt_eq ?_ ?_; (refine pd_mod ?_ ?_; (exact pd_var 3); (exact pd_int)); (exact pd_int)); (refine pdb_cons ?_ ?_; (refine pds_set (i := 10) (sc_law_base).nd rfl (Or.inl rfl) ?_; (refine pd_and ?_ ?_; (exact pd_var 9); (refine pd_one ?_; (refine pd_eq ?_ ?_; (refine pd_ix ?_ ?_ (fun _ _ => rfl); (exact pd_var 2); (refine pd_tindex ?_ ?_; (exact pd_var 1); (exact pd_var 6))); (exact pd_var 8))))); (refine pdb_cons ?_ ?_; (refine pds_ret ?_; (refine pd_tup ?_; (refine pda_cons ?_ ?_; (refine pd_tup ?_; (refine pda_cons ?_ ?_; (exact pd_str); (refine pda_cons ?_ ?_; (exact pd_var 6); (refine pda_cons ?_ ?_; (exact pd_var 8); (exact pda_nil))))); (refine pda_cons ?_ ?_; (refine pd_tup ?_; (refine pda_cons ?_ ?_; (exact pd_str); (refine pda_cons ?_ ?_; (refine pd_call G_law_put hr rfl ?_; (refine pda_cons ?_ ?_; (exact pd_var 6); (refine pda_cons ?_ ?_; (exact pd_var 4); (refine pda_cons ?_ ?_; (exact pd_var 5); (exact pda_nil))))); (refine pda_cons ?_ ?_; (exact pd_var 8); (exact pda_nil))))); (refine pda_cons ?_ ?_; (refine pd_lst ?_; (refine pda_cons ?_ ?_; (exact pd_var 6); (exact pda_nil))); (refine pda_cons ?_ ?_; (exact pd_var 10); (exact pda_nil))))))); (exact pdb_nil))); (exact pdb_nil)); (refine pdb_cons ?_ ?_; (refine pds_set (i := 9) (sc_law_base).nd rfl (Or.inl rfl) ?_; (refine pd_and ?_ ?_; (exact pd_var 9); (refine pd_one ?_; (refine pd_in ?_ ?_; (exact pd_var 7); (exact pd_var 1))))); (refine pdb_cons ?_ ?_; (refine pds_set (i := 10) (sc_law_base).nd rfl (Or.inl rfl) ?_; (refine pd_and ?_ ?_; (exact pd_var 9); (refine pd_one ?_; (refine pd_eq ?_ ?_; (refine pd_ix ?_ ?_ (fun _ _ => rfl); (exact pd_var 2); (refine pd_tindex ?_ ?_; (exact pd_var 1); (exact pd_var 6))); (refine pd_ix ?_ ?_ (fun _ _ => rfl); (exact pd_var 2); (refine pd_tindex ?_ ?_; (exact pd_var 1); (exact pd_var 7))))))); (refine pdb_cons ?_ ?_; (refine pds_ret ?_; (refine pd_tup ?_; (refine pda_cons ?_ ?_; (refine pd_tup ?_; (refine pda_cons ?_ ?_; (exact pd_str); (refine pda_cons ?_ ?_; (exact pd_var 6); (refine pda_cons ?_ ?_; (exact pd_var 7); (exact pda_nil))))); (refine pda_cons ?_ ?_; (refine pd_tup ?_; (refine pda_cons ?_ ?_; (exact pd_str); (refine pda_cons ?_ ?_; (refine pd_call G_law_put hr rfl ?_; (refine pda_cons ?_ ?_; (exact pd_var 6); (refine pda_cons ?_ ?_; (exact pd_var 4); (refine pda_cons ?_ ?_; (exact pd_var 5); (exact pda_nil))))); (refine pda_cons ?_ ?_; (refine pd_call G_law_put hr rfl ?_; (refine pda_cons ?_ ?_; (exact pd_var 7); (refine pda_cons ?_ ?_; (exact pd_var 4); (refine pda_cons ?_ ?_; (exact pd_var 5); (exact pda_nil))))); (exact pda_nil))))); (refine pda_cons ?_ ?_; (refine pd_lst ?_; (refine pda_cons ?_ ?_; (exact pd_var 6); (refine pda_cons ?_ ?_; (exact pd_var 7); (exact pda_nil)))); (refine pda_cons ?_ ?_; (exact pd_var 10); (exact pda_nil))))))); (exact pdb_nil)))))))))))
theorem ok_law_base (T : Txt K mg t) {k : Nat} {F_law_put : List D → M D} (G_law_put : Def P w K mg base k "_law_put" F_law_put) {F_law_value : List D → M D} (G_law_value : Def P w K mg base k "_law_value" F_law_value) {F : List D → M D} (hL : ∀ ds r, F ds = some r → ds.length = 6) (hq : ∀ ds r, F ds = some r → ∃ d, r = .ok d ∧ fnRes (den_law_base t F_law_put F_law_value (rho0 N_law_base ds)) = ok d) : Def P w K mg base (k + 1) "_law_base" F := by
  obtain ⟨fd, Fu, bi⟩ := T.F_law_base
  exact ⟨_, _, _, T.g_law_base, Fu.kp, bi, hL, fn_D Fu sc_law_base hL fun cdv A outer s H E hr => ⟨_, fun B => tm_law_base T G_law_put G_law_value hr B, hq⟩⟩
def N_law_refused : List Str := ["_law_test", "_law_head", "_law_row", "_law_fine", "e"]
theorem sc_law_refused : FnScope N_law_refused ["_law_test", "_law_head", "_law_row"] (defScope s_law_refused) := ⟨rfl, rfl, rfl, by decide +kernel, rfl, by decide +kernel, by decide +kernel⟩
def den_law_refused (t : Adr) (F_passes : List D → M D) : Rho → Option Out :=
    (sSeq (sSet 3 (con (.bl false)))
    (sSeq (sTry (sSeq (sDrop (app F_passes (aCons (look 0) (aCons (look 1) (aCons (look 2) aNil)))))
    sNil) (⟨hm_NoColumn t, 4, (sSeq (sSet 3 (andV (exs (km_WhenceError t) (look 4)) (exs (km_ValueError t) (look 4))))
    sNil)⟩ :: []))
    (sSeq (sRet (look 3))
    sNil)))
theorem tm_law_refused (T : Txt K mg t) {k : Nat} {F_passes : List D → M D} (G_passes : Def P w K mg base k "passes" F_passes) {cdv : Value} {A : Around} {outer : List Env} {s : Shared} {H : Hp} {E : XK} (hr : Room k (A.deeper (envOfC "_law_refused" (defScope s_law_refused) s.heap.objs.size t.f_law_refused cdv))) (B : Hp) :
    PDB (cxN P w K mg base N_law_refused "_law_refused" (defScope s_law_refused) t.f_law_refused cdv A outer s H E) B (defBody s_law_refused) (den_law_refused t F_passes) :=
  by
  refine pdb_cons ?_ ?_; (refine pds_set (i := 3) (sc_law_refused).nd rfl (Or.inl rfl) ?_; (exact pd_bl)); (refine pdb_cons ?_ ?_; (refine pds_try rfl rfl (fun pins Q => ?_) ?_; (refine pdb_cons ?_ ?_; (refine pds_expr ?_; (refine pd_call G_passes hr rfl ?_; (refine pda_cons ?_ ?_; (exact pd_var 0); (refine pda_cons ?_ ?_; (exact pd_var 1); (refine pda_cons ?_ ?_; (exact pd_var 2); (exact pda_nil)))))); (exact pdb_nil)); (refine pdh_cons (i := 4) rfl T.g_NoColumn (hmo_NoColumn T) (sc_law_refused).nd rfl rfl (fun e B => ?_) ?_; (refine pdb_cons ?_ ?_; (refine pds_set (i := 3) (sc_law_refused).nd rfl (Or.inl rfl) ?_; (refine pd_and ?_ ?_; (refine pd_exsC rfl T.b_isinstance rfl T.g_WhenceError (kmo_WhenceError T) ?_; (exact pd_var 4)); (refine pd_one ?_; (refine pd_exsT (T := "ValueError") rfl T.b_isinstance rfl T.b_ValueError (by decide +kernel) (kmo_ValueError T) ?_; (exact pd_var 4))))); (exact pdb_nil)); (exact pdh_nil))); (refine pdb_cons ?_ ?_; (refine pds_ret ?_; (exact pd_var 3)); (exact pdb_nil)))
theorem ok_law_refused (T : Txt K mg t) {k : Nat} {F_passes : List D → M D} (G_passes : Def P w K mg base k "passes" F_passes) {F : List D → M D} (hL : ∀ ds r, F ds = some r → ds.length = 3) (hq : ∀ ds r, F ds = some r → ∃ d, r = .ok d ∧ fnRes (den_law_refused t F_passes (rho0 N_law_refused ds)) = ok d) : Def P w K mg base (k + 1) "_law_refused" F := by
  obtain ⟨fd, Fu, bi⟩ := T.F_law_refused
  exact ⟨_, _, _, T.g_law_refused, Fu.kp, bi, hL, fn_D Fu sc_law_refused hL fun cdv A outer s H E hr => ⟨_, fun B => tm_law_refused T G_passes hr B, hq⟩⟩
def N_law_grown : List Str := ["_law_built", "_law_base_here", "_law_word"]
theorem sc_law_grown : FnScope N_law_grown ["_law_built", "_law_base_here", "_law_word"] (defScope s_law_grown) := ⟨rfl, rfl, rfl, by decide +kernel, rfl, by decide +kernel, by decide +kernel⟩
def den_law_grown (t : Adr) : Rho → Option Out :=
    (sSeq (sIf (testB (b2 gEq (look 2) (con (.int 0)))) (sSeq (sRet (mkT (aCons (mkT (aCons (con (.str "not")) (aCons (b2 gIx (look 0) (con (.int 0))) aNil))) (aCons (mkT (aCons (con (.str "not")) (aCons (b2 gIx (look 0) (con (.int 1))) aNil))) (aCons (b2 gIx (look 0) (con (.int 2))) (aCons (notV (b2 gIx (look 0) (con (.int 3)))) aNil))))))
    sNil) sNil)
    (sSeq (sIf (testB (b2 gEq (look 2) (con (.int 1)))) (sSeq (sRet (mkT (aCons (mkT (aCons (con (.str "and")) (aCons (b2 gIx (look 0) (con (.int 0))) (aCons (b2 gIx (look 1) (con (.int 0))) aNil)))) (aCons (mkT (aCons (con (.str "and")) (aCons (b2 gIx (look 0) (con (.int 1))) (aCons (b2 gIx (look 1) (con (.int 1))) aNil)))) (aCons (b2 gPlus (b2 gIx (look 0) (con (.int 2))) (b2 gIx (look 1) (con (.int 2)))) (aCons (andV (b2 gIx (look 0) (con (.int 3))) (b2 gIx (look 1) (con (.int 3)))) aNil))))))
    sNil) sNil)
    (sSeq (sIf (testB (b2 gEq (look 2) (con (.int 2)))) (sSeq (sRet (mkT (aCons (mkT (aCons (con (.str "or")) (aCons (b2 gIx (look 1) (con (.int 0))) (aCons (b2 gIx (look 0) (con (.int 0))) aNil)))) (aCons (mkT (aCons (con (.str "or")) (aCons (b2 gIx (look 1) (con (.int 1))) (aCons (b2 gIx (look 0) (con (.int 1))) aNil)))) (aCons (b2 gPlus (b2 gIx (look 1) (con (.int 2))) (b2 gIx (look 0) (con (.int 2)))) (aCons (orV (b2 gIx (look 1) (con (.int 3))) (b2 gIx (look 0) (con (.int 3)))) aNil))))))
    sNil) sNil)
    (sSeq (sRet (mkT (aCons (mkT (aCons (con (.str "and")) (aCons (b2 gIx (look 1) (con (.int 0))) (aCons (b2 gIx (look 0) (con (.int 0))) aNil)))) (aCons (mkT (aCons (con (.str "and")) (aCons (b2 gIx (look 1) (con (.int 1))) (aCons (b2 gIx (look 0) (con (.int 1))) aNil)))) (aCons (b2 gPlus (b2 gIx (look 1) (con (.int 2))) (b2 gIx (look 0) (con (.int 2)))) (aCons (andV (b2 gIx (look 1) (con (.int 3))) (b2 gIx (look 0) (con (.int 3)))) aNil))))))
    sNil))))
theorem tm_law_grown (T : Txt K mg t) {k : Nat}  {cdv : Value} {A : Around} {outer : List Env} {s : Shared} {H : Hp} {E : XK} (hr : Room k (A.deeper (envOfC "_law_grown" (defScope s_law_grown) s.heap.objs.size t.f_law_grown cdv))) (B : Hp) :
    PDB (cxN P w K mg base N_law_grown "_law_grown" (defScope s_law_grown) t.f_law_grown cdv A outer s H E) B (defBody s_law_grown) (den_law_grown t) :=
  by
  refine pdb_cons ?_ ?_; (refine pds_if ?_ ?_ ?_; (refine pdt_eq ?_ ?_; (exact pd_var 2); (exact pd_int)); (refine pdb_cons ?_ ?_; (refine pds_ret ?_; (refine pd_tup ?_; (refine pda_cons ?_ ?_; (refine pd_tup ?_; (refine pda_cons ?_ ?_; (exact pd_str); (refine pda_cons ?_ ?_; (refine pd_ix ?_ ?_ (fun _ _ => rfl); (exact pd_var 0); (exact pd_int)); (exact pda_nil)))); (refine pda_cons ?_ ?_; (refine pd_tup ?_; (refine pda_cons ?_ ?_; (exact pd_str); (refine pda_cons ?_ ?_; (refine pd_ix ?_ ?_ (fun _ _ => rfl); (exact pd_var 0); (exact pd_int)); (exact pda_nil)))); (refine pda_cons ?_ ?_; (refine pd_ix ?_ ?_ (fun _ _ => rfl); (exact pd_var 0); (exact pd_int)); (refine pda_cons ?_ ?_; (refine pd_not ?_; (refine pd_ix ?_ ?_ (fun _ _ => rfl); (exact pd_var 0); (exact pd_int))); (exact pda_nil))))))); (exact pdb_nil)); (exact pdb_nil)); (refine pdb_cons ?_ ?_; (refine pds_if ?_ ?_ ?_; (refine pdt_eq ?_ ?_; (exact pd_var 2); (exact pd_int)); (refine pdb_cons ?_ ?_; (refine pds_ret ?_; (refine pd_tup ?_; (refine pda_cons ?_ ?_; (refine pd_tup ?_; (refine pda_cons ?_ ?_; (exact pd_str); (refine pda_cons ?_ ?_; (refine pd_ix ?_ ?_ (fun _ _ => rfl); (exact pd_var 0); (exact pd_int)); (refine pda_cons ?_ ?_; (refine pd_ix ?_ ?_ (fun _ _ => rfl); (exact pd_var 1); (exact pd_int)); (exact pda_nil))))); (refine pda_cons ?_ ?_; (refine pd_tup ?_; (refine pda_cons ?_ ?_; (exact pd_str); (refine pda_cons ?_ ?_; (refine pd_ix ?_ ?_ (fun _ _ => rfl); (exact pd_var 0); (exact pd_int)); (refine pda_cons ?_ ?_; (refine pd_ix ?_ ?_ (fun _ _ => rfl); (exact pd_var 1); (exact pd_int)); (exact pda_nil))))); (refine pda_cons ?_ ?_; (refine pd_plus ?_ ?_; (refine pd_ix ?_ ?_ (fun _ _ => rfl); (exact pd_var 0); (exact pd_int)); (refine pd_ix ?_ ?_ (fun _ _ => rfl); (exact pd_var 1); (exact pd_int))); (refine pda_cons ?_ ?_; (refine pd_and ?_ ?_; (refine pd_ix ?_ ?_ (fun _ _ => rfl); (exact pd_var 0); (exact pd_int)); (refine pd_one ?_; (refine pd_ix ?_ ?_ (fun _ _ => rfl); (exact pd_var 1); (exact pd_int)))); (exact pda_nil))))))); (exact pdb_nil)); (exact pdb_nil)); (refine pdb_cons ?_ ?_; (refine pds_if ?_ ?_ ?_; (refine pdt_eq ?_ ?_; (exact pd_var 2); (exact pd_int)); (refine pdb_cons ?_ ?_; (refine pds_ret ?_; (refine pd_tup ?_; (refine pda_cons ?_ ?_; (refine pd_tup ?_; (refine pda_cons ?_ ?_; (exact pd_str); (refine pda_cons ?_ ?_; (refine pd_ix ?_ ?_ (fun _ _ => rfl); (exact pd_var 1); (exact pd_int)); (refine pda_cons ?_ ?_; (refine pd_ix ?_ ?_ (fun _ _ => rfl); (exact pd_var 0); (exact pd_int)); (exact pda_nil))))); (refine pda_cons ?_ ?_; (refine pd_tup ?_; (refine pda_cons ?_ ?_; (exact pd_str); (refine pda_cons ?_ ?_; (refine pd_ix ?_ ?_ (fun _ _ => rfl); (exact pd_var 1); (exact pd_int)); (refine pda_cons ?_ ?_; (refine pd_ix ?_ ?_ (fun _ _ => rfl); (exact pd_var 0); (exact pd_int)); (exact pda_nil))))); (refine pda_cons ?_ ?_; (refine pd_plus ?_ ?_; (refine pd_ix ?_ ?_ (fun _ _ => rfl); (exact pd_var 1); (exact pd_int)); (refine pd_ix ?_ ?_ (fun _ _ => rfl); (exact pd_var 0); (exact pd_int))); (refine pda_cons ?_ ?_; (refine pd_or ?_ ?_; (refine pd_ix ?_ ?_ (fun _ _ => rfl); (exact pd_var 1); (exact pd_int)); (refine pd_one ?_; (refine pd_ix ?_ ?_ (fun _ _ => rfl); (exact pd_var 0); (exact pd_int)))); (exact pda_nil))))))); (exact pdb_nil)); (exact pdb_nil)); (refine pdb_cons ?_ ?_; (refine pds_ret ?_; (refine pd_tup ?_; (refine pda_cons ?_ ?_; (refine pd_tup ?_; (refine pda_cons ?_ ?_; (exact pd_str); (refine pda_cons ?_ ?_; (refine pd_ix ?_ ?_ (fun _ _ => rfl); (exact pd_var 1); (exact pd_int)); (refine pda_cons ?_ ?_; (refine pd_ix ?_ ?_ (fun _ _ => rfl); (exact pd_var 0); (exact pd_int)); (exact pda_nil))))); (refine pda_cons ?_ ?_; (refine pd_tup ?_; (refine pda_cons ?_ ?_; (exact pd_str); (refine pda_cons ?_ ?_; (refine pd_ix ?_ ?_ (fun _ _ => rfl); (exact pd_var 1); (exact pd_int)); (refine pda_cons ?_ ?_; (refine pd_ix ?_ ?_ (fun _ _ => rfl); (exact pd_var 0); (exact pd_int)); (exact pda_nil))))); (refine pda_cons ?_ ?_; (refine pd_plus ?_ ?_; (refine pd_ix ?_ ?_ (fun _ _ => rfl); (exact pd_var 1); (exact pd_int)); (refine pd_ix ?_ ?_ (fun _ _ => rfl); (exact pd_var 0); (exact pd_int))); (refine pda_cons ?_ ?_; (refine pd_and ?_ ?_; (refine pd_ix ?_ ?_ (fun _ _ => rfl); (exact pd_var 1); (exact pd_int)); (refine pd_one ?_; (refine pd_ix ?_ ?_ (fun _ _ => rfl); (exact pd_var 0); (exact pd_int)))); (exact pda_nil))))))); (exact pdb_nil))))
theorem ok_law_grown (T : Txt K mg t) {k : Nat}  {F : List D → M D} (hL : ∀ ds r, F ds = some r → ds.length = 3) (hq : ∀ ds r, F ds = some r → ∃ d, r = .ok d ∧ fnRes (den_law_grown t (rho0 N_law_grown ds)) = ok d) : Def P w K mg base (k + 1) "_law_grown" F := by
  obtain ⟨fd, Fu, bi⟩ := T.F_law_grown
  exact ⟨_, _, _, T.g_law_grown, Fu.kp, bi, hL, fn_D Fu sc_law_grown hL fun cdv A outer s H E hr => ⟨_, fun B => tm_law_grown T hr B, hq⟩⟩
def N_law : List Str := ["_law_script", "_law_names", "_law_head", "_law_row", "_law_old", "_law_new", "_law_built", "_law_cell", "_law_base_here"]
def Nc_law_0 : List Str := ["?0", "?1", "_law_head", "?3", "?4", "?5", "?6", "?7", "?8", "_law_column"]
theorem nd_law_0 : Nc_law_0.Nodup := by decide +kernel
def Nc_law_1 : List Str := ["_law_script", "?1", "?2", "?3", "?4", "?5", "?6", "?7", "?8", "_law_k"]
theorem nd_law_1 : Nc_law_1.Nodup := by decide +kernel
def Nc_law_2 : List Str := ["_law_script", "?1", "?2", "?3", "?4", "?5", "?6", "?7", "?8", "_law_k"]
theorem nd_law_2 : Nc_law_2.Nodup := by decide +kernel
theorem sc_law : FnScope N_law ["_law_script"] (defScope s_law) := ⟨rfl, rfl, rfl, by decide +kernel, rfl, by decide +kernel, by decide +kernel⟩
def den_law (t : Adr) (F_law_at : List D → M D) (F_law_base : List D → M D) (F_law_grown : List D → M D) (F_law_mix : List D → M D) (F_law_name : List D → M D) (F_law_refused : List D → M D) (F_law_same : List D → M D) (F_law_value : List D → M D) (F_columns_of : List D → M D) (F_passes : List D → M D) (F_test_called : List D → M D) : Rho → Option Out :=
    (sSeq (sSet 1 (cmp 1 (itR (con (.int 6))) [9] h1 (fun _ => ok true) (app F_law_name (aCons (b2 gMod (app F_law_at (aCons (look 0) (aCons (con (.int 0)) aNil))) (con (.int 2000))) (aCons (look 9) aNil)))))
    (sSeq (sSet 2 (f1 toT (cut3 (look 1) oNone (oPart (b2 gMod (app F_law_at (aCons (look 0) (aCons (con (.int 1)) aNil))) (con (.int 5)))))))
    (sSeq (sIf (testB (b2 gEq (b2 gMod (b2 gFdiv (app F_law_at (aCons (look 0) (aCons (con (.int 1)) aNil))) (con (.int 5))) (con (.int 2))) (con (.int 1)))) (sSeq (sSet 2 (f1 revT (look 2)))
    sNil) sNil)
    (sSeq (sSet 3 (f1 toT (cmp 1 (itR (f1 lenD (look 2))) [9] h1 (fun _ => ok true) (app F_law_value (aCons (b2 gFdiv (app F_law_mix (aCons (app F_law_at (aCons (look 0) (aCons (con (.int 2)) aNil))) aNil)) (b2 gPlus (b2 gFdiv (look 9) (con (.int 2))) (con (.int 1)))) aNil)))))
    (sSeq (sSet 4 (b2 gIx (look 1) (b2 gMod (app F_law_at (aCons (look 0) (aCons (con (.int 3)) aNil))) (con (.int 5)))))
    (sSeq (sSet 5 (b2 gIx (look 1) (b2 gMod (b2 gFdiv (app F_law_at (aCons (look 0) (aCons (con (.int 3)) aNil))) (con (.int 5))) (con (.int 6)))))
    (sSeq (sSet 6 (app F_law_base (aCons (look 1) (aCons (look 2) (aCons (look 3) (aCons (app F_law_mix (aCons (app F_law_at (aCons (look 0) (aCons (con (.int 4)) aNil))) aNil)) (aCons (look 4) (aCons (look 5) aNil))))))))
    (sSeq (sForE (cut3 (look 0) (oPart (con (.int 5))) (oPart (con (.int 13)))) (gN 7) (sSeq (sSet 8 (app F_law_base (aCons (look 1) (aCons (look 2) (aCons (look 3) (aCons (app F_law_mix (aCons (look 7) aNil)) (aCons (look 4) (aCons (look 5) aNil))))))))
    (sSeq (sSet 6 (app F_law_grown (aCons (look 6) (aCons (look 8) (aCons (b2 gMod (look 7) (con (.int 4))) aNil)))))
    sNil)))
    (sSeq (sIf (notB (test (app F_law_same (aCons (app F_columns_of (aCons (b2 gIx (look 6) (con (.int 0))) aNil)) (aCons (f1 srtD (f1 toS (b2 gIx (look 6) (con (.int 2))))) aNil))))) (sSeq (sRet (con (.bl false)))
    sNil) sNil)
    (sSeq (sIf (notB (test (app F_law_same (aCons (app F_test_called (aCons (b2 gIx (look 6) (con (.int 0))) (aCons (look 4) (aCons (look 5) aNil)))) (aCons (b2 gIx (look 6) (con (.int 1))) aNil))))) (sSeq (sRet (con (.bl false)))
    sNil) sNil)
    (sSeq (sIf (test (f1 anyD (cmp 1 (itE (b2 gIx (look 6) (con (.int 2)))) [9] h1 (fun _ => ok true) (b2 (gIn true) (look 9) (look 2))))) (sSeq (sRet (app F_law_refused (aCons (b2 gIx (look 6) (con (.int 0))) (aCons (look 2) (aCons (look 3) aNil)))))
    sNil) sNil)
    (sSeq (sRet (app F_law_same (aCons (app F_passes (aCons (b2 gIx (look 6) (con (.int 0))) (aCons (look 2) (aCons (look 3) aNil)))) (aCons (b2 gIx (look 6) (con (.int 3))) aNil))))
    sNil))))))))))))
theorem tm_law (T : Txt K mg t) {k : Nat} {F_law_at : List D → M D} (G_law_at : Def P w K mg base k "_law_at" F_law_at) {F_law_base : List D → M D} (G_law_base : Def P w K mg base k "_law_base" F_law_base) {F_law_grown : List D → M D} (G_law_grown : Def P w K mg base k "_law_grown" F_law_grown) {F_law_mix : List D → M D} (G_law_mix : Def P w K mg base k "_law_mix" F_law_mix) {F_law_name : List D → M D} (G_law_name : Def P w K mg base k "_law_name" F_law_name) {F_law_refused : List D → M D} (G_law_refused : Def P w K mg base k "_law_refused" F_law_refused) {F_law_same : List D → M D} (G_law_same : Def P w K mg base k "_law_same" F_law_same) {F_law_value : List D → M D} (G_law_value : Def P w K mg base k "_law_value" F_law_value) {F_columns_of : List D → M D} (G_columns_of : Def P w K mg base k "columns_of" F_columns_of) {F_passes : List D → M D} (G_passes : Def P w K mg base k "passes" F_passes) {F_test_called : List D → M D} (G_test_called : Def P w K mg base k "test_called" F_test_called) {cdv : Value} {A : Around} {outer : List Env} {s : Shared} {H : Hp} {E : XK} (hr : Room k (A.deeper (envOfC "law" (defScope s_law) s.heap.objs.size t.f_law cdv))) (B : Hp) :
    PDB (cxN P w K mg base N_law "law" (defScope s_law) t.f_law cdv A outer s H E) B (defBody s_law) (den_law t F_law_at F_law_base F_law_grown F_law_mix F_law_name F_law_refused F_law_same F_law_value F_columns_of F_passes F_test_called) :=
  by
  refine pdb_cons ?_ ?_; (refine pds_comp1 (i := 1) (sc_law).nd rfl (Or.inl rfl) (N' := Nc_law_2) (m := 1) (ks := [9]) rfl rfl rfl rfl (by repeat (first | exact lk_nil | refine lk_cons rfl (by first | exact Or.inl rfl | exact Or.inr rfl) ?_)) rfl rfl rfl rfl rfl ?_ (fun C s₀ H₀ ex => ?_) (fun C s₀ H₀ ex B => ?_) (fun C s₀ H₀ ex B => ?_); (refine pit_r1 rfl T.b_range ?_; (exact pd_int)); (exact pdn_1 nd_law_2 rfl (Or.inl rfl)); (exact pif_none); (refine pd_call G_law_name hr rfl ?_; (refine pda_cons ?_ ?_; (refine pd_mod ?_ ?_; (refine pd_call G_law_at hr rfl ?_; (refine pda_cons ?_ ?_; (exact pd_var 0); (refine pda_cons ?_ ?_; (exact pd_int); (exact pda_nil)))); (exact pd_int)); (refine pda_cons ?_ ?_; (exact pd_var 9); (exact pda_nil))))); (refine pdb_cons ?_ ?_; (refine pds_set (i := 2) (sc_law).nd rfl (Or.inr rfl) ?_; (refine pd_tuple rfl T.b_tuple ?_; (refine pd_slice ?_ ?_ ?_; (exact pd_var 1); (exact pdo_none); (refine pdo_some ?_; (refine pd_mod ?_ ?_; (refine pd_call G_law_at hr rfl ?_; (refine pda_cons ?_ ?_; (exact pd_var 0); (refine pda_cons ?_ ?_; (exact pd_int); (exact pda_nil)))); (exact pd_int)))))); (refine pdb_cons ?_ ?_; (refine pds_if ?_ ?_ ?_; (refine pdt_eq ?_ ?_; (refine pd_mod ?_ ?_; (refine pd_fdiv ?_ ?_; (refine pd_call G_law_at hr rfl ?_; (refine pda_cons ?_ ?_; (exact pd_var 0); (refine pda_cons ?_ ?_; (exact pd_int); (exact pda_nil)))); (exact pd_int)); (exact pd_int)); (exact pd_int)); (refine pdb_cons ?_ ?_; (refine pds_set (i := 2) (sc_law).nd rfl (Or.inr rfl) ?_; (refine pd_trev rfl rfl T.b_tuple rfl T.b_reversed ?_; (exact pd_var 2))); (exact pdb_nil)); (exact pdb_nil)); (refine pdb_cons ?_ ?_; (refine pds_set (i := 3) (sc_law).nd rfl (Or.inl rfl) ?_; (refine pd_tuple rfl T.b_tuple ?_; (refine pd_comp1 (N' := Nc_law_1) (m := 1) (ks := [9]) rfl rfl rfl rfl (by repeat (first | exact lk_nil | refine lk_cons rfl (by first | exact Or.inl rfl | exact Or.inr rfl) ?_)) rfl rfl rfl rfl rfl ?_ (fun C s₀ H₀ ex => ?_) (fun C s₀ H₀ ex B => ?_) (fun C s₀ H₀ ex B => ?_); (refine pit_r1 rfl T.b_range ?_; (refine pd_len rfl T.b_len ?_; (exact pd_var 2))); (exact pdn_1 nd_law_1 rfl (Or.inl rfl)); (exact pif_none); (refine pd_call G_law_value hr rfl ?_; (refine pda_cons ?_ ?_; (refine pd_fdiv ?_ ?_; (refine pd_call G_law_mix hr rfl ?_; (refine pda_cons ?_ ?_; (refine pd_call G_law_at hr rfl ?_; (refine pda_cons ?_ ?_; (exact pd_var 0); (refine pda_cons ?_ ?_; (exact pd_int); (exact pda_nil)))); (exact pda_nil))); (refine pd_plus ?_ ?_; (refine pd_fdiv ?_ ?_; (exact pd_var 9); (exact pd_int)); (exact pd_int))); (exact pda_nil)))))); (refine pdb_cons ?_ ?_; (refine pds_set (i := 4) (sc_law).nd rfl (Or.inl rfl) ?_; (refine pd_ix ?_ ?_ (fun _ _ => rfl); (exact pd_var 1); (refine pd_mod ?_ ?_; (refine pd_call G_law_at hr rfl ?_; (refine pda_cons ?_ ?_; (exact pd_var 0); (refine pda_cons ?_ ?_; (exact pd_int); (exact pda_nil)))); (exact pd_int)))); (refine pdb_cons ?_ ?_; (refine pds_set (i := 5) (sc_law).nd rfl (Or.inl rfl) ?_; (refine pd_ix ?_ ?_ (fun _ _ => rfl); (exact pd_var 1); (refine pd_mod ?_ ?_; (refine pd_fdiv ?_ ?_; (refine pd_call G_law_at hr rfl ?_; (refine pda_cons ?_ ?_; (exact pd_var 0); (refine pda_cons ?_ ?_; (exact pd_int); (exact pda_nil)))); (exact pd_int)); (exact pd_int)))); (refine pdb_cons ?_ ?_; (refine pds_set (i := 6) (sc_law).nd rfl (Or.inl rfl) ?_; (refine pd_call G_law_base hr rfl ?_; (refine pda_cons ?_ ?_; (exact pd_var 1); (refine pda_cons ?_ ?_; (exact pd_var 2); (refine pda_cons ?_ ?_; (exact pd_var 3); (refine pda_cons ?_ ?_; (refine pd_call G_law_mix hr rfl ?_; (refine pda_cons ?_ ?_; (refine pd_call G_law_at hr rfl ?_; (refine pda_cons ?_ ?_; (exact pd_var 0); (refine pda_cons ?_ ?_; (exact pd_int); (exact pda_nil)))); (exact pda_nil))); (refine pda_cons ?_ ?_; (exact pd_var 4); (refine pda_cons ?_ ?_; (exact pd_var 5); (exact pda_nil))))))))); (refine pdb_cons ?_ ?_; (refine pds_forE PassesOwn.never rfl ?_ (fun B => ?_) (fun B => ?_); (refine pd_slice ?_ ?_ ?_; (exact pd_var 0); (refine pdo_some ?_; (exact pd_int)); (refine pdo_some ?_; (exact pd_int))); (exact pdg_name (i := 7) (sc_law).nd rfl (Or.inl rfl)); (refine pdb_cons ?_ ?_; (refine pds_set (i := 8) (sc_law).nd rfl (Or.inl rfl) ?_; (refine pd_call G_law_base hr rfl ?_; (refine pda_cons ?_ ?_; (exact pd_var 1); (refine pda_cons ?_ ?_; (exact pd_var 2); (refine pda_cons ?_ ?_; (exact pd_var 3); (refine pda_cons ?_ ?_; (refine pd_call G_law_mix hr rfl ?_; (refine pda_cons ?_ ?_; (exact pd_var 7); (exact pda_nil))); (refine pda_cons ?_ ?_; (exact pd_var 4); (refine pda_cons ?_ ?_; (exact pd_var 5); (exact pda_nil))))))))); (refine pdb_cons ?_ ?_; (refine pds_set (i := 6) (sc_law).nd rfl (Or.inl rfl) ?_; (refine pd_call G_law_grown hr rfl ?_; (refine pda_cons ?_ ?_; (exact pd_var 6); (refine pda_cons ?_ ?_; (exact pd_var 8); (refine pda_cons ?_ ?_; (refine pd_mod ?_ ?_; (exact pd_var 7); (exact pd_int)); (exact pda_nil)))))); (exact pdb_nil)))); (refine pdb_cons ?_ ?_; (refine pds_if ?_ ?_ ?_; (refine pdt_not ?_; (refine pdt_val ?_; (refine pd_call G_law_same hr rfl ?_; (refine pda_cons ?_ ?_; (refine pd_call G_columns_of hr rfl ?_; (refine pda_cons ?_ ?_; (refine pd_ix ?_ ?_ (fun _ _ => rfl); (exact pd_var 6); (exact pd_int)); (exact pda_nil))); (refine pda_cons ?_ ?_; (refine pd_sorted rfl rfl T.b_sorted ?_; (refine pd_set rfl rfl T.b_set ?_; (refine pd_ix ?_ ?_ (fun _ _ => rfl); (exact pd_var 6); (exact pd_int)))); (exact pda_nil)))))); (refine pdb_cons ?_ ?_; (refine pds_ret ?_; (exact pd_bl)); (exact pdb_nil)); (exact pdb_nil)); (refine pdb_cons ?_ ?_; (refine pds_if ?_ ?_ ?_; (refine pdt_not ?_; (refine pdt_val ?_; (refine pd_call G_law_same hr rfl ?_; (refine pda_cons ?_ ?_; (refine pd_call G_test_called hr rfl ?_; (refine pda_cons ?_ ?_; (refine pd_ix ?_ ?_ (fun _ _ => rfl); (exact pd_var 6); (exact pd_int)); (refine pda_cons ?_ ?_; (exact pd_var 4); (refine pda_cons ?_ ?_; (exact pd_var 5); (exact pda_nil))))); (refine pda_cons ?_ ?_; (refine pd_ix ?_ ?_ (fun _ _ => rfl); (exact pd_var 6); (exact pd_int)); (exact pda_nil)))))); (refine pdb_cons ?_ ?_; (refine pds_ret ?_; (exact pd_bl)); (exact pdb_nil)); (exact pdb_nil)); (refine pdb_cons ?_ ?_; (refine pds_if ?_ ?_ ?_; (refine pdt_val ?_; (refine pd_any rfl rfl T.b_any ?_; (refine pd_comp1 (N' := Nc_law_0) (m := 1) (ks := [9]) rfl rfl rfl rfl (by repeat (first | exact lk_nil | refine lk_cons rfl (by first | exact Or.inl rfl | exact Or.inr rfl) ?_)) rfl rfl rfl rfl rfl ?_ (fun C s₀ H₀ ex => ?_) (fun C s₀ H₀ ex B => ?_) (fun C s₀ H₀ ex B => ?_); (refine pit_D ?_; (refine pd_ix ?_ ?_ (fun _ _ => rfl); (exact pd_var 6); (exact pd_int))); (exact pdn_1 nd_law_0 rfl (Or.inl rfl)); (exact pif_none); (refine pd_notin ?_ ?_; (exact pd_var 9); (exact pd_var 2))))); (refine pdb_cons ?_ ?_; (refine pds_ret ?_; (refine pd_call G_law_refused hr rfl ?_; (refine pda_cons ?_ ?_; (refine pd_ix ?_ ?_ (fun _ _ => rfl); (exact pd_var 6); (exact pd_int)); (refine pda_cons ?_ ?_; (exact pd_var 2); (refine pda_cons ?_ ?_; (exact pd_var 3); (exact pda_nil)))))); (exact pdb_nil)); (exact pdb_nil)); (refine pdb_cons ?_ ?_; (refine pds_ret ?_; (refine pd_call G_law_same hr rfl ?_; (refine pda_cons ?_ ?_; (refine pd_call G_passes hr rfl ?_; (refine pda_cons ?_ ?_; (refine pd_ix ?_ ?_ (fun _ _ => rfl); (exact pd_var 6); (exact pd_int)); (refine pda_cons ?_ ?_; (exact pd_var 2); (refine pda_cons ?_ ?_; (exact pd_var 3); (exact pda_nil))))); (refine pda_cons ?_ ?_; (refine pd_ix ?_ ?_ (fun _ _ => rfl); (exact pd_var 6); (exact pd_int)); (exact pda_nil))))); (exact pdb_nil))))))))))))
theorem fnd_law (T : Txt K mg t) {fd : FuncData} (Fu : Fun K "law" "law" s_law t.f_law fd) {k : Nat} {F_law_at : List D → M D} (G_law_at : Def P w K mg base k "_law_at" F_law_at) {F_law_base : List D → M D} (G_law_base : Def P w K mg base k "_law_base" F_law_base) {F_law_grown : List D → M D} (G_law_grown : Def P w K mg base k "_law_grown" F_law_grown) {F_law_mix : List D → M D} (G_law_mix : Def P w K mg base k "_law_mix" F_law_mix) {F_law_name : List D → M D} (G_law_name : Def P w K mg base k "_law_name" F_law_name) {F_law_refused : List D → M D} (G_law_refused : Def P w K mg base k "_law_refused" F_law_refused) {F_law_same : List D → M D} (G_law_same : Def P w K mg base k "_law_same" F_law_same) {F_law_value : List D → M D} (G_law_value : Def P w K mg base k "_law_value" F_law_value) {F_columns_of : List D → M D} (G_columns_of : Def P w K mg base k "columns_of" F_columns_of) {F_passes : List D → M D} (G_passes : Def P w K mg base k "passes" F_passes) {F_test_called : List D → M D} (G_test_called : Def P w K mg base k "test_called" F_test_called) {F : List D → M D} (hL : ∀ ds r, F ds = some r → ds.length = 1) (hq : ∀ ds r, F ds = some r → ∃ d, r = .ok d ∧ fnRes (den_law t F_law_at F_law_base F_law_grown F_law_mix F_law_name F_law_refused F_law_same F_law_value F_columns_of F_passes F_test_called (rho0 N_law ds)) = ok d) : FnD P w K mg base (k + 1) t.f_law fd ["_law_script"] F :=
  fn_D Fu sc_law hL fun cdv A outer s H E hr => ⟨_, fun B => tm_law T G_law_at G_law_base G_law_grown G_law_mix G_law_name G_law_refused G_law_same G_law_value G_columns_of G_passes G_test_called hr B, hq⟩
theorem ok_law (T : Txt K mg t) {k : Nat} {F_law_at : List D → M D} (G_law_at : Def P w K mg base k "_law_at" F_law_at) {F_law_base : List D → M D} (G_law_base : Def P w K mg base k "_law_base" F_law_base) {F_law_grown : List D → M D} (G_law_grown : Def P w K mg base k "_law_grown" F_law_grown) {F_law_mix : List D → M D} (G_law_mix : Def P w K mg base k "_law_mix" F_law_mix) {F_law_name : List D → M D} (G_law_name : Def P w K mg base k "_law_name" F_law_name) {F_law_refused : List D → M D} (G_law_refused : Def P w K mg base k "_law_refused" F_law_refused) {F_law_same : List D → M D} (G_law_same : Def P w K mg base k "_law_same" F_law_same) {F_law_value : List D → M D} (G_law_value : Def P w K mg base k "_law_value" F_law_value) {F_columns_of : List D → M D} (G_columns_of : Def P w K mg base k "columns_of" F_columns_of) {F_passes : List D → M D} (G_passes : Def P w K mg base k "passes" F_passes) {F_test_called : List D → M D} (G_test_called : Def P w K mg base k "test_called" F_test_called) {F : List D → M D} (hL : ∀ ds r, F ds = some r → ds.length = 1) (hq : ∀ ds r, F ds = some r → ∃ d, r = .ok d ∧ fnRes (den_law t F_law_at F_law_base F_law_grown F_law_mix F_law_name F_law_refused F_law_same F_law_value F_columns_of F_passes F_test_called (rho0 N_law ds)) = ok d) : Def P w K mg base (k + 1) "law" F := by
  obtain ⟨fd, Fu, bi⟩ := T.F_law
  exact ⟨_, _, _, T.g_law, Fu.kp, bi, hL, fn_D Fu sc_law hL fun cdv A outer s H E hr => ⟨_, fun B => tm_law T G_law_at G_law_base G_law_grown G_law_mix G_law_name G_law_refused G_law_same G_law_value G_columns_of G_passes G_test_called hr B, hq⟩⟩
end
theorem txt_mk {K : PySem.W.Frag} {h : Heap} {mg : Str → Option Value} (X : K.In h) (G : h.Ns mainGlobals mg)
    {X_WhenceError : Addr}
    {X_NoColumn : Addr}
    {f_columns_of : Addr}
    {odcolumns_of ancolumns_of : Option Addr} {slcolumns_of : Array (Option Value)} {occolumns_of kVcolumns_of dccolumns_of pmcolumns_of cdcolumns_of ctcolumns_of : Value}
    {f_columns_told : Addr}
    {odcolumns_told ancolumns_told : Option Addr} {slcolumns_told : Array (Option Value)} {occolumns_told kVcolumns_told dccolumns_told pmcolumns_told cdcolumns_told ctcolumns_told : Value}
    {f_check_columns : Addr}
    {odcheck_columns ancheck_columns : Option Addr} {slcheck_columns : Array (Option Value)} {occheck_columns kVcheck_columns dccheck_columns pmcheck_columns cdcheck_columns ctcheck_columns : Value}
    {f_passes : Addr}
    {odpasses anpasses : Option Addr} {slpasses : Array (Option Value)} {ocpasses kVpasses dcpasses pmpasses cdpasses ctpasses : Value}
    {f_holds : Addr}
    {odholds anholds : Option Addr} {slholds : Array (Option Value)} {ocholds kVholds dcholds pmholds cdholds ctholds : Value}
    {f_test_called : Addr}
    {odtest_called antest_called : Option Addr} {sltest_called : Array (Option Value)} {octest_called kVtest_called dctest_called pmtest_called cdtest_called cttest_called : Value}
    {f_column_called : Addr}
    {odcolumn_called ancolumn_called : Option Addr} {slcolumn_called : Array (Option Value)} {occolumn_called kVcolumn_called dccolumn_called pmcolumn_called cdcolumn_called ctcolumn_called : Value}
    {f_law_at : Addr}
    {odlaw_at anlaw_at : Option Addr} {sllaw_at : Array (Option Value)} {oclaw_at kVlaw_at dclaw_at pmlaw_at cdlaw_at ctlaw_at : Value}
    {f_law_same : Addr}
    {odlaw_same anlaw_same : Option Addr} {sllaw_same : Array (Option Value)} {oclaw_same kVlaw_same dclaw_same pmlaw_same cdlaw_same ctlaw_same : Value}
    {f_law_mix : Addr}
    {odlaw_mix anlaw_mix : Option Addr} {sllaw_mix : Array (Option Value)} {oclaw_mix kVlaw_mix dclaw_mix pmlaw_mix cdlaw_mix ctlaw_mix : Value}
    {f_law_name : Addr}
    {odlaw_name anlaw_name : Option Addr} {sllaw_name : Array (Option Value)} {oclaw_name kVlaw_name dclaw_name pmlaw_name cdlaw_name ctlaw_name : Value}
    {f_law_value : Addr}
    {odlaw_value anlaw_value : Option Addr} {sllaw_value : Array (Option Value)} {oclaw_value kVlaw_value dclaw_value pmlaw_value cdlaw_value ctlaw_value : Value}
    {f_law_put : Addr}
    {odlaw_put anlaw_put : Option Addr} {sllaw_put : Array (Option Value)} {oclaw_put kVlaw_put dclaw_put pmlaw_put cdlaw_put ctlaw_put : Value}
    {f_law_base : Addr}
    {odlaw_base anlaw_base : Option Addr} {sllaw_base : Array (Option Value)} {oclaw_base kVlaw_base dclaw_base pmlaw_base cdlaw_base ctlaw_base : Value}
    {f_law_refused : Addr}
    {odlaw_refused anlaw_refused : Option Addr} {sllaw_refused : Array (Option Value)} {oclaw_refused kVlaw_refused dclaw_refused pmlaw_refused cdlaw_refused ctlaw_refused : Value}
    {f_law_grown : Addr}
    {odlaw_grown anlaw_grown : Option Addr} {sllaw_grown : Array (Option Value)} {oclaw_grown kVlaw_grown dclaw_grown pmlaw_grown cdlaw_grown ctlaw_grown : Value}
    {f_law : Addr}
    {odlaw anlaw : Option Addr} {sllaw : Array (Option Value)} {oclaw kVlaw dclaw pmlaw cdlaw ctlaw : Value}
    (aX_WhenceError : PySem.W.nsIn K mainGlobals "WhenceError" = some (some (.ref X_WhenceError)))
    (xiX_WhenceError : PySem.W.excIn K X_WhenceError [.type "ValueError", .type "Exception", .type "BaseException", .type "object"] "ValueError.__new__" = true)
    (aX_NoColumn : PySem.W.nsIn K mainGlobals "NoColumn" = some (some (.ref X_NoColumn)))
    (xiX_NoColumn : PySem.W.excIn K X_NoColumn [.type "ValueError", .type "Exception", .type "BaseException", .type "object"] "ValueError.__new__" = true)
    (xkNoColumn_ValueError : PySem.W.kitOne K (.ref X_NoColumn) (.type "ValueError") = some true)
    (xkNoColumn_WhenceError : PySem.W.kitOne K (.ref X_NoColumn) (.ref X_WhenceError) = some true)
    (xmNoColumn_NoColumn : PySem.W.exmOne K (.ref X_NoColumn) (.ref X_NoColumn) = some true)
    (xmWhenceError_NoColumn : PySem.W.exmOne K (.ref X_WhenceError) (.ref X_NoColumn) = some false)
    (xmWhenceError_WhenceError : PySem.W.exmOne K (.ref X_WhenceError) (.ref X_WhenceError) = some true)
    (af_columns_of : PySem.W.nsIn K mainGlobals "columns_of" = some (some (.ref f_columns_of)))
    (lf_columns_of : K.lookup f_columns_of = some ⟨occolumns_of, odcolumns_of, .func (PySem.W.fnOf "columns_of" "columns_of" (defArgs s_columns_of) (defBody s_columns_of) (defScope s_columns_of) .none kVcolumns_of dccolumns_of pmcolumns_of ancolumns_of cdcolumns_of ctcolumns_of), slcolumns_of⟩)
    (cf_columns_of : PySem.W.codeIn K cdcolumns_of "columns_of" = true)
    (kf_columns_of : PySem.W.keepIn K (.ref f_columns_of) = true)
    (af_columns_told : PySem.W.nsIn K mainGlobals "columns_told" = some (some (.ref f_columns_told)))
    (lf_columns_told : K.lookup f_columns_told = some ⟨occolumns_told, odcolumns_told, .func (PySem.W.fnOf "columns_told" "columns_told" (defArgs s_columns_told) (defBody s_columns_told) (defScope s_columns_told) .none kVcolumns_told dccolumns_told pmcolumns_told ancolumns_told cdcolumns_told ctcolumns_told), slcolumns_told⟩)
    (cf_columns_told : PySem.W.codeIn K cdcolumns_told "columns_told" = true)
    (kf_columns_told : PySem.W.keepIn K (.ref f_columns_told) = true)
    (af_check_columns : PySem.W.nsIn K mainGlobals "check_columns" = some (some (.ref f_check_columns)))
    (lf_check_columns : K.lookup f_check_columns = some ⟨occheck_columns, odcheck_columns, .func (PySem.W.fnOf "check_columns" "check_columns" (defArgs s_check_columns) (defBody s_check_columns) (defScope s_check_columns) .none kVcheck_columns dccheck_columns pmcheck_columns ancheck_columns cdcheck_columns ctcheck_columns), slcheck_columns⟩)
    (cf_check_columns : PySem.W.codeIn K cdcheck_columns "check_columns" = true)
    (kf_check_columns : PySem.W.keepIn K (.ref f_check_columns) = true)
    (af_passes : PySem.W.nsIn K mainGlobals "passes" = some (some (.ref f_passes)))
    (lf_passes : K.lookup f_passes = some ⟨ocpasses, odpasses, .func (PySem.W.fnOf "passes" "passes" (defArgs s_passes) (defBody s_passes) (defScope s_passes) .none kVpasses dcpasses pmpasses anpasses cdpasses ctpasses), slpasses⟩)
    (cf_passes : PySem.W.codeIn K cdpasses "passes" = true)
    (kf_passes : PySem.W.keepIn K (.ref f_passes) = true)
    (af_holds : PySem.W.nsIn K mainGlobals "holds" = some (some (.ref f_holds)))
    (lf_holds : K.lookup f_holds = some ⟨ocholds, odholds, .func (PySem.W.fnOf "holds" "holds" (defArgs s_holds) (defBody s_holds) (defScope s_holds) .none kVholds dcholds pmholds anholds cdholds ctholds), slholds⟩)
    (cf_holds : PySem.W.codeIn K cdholds "holds" = true)
    (kf_holds : PySem.W.keepIn K (.ref f_holds) = true)
    (af_test_called : PySem.W.nsIn K mainGlobals "test_called" = some (some (.ref f_test_called)))
    (lf_test_called : K.lookup f_test_called = some ⟨octest_called, odtest_called, .func (PySem.W.fnOf "test_called" "test_called" (defArgs s_test_called) (defBody s_test_called) (defScope s_test_called) .none kVtest_called dctest_called pmtest_called antest_called cdtest_called cttest_called), sltest_called⟩)
    (cf_test_called : PySem.W.codeIn K cdtest_called "test_called" = true)
    (kf_test_called : PySem.W.keepIn K (.ref f_test_called) = true)
    (af_column_called : PySem.W.nsIn K mainGlobals "column_called" = some (some (.ref f_column_called)))
    (lf_column_called : K.lookup f_column_called = some ⟨occolumn_called, odcolumn_called, .func (PySem.W.fnOf "column_called" "column_called" (defArgs s_column_called) (defBody s_column_called) (defScope s_column_called) .none kVcolumn_called dccolumn_called pmcolumn_called ancolumn_called cdcolumn_called ctcolumn_called), slcolumn_called⟩)
    (cf_column_called : PySem.W.codeIn K cdcolumn_called "column_called" = true)
    (kf_column_called : PySem.W.keepIn K (.ref f_column_called) = true)
    (af_law_at : PySem.W.nsIn K mainGlobals "_law_at" = some (some (.ref f_law_at)))
    (lf_law_at : K.lookup f_law_at = some ⟨oclaw_at, odlaw_at, .func (PySem.W.fnOf "_law_at" "_law_at" (defArgs s_law_at) (defBody s_law_at) (defScope s_law_at) .none kVlaw_at dclaw_at pmlaw_at anlaw_at cdlaw_at ctlaw_at), sllaw_at⟩)
    (cf_law_at : PySem.W.codeIn K cdlaw_at "_law_at" = true)
    (kf_law_at : PySem.W.keepIn K (.ref f_law_at) = true)
    (af_law_same : PySem.W.nsIn K mainGlobals "_law_same" = some (some (.ref f_law_same)))
    (lf_law_same : K.lookup f_law_same = some ⟨oclaw_same, odlaw_same, .func (PySem.W.fnOf "_law_same" "_law_same" (defArgs s_law_same) (defBody s_law_same) (defScope s_law_same) .none kVlaw_same dclaw_same pmlaw_same anlaw_same cdlaw_same ctlaw_same), sllaw_same⟩)
    (cf_law_same : PySem.W.codeIn K cdlaw_same "_law_same" = true)
    (kf_law_same : PySem.W.keepIn K (.ref f_law_same) = true)
    (af_law_mix : PySem.W.nsIn K mainGlobals "_law_mix" = some (some (.ref f_law_mix)))
    (lf_law_mix : K.lookup f_law_mix = some ⟨oclaw_mix, odlaw_mix, .func (PySem.W.fnOf "_law_mix" "_law_mix" (defArgs s_law_mix) (defBody s_law_mix) (defScope s_law_mix) .none kVlaw_mix dclaw_mix pmlaw_mix anlaw_mix cdlaw_mix ctlaw_mix), sllaw_mix⟩)
    (cf_law_mix : PySem.W.codeIn K cdlaw_mix "_law_mix" = true)
    (kf_law_mix : PySem.W.keepIn K (.ref f_law_mix) = true)
    (af_law_name : PySem.W.nsIn K mainGlobals "_law_name" = some (some (.ref f_law_name)))
    (lf_law_name : K.lookup f_law_name = some ⟨oclaw_name, odlaw_name, .func (PySem.W.fnOf "_law_name" "_law_name" (defArgs s_law_name) (defBody s_law_name) (defScope s_law_name) .none kVlaw_name dclaw_name pmlaw_name anlaw_name cdlaw_name ctlaw_name), sllaw_name⟩)
    (cf_law_name : PySem.W.codeIn K cdlaw_name "_law_name" = true)
    (kf_law_name : PySem.W.keepIn K (.ref f_law_name) = true)
    (af_law_value : PySem.W.nsIn K mainGlobals "_law_value" = some (some (.ref f_law_value)))
    (lf_law_value : K.lookup f_law_value = some ⟨oclaw_value, odlaw_value, .func (PySem.W.fnOf "_law_value" "_law_value" (defArgs s_law_value) (defBody s_law_value) (defScope s_law_value) .none kVlaw_value dclaw_value pmlaw_value anlaw_value cdlaw_value ctlaw_value), sllaw_value⟩)
    (cf_law_value : PySem.W.codeIn K cdlaw_value "_law_value" = true)
    (kf_law_value : PySem.W.keepIn K (.ref f_law_value) = true)
    (af_law_put : PySem.W.nsIn K mainGlobals "_law_put" = some (some (.ref f_law_put)))
    (lf_law_put : K.lookup f_law_put = some ⟨oclaw_put, odlaw_put, .func (PySem.W.fnOf "_law_put" "_law_put" (defArgs s_law_put) (defBody s_law_put) (defScope s_law_put) .none kVlaw_put dclaw_put pmlaw_put anlaw_put cdlaw_put ctlaw_put), sllaw_put⟩)
    (cf_law_put : PySem.W.codeIn K cdlaw_put "_law_put" = true)
    (kf_law_put : PySem.W.keepIn K (.ref f_law_put) = true)
    (af_law_base : PySem.W.nsIn K mainGlobals "_law_base" = some (some (.ref f_law_base)))
    (lf_law_base : K.lookup f_law_base = some ⟨oclaw_base, odlaw_base, .func (PySem.W.fnOf "_law_base" "_law_base" (defArgs s_law_base) (defBody s_law_base) (defScope s_law_base) .none kVlaw_base dclaw_base pmlaw_base anlaw_base cdlaw_base ctlaw_base), sllaw_base⟩)
    (cf_law_base : PySem.W.codeIn K cdlaw_base "_law_base" = true)
    (kf_law_base : PySem.W.keepIn K (.ref f_law_base) = true)
    (af_law_refused : PySem.W.nsIn K mainGlobals "_law_refused" = some (some (.ref f_law_refused)))
    (lf_law_refused : K.lookup f_law_refused = some ⟨oclaw_refused, odlaw_refused, .func (PySem.W.fnOf "_law_refused" "_law_refused" (defArgs s_law_refused) (defBody s_law_refused) (defScope s_law_refused) .none kVlaw_refused dclaw_refused pmlaw_refused anlaw_refused cdlaw_refused ctlaw_refused), sllaw_refused⟩)
    (cf_law_refused : PySem.W.codeIn K cdlaw_refused "_law_refused" = true)
    (kf_law_refused : PySem.W.keepIn K (.ref f_law_refused) = true)
    (af_law_grown : PySem.W.nsIn K mainGlobals "_law_grown" = some (some (.ref f_law_grown)))
    (lf_law_grown : K.lookup f_law_grown = some ⟨oclaw_grown, odlaw_grown, .func (PySem.W.fnOf "_law_grown" "_law_grown" (defArgs s_law_grown) (defBody s_law_grown) (defScope s_law_grown) .none kVlaw_grown dclaw_grown pmlaw_grown anlaw_grown cdlaw_grown ctlaw_grown), sllaw_grown⟩)
    (cf_law_grown : PySem.W.codeIn K cdlaw_grown "_law_grown" = true)
    (kf_law_grown : PySem.W.keepIn K (.ref f_law_grown) = true)
    (af_law : PySem.W.nsIn K mainGlobals "law" = some (some (.ref f_law)))
    (lf_law : K.lookup f_law = some ⟨oclaw, odlaw, .func (PySem.W.fnOf "law" "law" (defArgs s_law) (defBody s_law) (defScope s_law) .none kVlaw dclaw pmlaw anlaw cdlaw ctlaw), sllaw⟩)
    (cf_law : PySem.W.codeIn K cdlaw "law" = true)
    (kf_law : PySem.W.keepIn K (.ref f_law) = true)
    (zValueError : PySem.W.nsIn K mainGlobals "ValueError" = some none)
    (zany : PySem.W.nsIn K mainGlobals "any" = some none)
    (zbool : PySem.W.nsIn K mainGlobals "bool" = some none)
    (zint : PySem.W.nsIn K mainGlobals "int" = some none)
    (zisinstance : PySem.W.nsIn K mainGlobals "isinstance" = some none)
    (zlen : PySem.W.nsIn K mainGlobals "len" = some none)
    (zlist : PySem.W.nsIn K mainGlobals "list" = some none)
    (zrange : PySem.W.nsIn K mainGlobals "range" = some none)
    (zreversed : PySem.W.nsIn K mainGlobals "reversed" = some none)
    (zset : PySem.W.nsIn K mainGlobals "set" = some none)
    (zsorted : PySem.W.nsIn K mainGlobals "sorted" = some none)
    (zstr : PySem.W.nsIn K mainGlobals "str" = some none)
    (ztuple : PySem.W.nsIn K mainGlobals "tuple" = some none) : ∃ t, Txt K mg t := by
  have nx_NoColumn_WhenceError : X_NoColumn ≠ X_WhenceError := fun z => by
    subst z
    have q := xmWhenceError_NoColumn.symm.trans xmWhenceError_WhenceError
    cases q
  refine ⟨{ X_WhenceError := X_WhenceError, X_NoColumn := X_NoColumn, f_columns_of := f_columns_of, f_columns_told := f_columns_told, f_check_columns := f_check_columns, f_passes := f_passes, f_holds := f_holds, f_test_called := f_test_called, f_column_called := f_column_called, f_law_at := f_law_at, f_law_same := f_law_same, f_law_mix := f_law_mix, f_law_name := f_law_name, f_law_value := f_law_value, f_law_put := f_law_put, f_law_base := f_law_base, f_law_refused := f_law_refused, f_law_grown := f_law_grown, f_law := f_law }, ?_⟩
  exact {
    g_WhenceError := PySem.W.mg_of X G aX_WhenceError
    xi_WhenceError := xiX_WhenceError
    g_NoColumn := PySem.W.mg_of X G aX_NoColumn
    xi_NoColumn := xiX_NoColumn
    xk_NoColumn_ValueError := xkNoColumn_ValueError
    xk_NoColumn_WhenceError := xkNoColumn_WhenceError
    xm_NoColumn_NoColumn := xmNoColumn_NoColumn
    xm_WhenceError_NoColumn := xmWhenceError_NoColumn
    xm_WhenceError_WhenceError := xmWhenceError_WhenceError
    nx_NoColumn_WhenceError := nx_NoColumn_WhenceError
    F_columns_of := ⟨_, fun_mk (st := s_columns_of) lf_columns_of cf_columns_of kf_columns_of, (fun_mk (st := s_columns_of) lf_columns_of cf_columns_of kf_columns_of).binds (ps := ["test"]) fun _ _ _ _ _ _ us hl => match us, hl with | [_], _ => rfl⟩
    g_columns_of := PySem.W.mg_of X G af_columns_of
    F_columns_told := ⟨_, fun_mk (st := s_columns_told) lf_columns_told cf_columns_told kf_columns_told, (fun_mk (st := s_columns_told) lf_columns_told cf_columns_told kf_columns_told).binds (ps := ["test"]) fun _ _ _ _ _ _ us hl => match us, hl with | [_], _ => rfl⟩
    g_columns_told := PySem.W.mg_of X G af_columns_told
    F_check_columns := ⟨_, fun_mk (st := s_check_columns) lf_check_columns cf_check_columns kf_check_columns, (fun_mk (st := s_check_columns) lf_check_columns cf_check_columns kf_check_columns).binds (ps := ["test", "head"]) fun _ _ _ _ _ _ us hl => match us, hl with | [_, _], _ => rfl⟩
    g_check_columns := PySem.W.mg_of X G af_check_columns
    F_passes := ⟨_, fun_mk (st := s_passes) lf_passes cf_passes kf_passes, (fun_mk (st := s_passes) lf_passes cf_passes kf_passes).binds (ps := ["test", "head", "row"]) fun _ _ _ _ _ _ us hl => match us, hl with | [_, _, _], _ => rfl⟩
    g_passes := PySem.W.mg_of X G af_passes
    F_holds := ⟨_, fun_mk (st := s_holds) lf_holds cf_holds kf_holds, (fun_mk (st := s_holds) lf_holds cf_holds kf_holds).binds (ps := ["test", "head", "row"]) fun _ _ _ _ _ _ us hl => match us, hl with | [_, _, _], _ => rfl⟩
    g_holds := PySem.W.mg_of X G af_holds
    F_test_called := ⟨_, fun_mk (st := s_test_called) lf_test_called cf_test_called kf_test_called, (fun_mk (st := s_test_called) lf_test_called cf_test_called kf_test_called).binds (ps := ["test", "old", "new"]) fun _ _ _ _ _ _ us hl => match us, hl with | [_, _, _], _ => rfl⟩
    g_test_called := PySem.W.mg_of X G af_test_called
    F_column_called := ⟨_, fun_mk (st := s_column_called) lf_column_called cf_column_called kf_column_called, (fun_mk (st := s_column_called) lf_column_called cf_column_called kf_column_called).binds (ps := ["column", "old", "new"]) fun _ _ _ _ _ _ us hl => match us, hl with | [_, _, _], _ => rfl⟩
    g_column_called := PySem.W.mg_of X G af_column_called
    F_law_at := ⟨_, fun_mk (st := s_law_at) lf_law_at cf_law_at kf_law_at, (fun_mk (st := s_law_at) lf_law_at cf_law_at kf_law_at).binds (ps := ["_law_script", "_law_k"]) fun _ _ _ _ _ _ us hl => match us, hl with | [_, _], _ => rfl⟩
    g_law_at := PySem.W.mg_of X G af_law_at
    F_law_same := ⟨_, fun_mk (st := s_law_same) lf_law_same cf_law_same kf_law_same, (fun_mk (st := s_law_same) lf_law_same cf_law_same kf_law_same).binds (ps := ["_law_found", "_law_due"]) fun _ _ _ _ _ _ us hl => match us, hl with | [_, _], _ => rfl⟩
    g_law_same := PySem.W.mg_of X G af_law_same
    F_law_mix := ⟨_, fun_mk (st := s_law_mix) lf_law_mix cf_law_mix kf_law_mix, (fun_mk (st := s_law_mix) lf_law_mix cf_law_mix kf_law_mix).binds (ps := ["_law_cell"]) fun _ _ _ _ _ _ us hl => match us, hl with | [_], _ => rfl⟩
    g_law_mix := PySem.W.mg_of X G af_law_mix
    F_law_name := ⟨_, fun_mk (st := s_law_name) lf_law_name cf_law_name kf_law_name, (fun_mk (st := s_law_name) lf_law_name cf_law_name kf_law_name).binds (ps := ["_law_style", "_law_k"]) fun _ _ _ _ _ _ us hl => match us, hl with | [_, _], _ => rfl⟩
    g_law_name := PySem.W.mg_of X G af_law_name
    F_law_value := ⟨_, fun_mk (st := s_law_value) lf_law_value cf_law_value kf_law_value, (fun_mk (st := s_law_value) lf_law_value cf_law_value kf_law_value).binds (ps := ["_law_by"]) fun _ _ _ _ _ _ us hl => match us, hl with | [_], _ => rfl⟩
    g_law_value := PySem.W.mg_of X G af_law_value
    F_law_put := ⟨_, fun_mk (st := s_law_put) lf_law_put cf_law_put kf_law_put, (fun_mk (st := s_law_put) lf_law_put cf_law_put kf_law_put).binds (ps := ["_law_column", "_law_old", "_law_new"]) fun _ _ _ _ _ _ us hl => match us, hl with | [_, _, _], _ => rfl⟩
    g_law_put := PySem.W.mg_of X G af_law_put
    F_law_base := ⟨_, fun_mk (st := s_law_base) lf_law_base cf_law_base kf_law_base, (fun_mk (st := s_law_base) lf_law_base cf_law_base kf_law_base).binds (ps := ["_law_names", "_law_head", "_law_row", "_law_by", "_law_old", "_law_new"]) fun _ _ _ _ _ _ us hl => match us, hl with | [_, _, _, _, _, _], _ => rfl⟩
    g_law_base := PySem.W.mg_of X G af_law_base
    F_law_refused := ⟨_, fun_mk (st := s_law_refused) lf_law_refused cf_law_refused kf_law_refused, (fun_mk (st := s_law_refused) lf_law_refused cf_law_refused kf_law_refused).binds (ps := ["_law_test", "_law_head", "_law_row"]) fun _ _ _ _ _ _ us hl => match us, hl with | [_, _, _], _ => rfl⟩
    g_law_refused := PySem.W.mg_of X G af_law_refused
    F_law_grown := ⟨_, fun_mk (st := s_law_grown) lf_law_grown cf_law_grown kf_law_grown, (fun_mk (st := s_law_grown) lf_law_grown cf_law_grown kf_law_grown).binds (ps := ["_law_built", "_law_base_here", "_law_word"]) fun _ _ _ _ _ _ us hl => match us, hl with | [_, _, _], _ => rfl⟩
    g_law_grown := PySem.W.mg_of X G af_law_grown
    F_law := ⟨_, fun_mk (st := s_law) lf_law cf_law kf_law, (fun_mk (st := s_law) lf_law cf_law kf_law).binds (ps := ["_law_script"]) fun _ _ _ _ _ _ us hl => match us, hl with | [_], _ => rfl⟩
    g_law := PySem.W.mg_of X G af_law
    b_ValueError := PySem.W.mg_none_of X G zValueError
    b_any := PySem.W.mg_none_of X G zany
    b_bool := PySem.W.mg_none_of X G zbool
    b_int := PySem.W.mg_none_of X G zint
    b_isinstance := PySem.W.mg_none_of X G zisinstance
    b_len := PySem.W.mg_none_of X G zlen
    b_list := PySem.W.mg_none_of X G zlist
    b_range := PySem.W.mg_none_of X G zrange
    b_reversed := PySem.W.mg_none_of X G zreversed
    b_set := PySem.W.mg_none_of X G zset
    b_sorted := PySem.W.mg_none_of X G zsorted
    b_str := PySem.W.mg_none_of X G zstr
    b_tuple := PySem.W.mg_none_of X G ztuple }
end K15

set_option Elab.async false
set_option linter.all false
set_option maxRecDepth 100000
set_option maxHeartbeats 4000000
namespace K15
open PySem PySem.Spec PyProof.Rows L2 L2.PU
/-! ### tests -/
inductive Tst where
  | is (c : Str) (v : D) | same (a b : Str) | no (t : Tst) | an (a b : Tst) | or (a b : Tst)
def Flat (v : D) : Prop := (∃ i, v = .int i) ∨ ∃ x, v = .str x
def Tst.d : Tst → D
  | .is c v => .tup [.str "is", .str c, v]
  | .same a b => .tup [.str "same", .str a, .str b]
  | .no t => .tup [.str "not", t.d]
  | .an a b => .tup [.str "and", a.d, b.d]
  | .or a b => .tup [.str "or", a.d, b.d]
def Tst.cols : Tst → List Str
  | .is c _ => [c]
  | .same a b => [a, b]
  | .no t => t.cols
  | .an a b => a.cols ++ b.cols
  | .or a b => a.cols ++ b.cols
def pt (x y c : Str) : Str := if c = x then y else c
def Tst.put (x y : Str) : Tst → Tst
  | .is c v => .is (pt x y c) v
  | .same a b => .same (pt x y a) (pt x y b)
  | .no t => .no (t.put x y)
  | .an a b => .an (a.put x y) (b.put x y)
  | .or a b => .or (a.put x y) (b.put x y)
def Tst.wf : Tst → Prop
  | .is _ v => Flat v
  | .same _ _ => True
  | .no t => t.wf
  | .an a b => a.wf ∧ b.wf
  | .or a b => a.wf ∧ b.wf
def Tst.ht : Tst → Nat
  | .is _ _ => 0
  | .same _ _ => 0
  | .no t => t.ht + 1
  | .an a b => max a.ht b.ht + 1
  | .or a b => max a.ht b.ht + 1
theorem Flat.imm {v : D} (h : Flat v) : v.imm = true := by rcases h with ⟨i, rfl⟩ | ⟨x, rfl⟩ <;> rfl
theorem Flat.pl {v : D} (h : Flat v) : v.pl = true := by rcases h with ⟨i, rfl⟩ | ⟨x, rfl⟩ <;> rfl
theorem Flat.dep {v : D} (h : Flat v) : v.dep = 0 := by rcases h with ⟨i, rfl⟩ | ⟨x, rfl⟩ <;> rfl
theorem Tst.imm : ∀ {T : Tst}, T.wf → T.d.imm = true
  | .is c v, h => by simp [Tst.d, D.imm, immL, Flat.imm h]
  | .same a b, _ => rfl
  | .no t, h => by simp [Tst.d, D.imm, immL, Tst.imm (T := t) h]
  | .an a b, h => by simp [Tst.d, D.imm, immL, Tst.imm (T := a) h.1, Tst.imm (T := b) h.2]
  | .or a b, h => by simp [Tst.d, D.imm, immL, Tst.imm (T := a) h.1, Tst.imm (T := b) h.2]
theorem Tst.pl : ∀ {T : Tst}, T.wf → T.d.pl = true
  | .is c v, h => by simp [Tst.d, D.pl, plL, Flat.pl h]
  | .same a b, _ => rfl
  | .no t, h => by simp [Tst.d, D.pl, plL, Tst.pl (T := t) h]
  | .an a b, h => by simp [Tst.d, D.pl, plL, Tst.pl (T := a) h.1, Tst.pl (T := b) h.2]
  | .or a b, h => by simp [Tst.d, D.pl, plL, Tst.pl (T := a) h.1, Tst.pl (T := b) h.2]
theorem Tst.dep : ∀ {T : Tst}, T.wf → T.d.dep = T.ht + 1
  | .is c v, h => by simp [Tst.d, D.dep, depL, Flat.dep h, Tst.ht]
  | .same a b, _ => rfl
  | .no t, h => by simp [Tst.d, D.dep, depL, Tst.dep (T := t) h, Tst.ht]
  | .an a b, h => by simp [Tst.d, D.dep, depL, Tst.dep (T := a) h.1, Tst.dep (T := b) h.2, Tst.ht]
  | .or a b, h => by simp [Tst.d, D.dep, depL, Tst.dep (T := a) h.1, Tst.dep (T := b) h.2, Tst.ht]
theorem put_wf {x y : Str} : ∀ {T : Tst}, T.wf → (T.put x y).wf
  | .is c v, h => h
  | .same a b, _ => trivial
  | .no t, h => put_wf (T := t) h
  | .an a b, h => ⟨put_wf (T := a) h.1, put_wf (T := b) h.2⟩
  | .or a b, h => ⟨put_wf (T := a) h.1, put_wf (T := b) h.2⟩
theorem put_ht {x y : Str} : ∀ {T : Tst}, (T.put x y).ht = T.ht
  | .is c v => rfl
  | .same a b => rfl
  | .no t => congrArg (· + 1) (put_ht (T := t))
  | .an a b => by show max _ _ + 1 = max _ _ + 1; rw [put_ht (T := a), put_ht (T := b)]
  | .or a b => by show max _ _ + 1 = max _ _ + 1; rw [put_ht (T := a), put_ht (T := b)]
/-! ### words -/
theorem wd {f : Rho → M D} {ρ : Rho} {x y : Str} (h : f ρ = ok (.str x)) : testB (b2 gEq f (con (.str y))) ρ = ok (decide (x = y)) := testB_ok (b2_ok h rfl rfl)
theorem w1 : decide (("is" : Str) = "is") = true := by decide +kernel
theorem w2 : decide (("same" : Str) = "is") = false := by decide +kernel
theorem w3 : decide (("not" : Str) = "is") = false := by decide +kernel
theorem w4 : decide (("and" : Str) = "is") = false := by decide +kernel
theorem w5 : decide (("or" : Str) = "is") = false := by decide +kernel
theorem w6 : decide (("same" : Str) = "same") = true := by decide +kernel
theorem w7 : decide (("not" : Str) = "same") = false := by decide +kernel
theorem w8 : decide (("and" : Str) = "same") = false := by decide +kernel
theorem w9 : decide (("or" : Str) = "same") = false := by decide +kernel
theorem w10 : decide (("not" : Str) = "not") = true := by decide +kernel
theorem w11 : decide (("and" : Str) = "not") = false := by decide +kernel
theorem w12 : decide (("or" : Str) = "not") = false := by decide +kernel
theorem w13 : decide (("and" : Str) = "and") = true := by decide +kernel
theorem w14 : decide (("or" : Str) = "and") = false := by decide +kernel
theorem ix_tup {ds : List D} {j : Nat} {d : D} (h : ds[j]? = some d) : gIx (.tup ds) (.int (j : Int)) = ok d := by
  show (match atI ds (j : Int) with | some d => ok d | none => none) = _
  rw [atI_nat h]
/-! ### the columns told -/
def fTold (t : Adr) : Nat → List D → M D
  | 0 => fun _ => none
  | k + 1 => viaD 1 fun ds => fnRes (den_columns_told t (fTold t k) (rho0 N_columns_told ds))
def bodyT (F : List D → M D) : Rho → Option Out := (sSeq (sExt 1 (aCons (app F (aCons (look 2) aNil)) aNil))
    sNil)
theorem bodyT_ok {F : List D → M D} {x p : D} {ds : List D} {xs : List Str} (h : F [p] = ok (.lst (xs.map D.str))) (hl : ds.length + xs.length ≤ 100000) : bodyT F [some (.sh x), some (.own ds), some (.sh p)] = some (.nx [some (.sh x), some (.own (ds ++ xs.map D.str)), some (.sh p)]) := by
  have e : sExt 1 (aCons (app F (aCons (look 2) aNil)) aNil) [some (.sh x), some (.own ds), some (.sh p)] = some (.nx [some (.sh x), some (.own (ds ++ xs.map D.str)), some (.sh p)]) := by
    unfold sExt
    show lft _ _ _ = _
    rw [aCons_ok ((app_ok (aCons_ok (d := p) rfl aNil_ok)).trans h) aNil_ok]
    show (if immL (xs.map D.str) = true ∧ ds.length + (xs.map D.str).length ≤ 100000 then _ else _) = _
    rw [if_pos ⟨immL_strs xs, by rw [List.length_map]; exact hl⟩]
    rfl
  unfold bodyT
  rw [sSeq_nx e]
  rfl
theorem told_loop {F : List D → M D} {x : D} : ∀ (ps : List Tst) (ds : List D) (o : Option SV), (∀ T ∈ ps, T.wf ∧ F [T.d] = ok (.lst (T.cols.map D.str))) → ds.length + (ps.flatMap Tst.cols).length ≤ 100000 →
    ∃ o', loop (gN 2) (bodyT F) (ps.map Tst.d) [some (.sh x), some (.own ds), o] = some (.nx [some (.sh x), some (.own (ds ++ (ps.flatMap Tst.cols).map D.str)), o'])
  | [], ds, o, _, _ => ⟨o, by simp [loop]⟩
  | T :: ps, ds, o, h, hl => by
    obtain ⟨h1, h2⟩ := h T List.mem_cons_self
    rw [List.flatMap_cons, List.length_append] at hl
    obtain ⟨o', ih⟩ := told_loop (x := x) ps (ds ++ T.cols.map D.str) (some (.sh T.d)) (fun S hS => h S (List.mem_cons_of_mem _ hS)) (by rw [List.length_append, List.length_map]; omega)
    refine ⟨o', ?_⟩
    have g : gN 2 T.d [some (.sh x), some (.own ds), o] = some [some (.sh x), some (.own ds), some (.sh T.d)] := by
      unfold gN
      rw [setV_imm (Tst.imm h1)]
      rfl
    rw [List.map_cons]
    unfold loop
    rw [g]
    dsimp only
    rw [bodyT_ok h2 (by omega)]
    dsimp only
    rw [ih, List.flatMap_cons, List.map_append, List.append_assoc]
theorem told_many {t : Adr} {F : List D → M D} {w : Str} {x : D} (ps : List Tst) (hx : x = .tup (.str w :: ps.map Tst.d)) (h1 : decide (w = "is") = false) (h2 : decide (w = "same") = false) (hw : x.imm = true) (h : ∀ T ∈ ps, T.wf ∧ F [T.d] = ok (.lst (T.cols.map D.str))) (hl : (ps.flatMap Tst.cols).length ≤ 1000) :
    fnRes (den_columns_told t F (rho0 N_columns_told [x])) = ok (.lst ((ps.flatMap Tst.cols).map D.str)) := by
  have e0 : rho0 N_columns_told [x] = [some (.sh x), none, none] := rfl
  rw [e0]
  have i0 : b2 gIx (look 0) (con (.int 0)) [some (.sh x), none, none] = ok (.str w) := by
    subst hx
    exact b2_ok (x := .tup (.str w :: ps.map Tst.d)) (y := .int ((0 : Nat) : Int)) rfl rfl (ix_tup rfl)
  unfold den_columns_told
  rw [sSeq_nx ((sIf_f ((wd i0).trans (by rw [h1]))).trans rfl), sSeq_nx ((sIf_f ((wd i0).trans (by rw [h2]))).trans rfl)]
  have n1 : sNew 1 aNil [some (.sh x), none, none] = some (.nx [some (.sh x), some (.own []), none]) := by simp [sNew, aNil, ok, lft, immL]
  rw [sSeq_nx n1]
  have c1 : cut3 (look 0) (oPart (con (.int 1))) oNone [some (.sh x), some (.own []), none] = ok (.tup (ps.map Tst.d)) := by
    subst hx
    unfold cut3 oPart oNone con
    show ok (D.tup (cutD (.str w :: ps.map Tst.d) (some ((1 : Nat) : Int)) none)) = _
    rw [cut_from _ (by rw [List.length_cons]; omega)]
    rfl
  have im : (D.tup (ps.map Tst.d)).imm = true := by
    subst hx
    rw [D.imm, immL] at hw
    simpa [D.imm] using hw
  obtain ⟨o', hlp⟩ := told_loop (F := F) (x := x) ps [] none h (by simpa using Nat.le_trans hl (by decide))
  have s2 : sForE (cut3 (look 0) (oPart (con (.int 1))) oNone) (gN 2) (bodyT F) [some (.sh x), some (.own []), none] = some (.nx [some (.sh x), some (.own ((ps.flatMap Tst.cols).map D.str)), o']) := by
    rw [sForE_ok c1 rfl, if_pos im, hlp]
    rfl
  show fnRes (sSeq (sForE _ (gN 2) (bodyT F)) _ _) = _
  rw [sSeq_nx s2]
  rfl
theorem told_sp (t : Adr) : ∀ (T : Tst) (k : Nat), T.wf → T.ht < k → T.cols.length ≤ 1000 → fTold t k [T.d] = ok (.lst (T.cols.map D.str))
  | _, 0, _, h, _ => absurd h (Nat.not_lt_zero _)
  | .is c v, k + 1, hw, h, hl => by
    refine viaD_of rfl ?_
    have e0 : rho0 N_columns_told [(Tst.is c v).d] = [some (.sh (Tst.is c v).d), none, none] := rfl
    rw [e0]
    unfold den_columns_told
    have i0 : b2 gIx (look 0) (con (.int 0)) [some (.sh (Tst.is c v).d), none, none] = ok (.str "is") := rfl
    rw [sSeq_rt ((sIf_t ((wd i0).trans (by rw [w1]))).trans (sSeq_rt (sRet_ok (mkL_ok (aCons_ok (d := .str c) rfl aNil_ok)))))]
    rfl
  | .same a b, k + 1, hw, h, hl => by
    refine viaD_of rfl ?_
    have e0 : rho0 N_columns_told [(Tst.same a b).d] = [some (.sh (Tst.same a b).d), none, none] := rfl
    rw [e0]
    unfold den_columns_told
    have i0 : b2 gIx (look 0) (con (.int 0)) [some (.sh (Tst.same a b).d), none, none] = ok (.str "same") := rfl
    rw [sSeq_nx ((sIf_f ((wd i0).trans (by rw [w2]))).trans rfl), sSeq_rt ((sIf_t ((wd i0).trans (by rw [w6]))).trans (sSeq_rt (sRet_ok (mkL_ok (aCons_ok (d := .str a) rfl (aCons_ok (d := .str b) rfl aNil_ok))))))]
    rfl
  | .no a, k + 1, hw, h, hl => by
    have h' : a.ht < k := by simp [Tst.ht] at h; omega
    have ih := told_sp t a k hw h' hl
    refine viaD_of rfl ((told_many [a] rfl w3 w7 (Tst.imm (T := .no a) hw) (fun S hS => ?_) (by simpa [Tst.cols] using hl)).trans (by simp [Tst.cols]))
    rw [List.mem_singleton] at hS
    subst hS
    exact ⟨hw, ih⟩
  | .an a b, k + 1, hw, h, hl => by
    have h' : max a.ht b.ht < k := by simp [Tst.ht] at h; omega
    have hl2 : a.cols.length + b.cols.length ≤ 1000 := by simpa [Tst.cols] using hl
    have iha := told_sp t a k hw.1 (by omega) (by omega)
    have ihb := told_sp t b k hw.2 (by omega) (by omega)
    refine viaD_of rfl ((told_many [a, b] rfl w4 w8 (Tst.imm (T := .an a b) hw) (fun S hS => ?_) (by simpa using hl2)).trans (by simp [Tst.cols]))
    rcases List.mem_cons.mp hS with rfl | hS
    · exact ⟨hw.1, iha⟩
    · rw [List.mem_singleton] at hS
      subst hS
      exact ⟨hw.2, ihb⟩
  | .or a b, k + 1, hw, h, hl => by
    have h' : max a.ht b.ht < k := by simp [Tst.ht] at h; omega
    have hl2 : a.cols.length + b.cols.length ≤ 1000 := by simpa [Tst.cols] using hl
    have iha := told_sp t a k hw.1 (by omega) (by omega)
    have ihb := told_sp t b k hw.2 (by omega) (by omega)
    refine viaD_of rfl ((told_many [a, b] rfl w5 w9 (Tst.imm (T := .or a b) hw) (fun S hS => ?_) (by simpa using hl2)).trans (by simp [Tst.cols]))
    rcases List.mem_cons.mp hS with rfl | hS
    · exact ⟨hw.1, iha⟩
    · rw [List.mem_singleton] at hS
      subst hS
      exact ⟨hw.2, ihb⟩
/-! ### the columns, sorted -/
def csS (l : List Str) : List Str := srtS (metS l)
theorem srt_ok {f : Rho → M D} {ρ : Rho} {l : List Str} (h : f ρ = ok (.lst (l.map D.str))) (hl : l.length < 64) : f1 srtD (f1 toS f) ρ = ok (.lst ((csS l).map D.str)) := by
  have z : l.length ≤ 2000 := by omega
  have e1 : f1 toS f ρ = ok (.set (metS l)) := by
    unfold f1
    rw [h]
    show (match strL (l.map D.str) with | some xs => if xs.length ≤ 2000 then ok (D.set (metS xs)) else none | none => none) = _
    rw [strL_map]
    show (if l.length ≤ 2000 then _ else _) = _
    rw [if_pos z]
  have e2 : srtD (.set (metS l)) = ok (.lst ((csS l).map D.str)) := by
    show (if (metS l).length < 64 ∧ (metS l).Nodup then _ else _) = _
    rw [if_pos ⟨Nat.lt_of_le_of_lt (metS_le l) hl, metS_nodup l⟩]
    rfl
  show bnd (f1 toS f ρ) srtD = _
  rw [e1]
  exact e2
theorem cs_mem {l : List Str} {x : Str} : x ∈ csS l ↔ x ∈ l := by
  unfold csS
  rw [(srtS_perm (metS l)).mem_iff]
  have := metS_has l x
  rw [← List.contains_iff_mem, ← List.contains_iff_mem, this]
theorem cs_len (l : List Str) : (csS l).length ≤ l.length := by
  unfold csS
  rw [(srtS_perm (metS l)).length_eq]
  exact metS_le l
def fCols (t : Adr) (n : Nat) : List D → M D := viaD 1 fun ds => fnRes (den_columns_of t (fTold t n) (rho0 N_columns_of ds))
theorem cols_sp (t : Adr) {T : Tst} {n : Nat} (hw : T.wf) (hn : T.ht < n) (hl : T.cols.length < 64) : fCols t n [T.d] = ok (.lst ((csS T.cols).map D.str)) := by
  refine viaD_of rfl ?_
  have e0 : rho0 N_columns_of [T.d] = [some (.sh T.d)] := rfl
  rw [e0]
  have e1 : app (fTold t n) (aCons (look 0) aNil) [some (.sh T.d)] = ok (.lst (T.cols.map D.str)) := (app_ok (aCons_ok (d := T.d) rfl aNil_ok)).trans (told_sp t T n hw hn (by omega))
  unfold den_columns_of
  rw [sSeq_rt (sRet_ok (srt_ok e1 hl))]
  rfl
/-! ### are the columns there -/
def fCheck (t : Adr) (n : Nat) : List D → M D := viaX 2 fun ds => fnRes (den_check_columns t (fCols t n) (rho0 N_check_columns ds))
def bodyC (t : Adr) : Rho → Option Out := (sSeq (sIf (testB (b2 (gIn true) (look 2) (look 1))) (sSeq (sRaise t.X_NoColumn (aCons (jnd (jCon "the test has a column " (jRep (look 2) (jCon ", the head has not" jNil)))) aNil))
    sNil) sNil)
    sNil)
theorem check_loop (t : Adr) (h : List Str) (y : D) : ∀ (l : List Str) (o : Option SV), (∀ x ∈ l, Sh x) →
    (l.all (fun x => h.contains x) = true → ∃ o', loop (gN 2) (bodyC t) (l.map D.str) [some (.sh y), some (.sh (tS h)), o] = some (.nx [some (.sh y), some (.sh (tS h)), o'])) ∧
    (l.all (fun x => h.contains x) = false → ∃ ρ', loop (gN 2) (bodyC t) (l.map D.str) [some (.sh y), some (.sh (tS h)), o] = some (.ex t.X_NoColumn ρ'))
  | [], o, _ => ⟨fun _ => ⟨o, rfl⟩, fun z => by simp at z⟩
  | x :: l, o, hs => by
    have hx := hs x List.mem_cons_self
    obtain ⟨i1, i2⟩ := check_loop t h y l (some (.sh (.str x))) (fun z hz => hs z (List.mem_cons_of_mem _ hz))
    have st : loop (gN 2) (bodyC t) ((x :: l).map D.str) [some (.sh y), some (.sh (tS h)), o] = match bodyC t [some (.sh y), some (.sh (tS h)), some (.sh (.str x))] with
        | some (.nx ρ2) => loop (gN 2) (bodyC t) (l.map D.str) ρ2
        | some (.ct ρ2) => loop (gN 2) (bodyC t) (l.map D.str) ρ2
        | some (.bk ρ2) => some (.nx ρ2)
        | some (.rt d) => some (.rt d)
        | some (.ex c ρ2) => some (.ex c ρ2)
        | none => none := rfl
    obtain ⟨z, hz⟩ := msg2 (c := "the test has a column ") (c' := ", the head has not") (x := x) (f := look 2) (ρ := [some (.sh y), some (.sh (tS h)), some (.sh (.str x))]) (by decide) (by decide) hx rfl
    have g0 : (b2 (gIn true) (look 2) (look 1)) [some (.sh y), some (.sh (tS h)), some (.sh (.str x))] = ok (.bl (!h.contains x)) := in_tS true x h
    cases hc : h.contains x with
    | true =>
      rw [hc] at g0
      have hb : bodyC t [some (.sh y), some (.sh (tS h)), some (.sh (.str x))] = some (.nx [some (.sh y), some (.sh (tS h)), some (.sh (.str x))]) := by
        unfold bodyC
        rw [sSeq_nx ((sIf_f (testB_ok g0)).trans rfl)]
        rfl
      rw [st, hb, List.all_cons, hc, Bool.true_and]
      exact ⟨i1, i2⟩
    | false =>
      rw [hc] at g0
      have hb : bodyC t [some (.sh y), some (.sh (tS h)), some (.sh (.str x))] = some (.ex t.X_NoColumn [some (.sh y), some (.sh (tS h)), some (.sh (.str x))]) := by
        unfold bodyC
        exact sSeq_ex ((sIf_t (testB_ok g0)).trans (one_raise hz))
      rw [st, hb, List.all_cons, hc, Bool.false_and]
      exact And.intro (fun z => Bool.noConfusion z) (fun _ => ⟨_, rfl⟩)
theorem cs_all {l h : List Str} : (csS l).all (fun x => h.contains x) = l.all (fun x => h.contains x) := by
  rw [Bool.eq_iff_iff, List.all_eq_true, List.all_eq_true]
  exact ⟨fun q x hx => q x (cs_mem.mpr hx), fun q x hx => q x (cs_mem.mp hx)⟩
theorem check_sp (t : Adr) {T : Tst} {n : Nat} {h : List Str} (hw : T.wf) (hn : T.ht < n) (hl : T.cols.length < 64) (hs : ∀ x ∈ T.cols, Sh x) : fCheck t n [T.d, tS h] = if T.cols.all (fun x => h.contains x) = true then ok .non else err t.X_NoColumn := by
  refine viaX_of rfl ?_
  have e0 : rho0 N_check_columns [T.d, tS h] = [some (.sh T.d), some (.sh (tS h)), none] := rfl
  rw [e0]
  have e1 : app (fCols t n) (aCons (look 0) aNil) [some (.sh T.d), some (.sh (tS h)), none] = ok (.lst ((csS T.cols).map D.str)) := (app_ok (aCons_ok (d := T.d) rfl aNil_ok)).trans (cols_sp t hw hn hl)
  obtain ⟨i1, i2⟩ := check_loop t h T.d (csS T.cols) none (fun x hx => hs x (cs_mem.mp hx))
  have d2 : sForE (app (fCols t n) (aCons (look 0) aNil)) (gN 2) (bodyC t) [some (.sh T.d), some (.sh (tS h)), none] = loop (gN 2) (bodyC t) ((csS T.cols).map D.str) [some (.sh T.d), some (.sh (tS h)), none] := by
    rw [sForE_ok e1 rfl]
    rfl
  unfold den_check_columns
  show fnRes (sSeq (sForE _ (gN 2) (bodyC t)) _ _) = _
  cases hc : T.cols.all (fun x => h.contains x) with
  | true =>
    obtain ⟨o', hlp⟩ := i1 (by rw [cs_all]; exact hc)
    rw [sSeq_nx (d2.trans hlp), if_pos rfl]
    rfl
  | false =>
    obtain ⟨ρ', hlp⟩ := i2 (by rw [cs_all]; exact hc)
    rw [if_neg (by simp), sSeq_ex (d2.trans hlp)]
    rfl
/-! ### does it hold -/
def val (h : List Str) (row : List D) (c : Str) : D := match idxS c h with
  | some j => row.getD j .non
  | none => .non
def eqD (x y : D) : Bool := (eqF x y).getD false
def Tst.hold (h : List Str) (row : List D) : Tst → Bool
  | .is c v => eqD (val h row c) v
  | .same a b => eqD (val h row a) (val h row b)
  | .no t => !t.hold h row
  | .an a b => a.hold h row && b.hold h row
  | .or a b => a.hold h row || b.hold h row
theorem eq_flat {x y : D} (hx : Flat x) (hy : Flat y) : gEq x y = ok (.bl (eqD x y)) := by
  rcases hx with ⟨i, rfl⟩ | ⟨i, rfl⟩ <;> rcases hy with ⟨j, rfl⟩ | ⟨j, rfl⟩ <;> rfl
structure Rw (h : List Str) (row : List D) : Prop where
  len : row.length = h.length
  fl : ∀ v ∈ row, Flat v
theorem val_flat {h : List Str} {row : List D} {c : Str} (r : Rw h row) (hc : h.contains c = true) : Flat (val h row c) ∧ ∃ j, idxS c h = some j ∧ row[j]? = some (val h row c) := by
  obtain ⟨j, hj, hjl⟩ := idx_of hc
  have hr : j < row.length := by rw [r.len]; exact hjl
  have e : val h row c = row[j] := by unfold val; rw [hj]; simp [List.getD_eq_getElem?_getD, hr]
  refine ⟨by rw [e]; exact r.fl _ (List.getElem_mem hr), j, hj, ?_⟩
  rw [e]
  exact List.getElem?_eq_getElem hr
theorem at_ok' {f g : Rho → M D} {ρ : Rho} {h : List Str} {row : List D} {c : Str} {fr : Rho → M D} (r : Rw h row) (hc : h.contains c = true) (h1 : fr ρ = ok (.tup row)) (h2 : f ρ = ok (tS h)) (h3 : g ρ = ok (.str c)) : b2 gIx fr (tix f g) ρ = ok (val h row c) := by
  obtain ⟨_, j, hj, he⟩ := val_flat r hc
  refine b2_ok (x := .tup row) (y := .int j) h1 ?_ ?_
  · unfold tix
    rw [h2]
    show bnd (g ρ) (fun y => gIndex (.tup (h.map D.str)) y) = _
    rw [h3, bnd_ok]
    show (match strL (h.map D.str) with | some ys => (match idxS c ys with | some j => ok (D.int j) | none => none) | none => none) = _
    rw [strL_map]
    show (match idxS c h with | some j => ok (D.int j) | none => none) = _
    rw [hj]
  · show (match atI row (j : Int) with | some d => ok d | none => none) = _
    rw [atI_nat he]
end K15

set_option Elab.async false
set_option linter.all false
set_option maxRecDepth 100000
set_option maxHeartbeats 4000000
namespace K15
open PySem PySem.Spec PyProof.Rows L2 L2.PU
theorem notV_ok {f : Rho → M D} {ρ : Rho} {b : Bool} (h : f ρ = ok (.bl b)) : notV f ρ = ok (.bl (!b)) := by unfold notV; rw [h]; rfl
theorem andV_ok {f g : Rho → M D} {ρ : Rho} {a b : Bool} (h1 : f ρ = ok (.bl a)) (h2 : g ρ = ok (.bl b)) : andV f g ρ = ok (.bl (a && b)) := by
  unfold andV
  rw [h1]
  show (if a = true then g ρ else ok (.bl false)) = _
  cases a
  · rfl
  · rw [if_pos rfl, h2]; rfl
theorem andV_f {f g : Rho → M D} {ρ : Rho} (h1 : f ρ = ok (.bl false)) : andV f g ρ = ok (.bl false) := by
  unfold andV
  rw [h1]
  rfl
theorem orV_ok {f g : Rho → M D} {ρ : Rho} {a b : Bool} (h1 : f ρ = ok (.bl a)) (h2 : g ρ = ok (.bl b)) : orV f g ρ = ok (.bl (a || b)) := by
  unfold orV
  rw [h1]
  show (if a = true then ok (.bl true) else g ρ) = _
  cases a
  · rw [if_neg (by decide), h2]; rfl
  · rfl
def fHolds (t : Adr) : Nat → List D → M D
  | 0 => fun _ => none
  | k + 1 => viaD 3 fun ds => fnRes (den_holds t (fHolds t k) (rho0 N_holds ds))
abbrev Rh4 (a b c d : D) : Rho := [some (.sh a), some (.sh b), some (.sh c), some (.sh d)]
theorem holds_sp (t : Adr) {h : List Str} {row : List D} (r : Rw h row) : ∀ (T : Tst) (k : Nat), T.wf → T.ht < k → (∀ c ∈ T.cols, h.contains c = true) → fHolds t k [T.d, tS h, .tup row] = ok (.bl (T.hold h row))
  | _, 0, _, q, _ => absurd q (Nat.not_lt_zero _)
  | .is c v, k + 1, hw, q, hc => by
    refine viaD_of rfl ?_
    have e0 : rho0 N_holds [(Tst.is c v).d, tS h, .tup row] = [some (.sh (Tst.is c v).d), some (.sh (tS h)), some (.sh (.tup row)), none] := rfl
    rw [e0]
    unfold den_holds
    rw [sSeq_nx (sSet_imm (d := .str "is") rfl rfl)]
    show fnRes (sSeq _ _ (Rh4 (Tst.is c v).d (tS h) (.tup row) (.str "is"))) = _
    have hcc := hc c (by simp [Tst.cols])
    have e1 : b2 gEq (b2 gIx (look 2) (tix (look 1) (b2 gIx (look 0) (con (.int 1))))) (b2 gIx (look 0) (con (.int 2))) (Rh4 (Tst.is c v).d (tS h) (.tup row) (.str "is")) = ok (.bl (eqD (val h row c) v)) :=
      b2_ok (at_ok' r hcc rfl rfl rfl) rfl (eq_flat (val_flat r hcc).1 hw)
    rw [sSeq_rt ((sIf_t ((wd (x := "is") rfl).trans (by rw [w1]))).trans (sSeq_rt (sRet_ok e1)))]
    rfl
  | .same a b, k + 1, hw, q, hc => by
    refine viaD_of rfl ?_
    have e0 : rho0 N_holds [(Tst.same a b).d, tS h, .tup row] = [some (.sh (Tst.same a b).d), some (.sh (tS h)), some (.sh (.tup row)), none] := rfl
    rw [e0]
    unfold den_holds
    rw [sSeq_nx (sSet_imm (d := .str "same") rfl rfl)]
    show fnRes (sSeq _ _ (Rh4 (Tst.same a b).d (tS h) (.tup row) (.str "same"))) = _
    have ha := hc a (by simp [Tst.cols])
    have hb := hc b (by simp [Tst.cols])
    have e1 : b2 gEq (b2 gIx (look 2) (tix (look 1) (b2 gIx (look 0) (con (.int 1))))) (b2 gIx (look 2) (tix (look 1) (b2 gIx (look 0) (con (.int 2))))) (Rh4 (Tst.same a b).d (tS h) (.tup row) (.str "same")) = ok (.bl (eqD (val h row a) (val h row b))) :=
      b2_ok (at_ok' r ha rfl rfl rfl) (at_ok' r hb rfl rfl rfl) (eq_flat (val_flat r ha).1 (val_flat r hb).1)
    rw [sSeq_nx ((sIf_f ((wd (x := "same") rfl).trans (by rw [w2]))).trans rfl), sSeq_rt ((sIf_t ((wd (x := "same") rfl).trans (by rw [w6]))).trans (sSeq_rt (sRet_ok e1)))]
    rfl
  | .no a, k + 1, hw, q, hc => by
    have q' : a.ht < k := by simp [Tst.ht] at q; omega
    have ih := holds_sp t r a k hw q' hc
    refine viaD_of rfl ?_
    have e0 : rho0 N_holds [(Tst.no a).d, tS h, .tup row] = [some (.sh (Tst.no a).d), some (.sh (tS h)), some (.sh (.tup row)), none] := rfl
    rw [e0]
    unfold den_holds
    rw [sSeq_nx (sSet_imm (d := .str "not") rfl rfl)]
    show fnRes (sSeq _ _ (Rh4 (Tst.no a).d (tS h) (.tup row) (.str "not"))) = _
    have e1 : app (fHolds t k) (aCons (b2 gIx (look 0) (con (.int 1))) (aCons (look 1) (aCons (look 2) aNil))) (Rh4 (Tst.no a).d (tS h) (.tup row) (.str "not")) = ok (.bl (a.hold h row)) := (app_ok (aCons_ok (d := a.d) rfl (aCons_ok (d := tS h) rfl (aCons_ok (d := .tup row) rfl aNil_ok)))).trans ih
    rw [sSeq_nx ((sIf_f ((wd (x := "not") rfl).trans (by rw [w3]))).trans rfl), sSeq_nx ((sIf_f ((wd (x := "not") rfl).trans (by rw [w7]))).trans rfl), sSeq_rt ((sIf_t ((wd (x := "not") rfl).trans (by rw [w10]))).trans (sSeq_rt (sRet_ok (notV_ok e1))))]
    rfl
  | .an a b, k + 1, hw, q, hc => by
    have q' : max a.ht b.ht < k := by simp [Tst.ht] at q; omega
    have iha := holds_sp t r a k hw.1 (by omega) (fun c h' => hc c (by simp [Tst.cols, h']))
    have ihb := holds_sp t r b k hw.2 (by omega) (fun c h' => hc c (by simp [Tst.cols, h']))
    refine viaD_of rfl ?_
    have e0 : rho0 N_holds [(Tst.an a b).d, tS h, .tup row] = [some (.sh (Tst.an a b).d), some (.sh (tS h)), some (.sh (.tup row)), none] := rfl
    rw [e0]
    unfold den_holds
    rw [sSeq_nx (sSet_imm (d := .str "and") rfl rfl)]
    show fnRes (sSeq _ _ (Rh4 (Tst.an a b).d (tS h) (.tup row) (.str "and"))) = _
    have e1 : app (fHolds t k) (aCons (b2 gIx (look 0) (con (.int 1))) (aCons (look 1) (aCons (look 2) aNil))) (Rh4 (Tst.an a b).d (tS h) (.tup row) (.str "and")) = ok (.bl (a.hold h row)) := (app_ok (aCons_ok (d := a.d) rfl (aCons_ok (d := tS h) rfl (aCons_ok (d := .tup row) rfl aNil_ok)))).trans iha
    have e2 : app (fHolds t k) (aCons (b2 gIx (look 0) (con (.int 2))) (aCons (look 1) (aCons (look 2) aNil))) (Rh4 (Tst.an a b).d (tS h) (.tup row) (.str "and")) = ok (.bl (b.hold h row)) := (app_ok (aCons_ok (d := b.d) rfl (aCons_ok (d := tS h) rfl (aCons_ok (d := .tup row) rfl aNil_ok)))).trans ihb
    rw [sSeq_nx ((sIf_f ((wd (x := "and") rfl).trans (by rw [w4]))).trans rfl), sSeq_nx ((sIf_f ((wd (x := "and") rfl).trans (by rw [w8]))).trans rfl), sSeq_nx ((sIf_f ((wd (x := "and") rfl).trans (by rw [w11]))).trans rfl), sSeq_rt ((sIf_t ((wd (x := "and") rfl).trans (by rw [w13]))).trans (sSeq_rt (sRet_ok (andV_ok e1 e2))))]
    rfl
  | .or a b, k + 1, hw, q, hc => by
    have q' : max a.ht b.ht < k := by simp [Tst.ht] at q; omega
    have iha := holds_sp t r a k hw.1 (by omega) (fun c h' => hc c (by simp [Tst.cols, h']))
    have ihb := holds_sp t r b k hw.2 (by omega) (fun c h' => hc c (by simp [Tst.cols, h']))
    refine viaD_of rfl ?_
    have e0 : rho0 N_holds [(Tst.or a b).d, tS h, .tup row] = [some (.sh (Tst.or a b).d), some (.sh (tS h)), some (.sh (.tup row)), none] := rfl
    rw [e0]
    unfold den_holds
    rw [sSeq_nx (sSet_imm (d := .str "or") rfl rfl)]
    show fnRes (sSeq _ _ (Rh4 (Tst.or a b).d (tS h) (.tup row) (.str "or"))) = _
    have e1 : app (fHolds t k) (aCons (b2 gIx (look 0) (con (.int 1))) (aCons (look 1) (aCons (look 2) aNil))) (Rh4 (Tst.or a b).d (tS h) (.tup row) (.str "or")) = ok (.bl (a.hold h row)) := (app_ok (aCons_ok (d := a.d) rfl (aCons_ok (d := tS h) rfl (aCons_ok (d := .tup row) rfl aNil_ok)))).trans iha
    have e2 : app (fHolds t k) (aCons (b2 gIx (look 0) (con (.int 2))) (aCons (look 1) (aCons (look 2) aNil))) (Rh4 (Tst.or a b).d (tS h) (.tup row) (.str "or")) = ok (.bl (b.hold h row)) := (app_ok (aCons_ok (d := b.d) rfl (aCons_ok (d := tS h) rfl (aCons_ok (d := .tup row) rfl aNil_ok)))).trans ihb
    rw [sSeq_nx ((sIf_f ((wd (x := "or") rfl).trans (by rw [w5]))).trans rfl), sSeq_nx ((sIf_f ((wd (x := "or") rfl).trans (by rw [w9]))).trans rfl), sSeq_nx ((sIf_f ((wd (x := "or") rfl).trans (by rw [w12]))).trans rfl), sSeq_nx ((sIf_f ((wd (x := "or") rfl).trans (by rw [w14]))).trans rfl), sSeq_rt (sRet_ok (orV_ok e1 e2))]
    rfl
/-! ### passes -/
def fPasses (t : Adr) (n : Nat) : List D → M D := viaX 3 fun ds => fnRes (den_passes t (fCheck t n) (fHolds t (n + 2)) (rho0 N_passes ds))
theorem passes_sp (t : Adr) {T : Tst} {n : Nat} {h : List Str} {row : List D} (r : Rw h row) (hw : T.wf) (hn : T.ht < n) (hl : T.cols.length < 64) (hs : ∀ x ∈ T.cols, Sh x) :
    fPasses t n [T.d, tS h, .tup row] = if T.cols.all (fun x => h.contains x) = true then ok (.bl (T.hold h row)) else err t.X_NoColumn := by
  refine viaX_of rfl ?_
  have e0 : rho0 N_passes [T.d, tS h, .tup row] = [some (.sh T.d), some (.sh (tS h)), some (.sh (.tup row))] := rfl
  rw [e0]
  have e1 : app (fCheck t n) (aCons (look 0) (aCons (look 1) aNil)) [some (.sh T.d), some (.sh (tS h)), some (.sh (.tup row))] = if T.cols.all (fun x => h.contains x) = true then ok .non else err t.X_NoColumn := (app_ok (aCons_ok (d := T.d) rfl (aCons_ok (d := tS h) rfl aNil_ok))).trans (check_sp t hw hn hl hs)
  unfold den_passes
  by_cases hc : T.cols.all (fun x => h.contains x) = true
  · rw [if_pos hc] at e1
    have d1 : sDrop (app (fCheck t n) (aCons (look 0) (aCons (look 1) aNil))) [some (.sh T.d), some (.sh (tS h)), some (.sh (.tup row))] = some (.nx [some (.sh T.d), some (.sh (tS h)), some (.sh (.tup row))]) := by unfold sDrop; rw [e1]; rfl
    have e2 : app (fHolds t (n + 2)) (aCons (look 0) (aCons (look 1) (aCons (look 2) aNil))) [some (.sh T.d), some (.sh (tS h)), some (.sh (.tup row))] = ok (.bl (T.hold h row)) := (app_ok (aCons_ok (d := T.d) rfl (aCons_ok (d := tS h) rfl (aCons_ok (d := .tup row) rfl aNil_ok)))).trans (holds_sp t r T (n + 2) hw (by omega) (List.all_eq_true.mp hc))
    rw [if_pos hc, sSeq_nx d1, sSeq_rt (sRet_ok e2)]
    rfl
  · rw [if_neg hc] at e1
    have d1 : sDrop (app (fCheck t n) (aCons (look 0) (aCons (look 1) aNil))) [some (.sh T.d), some (.sh (tS h)), some (.sh (.tup row))] = some (.ex t.X_NoColumn [some (.sh T.d), some (.sh (tS h)), some (.sh (.tup row))]) := by unfold sDrop; rw [e1]; rfl
    rw [if_neg hc, sSeq_ex d1]
    rfl
def fRefused (t : Adr) (n : Nat) : List D → M D := viaD 3 fun ds => fnRes (den_law_refused t (fPasses t n) (rho0 N_law_refused ds))
theorem refused_sp {K : PySem.W.Frag} {mg : Str → Option Value} {t : Adr} (X : Txt K mg t) {T : Tst} {n : Nat} {h : List Str} {row : List D} (r : Rw h row) (hw : T.wf) (hn : T.ht < n) (hl : T.cols.length < 64) (hs : ∀ x ∈ T.cols, Sh x) (hc : T.cols.all (fun x => h.contains x) = false) : fRefused t n [T.d, tS h, .tup row] = ok (.bl true) := by
  have h' : fPasses t n [T.d, tS h, .tup row] = some (.error t.X_NoColumn) := (passes_sp t r hw hn hl hs).trans (by rw [hc]; rfl)
  refine viaD_of rfl ?_
  have e0 : rho0 N_law_refused [T.d, tS h, .tup row] = [some (.sh T.d), some (.sh (tS h)), some (.sh (.tup row)), none, none] := rfl
  rw [e0]
  generalize T.d = a at h' ⊢
  generalize tS h = b at h' ⊢
  generalize D.tup row = c at h' ⊢
  simp [den_law_refused, sSeq, sSet, setV, sTry, sDrop, app, aCons, aNil, look, SV.cur, bnd, ok, lft, con, D.imm, free, SV.rel, h', hands, hm_NoColumn, aft, exs, km_WhenceError, km_ValueError, andV, blOf, sNil, sRet, fnRes]
/-! ### called otherwise -/
def fCC (t : Adr) : List D → M D := viaD 3 fun ds => fnRes (den_column_called t (rho0 N_column_called ds))
theorem cc_sp (t : Adr) (c x y : Str) : fCC t [.str c, .str x, .str y] = ok (.str (pt x y c)) := by
  refine viaD_of rfl ?_
  have e0 : rho0 N_column_called [.str c, .str x, .str y] = [some (.sh (.str c)), some (.sh (.str x)), some (.sh (.str y))] := rfl
  rw [e0]
  by_cases h : c = x
  · subst h
    simp [den_column_called, sSeq, sRet, ifV, testB, b2, look, SV.cur, bnd, ok, gEq, eqF, blOf, lft, fnRes, pt]
  · simp [den_column_called, sSeq, sRet, ifV, testB, b2, look, SV.cur, bnd, ok, gEq, eqF, blOf, lft, fnRes, pt, h]
def fPut (t : Adr) : List D → M D := viaD 3 fun ds => fnRes (den_law_put t (rho0 N_law_put ds))
theorem put_sp (t : Adr) (c x y : Str) : fPut t [.str c, .str x, .str y] = ok (.str (pt x y c)) := by
  refine viaD_of rfl ?_
  have e0 : rho0 N_law_put [.str c, .str x, .str y] = [some (.sh (.str c)), some (.sh (.str x)), some (.sh (.str y))] := rfl
  rw [e0]
  by_cases h : c = x
  · subst h
    simp [den_law_put, sSeq, sIf, sRet, sNil, testB, b2, look, SV.cur, bnd, ok, gEq, eqF, blOf, lft, fnRes, pt]
  · simp [den_law_put, sSeq, sIf, sRet, sNil, testB, b2, look, SV.cur, bnd, ok, gEq, eqF, blOf, lft, fnRes, pt, h]
def fTC (t : Adr) : Nat → List D → M D
  | 0 => fun _ => none
  | k + 1 => viaD 3 fun ds => fnRes (den_test_called t (fCC t) (fTC t k) (rho0 N_test_called ds))
theorem cmpL_all {k : Nat} {fe : Rho → M D} {ρ : Rho} {g : D → D} : ∀ (l : List D), (∀ x ∈ l, fe (ρ.set k (some (.sh x))) = ok (g x) ∧ (g x).imm = true) → cmpL [k] h1 (fun _ => ok true) fe l ρ = ok (l.map g)
  | [], _ => rfl
  | x :: l, h => by
    have ih := cmpL_all (g := g) l (fun y hy => h y (List.mem_cons_of_mem _ hy))
    obtain ⟨e1, e2⟩ := h x List.mem_cons_self
    unfold cmpL
    show (match fe (ρ.set k (some (.sh x))) with
        | some (.ok r) => if r.imm = true then bnd (cmpL [k] h1 (fun _ => ok true) fe l ρ) fun rs => ok (r :: rs) else none
        | _ => none) = _
    rw [e1, ih]
    show (if (g x).imm = true then bnd (ok (l.map g)) fun rs => ok (g x :: rs) else none) = _
    rw [if_pos e2]
    rfl
theorem tc_many {t : Adr} {F : List D → M D} {w x y : Str} {d : D} (ps qs : List D) (hx : d = .tup (.str w :: ps)) (h1' : decide (w = "is") = false) (h2' : decide (w = "same") = false) (hl : ps.length ≤ 1000)
    (h : cmpL [4] h1 (fun _ => ok true) (app F (aCons (look 4) (aCons (look 1) (aCons (look 2) aNil)))) ps [some (.sh d), some (.sh (.str x)), some (.sh (.str y)), some (.sh (.str w)), none] = ok qs) (hq : qs.length ≤ 1000) :
    fnRes (den_test_called t (fCC t) F (rho0 N_test_called [d, .str x, .str y])) = ok (.tup (.str w :: qs)) := by
  have e0 : rho0 N_test_called [d, .str x, .str y] = [some (.sh d), some (.sh (.str x)), some (.sh (.str y)), none] := rfl
  rw [e0]
  have i0 : b2 gIx (look 0) (con (.int 0)) [some (.sh d), some (.sh (.str x)), some (.sh (.str y)), none] = ok (.str w) := by
    subst hx
    exact b2_ok (x := .tup (.str w :: ps)) (y := .int ((0 : Nat) : Int)) rfl rfl (ix_tup rfl)
  unfold den_test_called
  rw [sSeq_nx (sSet_imm i0 rfl)]
  show fnRes (sSeq _ _ (Rh4 d (.str x) (.str y) (.str w))) = _
  rw [sSeq_nx ((sIf_f ((wd (x := w) rfl).trans (by rw [h1']))).trans rfl), sSeq_nx ((sIf_f ((wd (x := w) rfl).trans (by rw [h2']))).trans rfl)]
  have c1 : cut3 (look 0) (oPart (con (.int 1))) oNone (Rh4 d (.str x) (.str y) (.str w)) = ok (.tup ps) := by
    subst hx
    unfold cut3 oPart oNone con
    show ok (D.tup (cutD (.str w :: ps) (some ((1 : Nat) : Int)) none)) = _
    rw [cut_from _ (by rw [List.length_cons]; omega)]
    rfl
  have c2 : cmp 1 (itE (cut3 (look 0) (oPart (con (.int 1))) oNone)) [4] h1 (fun _ => ok true) (app F (aCons (look 4) (aCons (look 1) (aCons (look 2) aNil)))) (Rh4 d (.str x) (.str y) (.str w)) = ok (.lst qs) := by
    unfold cmp itE
    rw [c1]
    show bnd (ok ps) _ = _
    rw [bnd_ok, if_pos (by omega)]
    show bnd (cmpL [4] h1 (fun _ => ok true) _ ps [some (.sh d), some (.sh (.str x)), some (.sh (.str y)), some (.sh (.str w)), none]) _ = _
    rw [h]
    rfl
  have c3 : b2 gPlus (mkL (aCons (look 3) aNil)) (cmp 1 (itE (cut3 (look 0) (oPart (con (.int 1))) oNone)) [4] h1 (fun _ => ok true) (app F (aCons (look 4) (aCons (look 1) (aCons (look 2) aNil))))) (Rh4 d (.str x) (.str y) (.str w)) = ok (.lst (.str w :: qs)) := by
    refine b2_ok (x := .lst [.str w]) (mkL_ok (aCons_ok rfl aNil_ok)) c2 ?_
    show (if [D.str w].length + qs.length ≤ 100000 then _ else _) = _
    rw [if_pos (by simp; omega)]
    rfl
  rw [sSeq_rt (sRet_ok (show f1 toT _ _ = ok (.tup (.str w :: qs)) from by unfold f1; rw [c3]; rfl))]
  rfl
theorem tc_two {F : List D → M D} {a b a' b' d e : D} {x y : Str} (h1' : F [a, .str x, .str y] = ok a') (h2' : F [b, .str x, .str y] = ok b') (i1 : a'.imm = true) (i2 : b'.imm = true) :
    cmpL [4] h1 (fun _ => ok true) (app F (aCons (look 4) (aCons (look 1) (aCons (look 2) aNil)))) [a, b] [some (.sh d), some (.sh (.str x)), some (.sh (.str y)), some (.sh e), none] = ok [a', b'] := by
  have g : ∀ z r, F [z, .str x, .str y] = ok r → app F (aCons (look 4) (aCons (look 1) (aCons (look 2) aNil))) [some (.sh d), some (.sh (.str x)), some (.sh (.str y)), some (.sh e), some (.sh z)] = ok r := fun z r q => (app_ok (aCons_ok (d := z) rfl (aCons_ok (d := .str x) rfl (aCons_ok (d := .str y) rfl aNil_ok)))).trans q
  have st : ∀ (z : D) (l : List D), cmpL [4] h1 (fun _ => ok true) (app F (aCons (look 4) (aCons (look 1) (aCons (look 2) aNil)))) (z :: l) [some (.sh d), some (.sh (.str x)), some (.sh (.str y)), some (.sh e), none] = match app F (aCons (look 4) (aCons (look 1) (aCons (look 2) aNil))) [some (.sh d), some (.sh (.str x)), some (.sh (.str y)), some (.sh e), some (.sh z)] with
        | some (.ok r) => if r.imm = true then bnd (cmpL [4] h1 (fun _ => ok true) (app F (aCons (look 4) (aCons (look 1) (aCons (look 2) aNil)))) l [some (.sh d), some (.sh (.str x)), some (.sh (.str y)), some (.sh e), none]) fun rs => ok (r :: rs) else none
        | _ => none := fun z l => rfl
  rw [st, g a a' h1', st, g b b' h2']
  show (if a'.imm = true then bnd (if b'.imm = true then _ else none) _ else none) = _
  rw [if_pos i1, if_pos i2]
  rfl
theorem tc_sp (t : Adr) (x y : Str) : ∀ (T : Tst) (k : Nat), T.wf → T.ht < k → fTC t k [T.d, .str x, .str y] = ok (T.put x y).d
  | _, 0, _, h => absurd h (Nat.not_lt_zero _)
  | .is c v, k + 1, hw, h => by
    refine viaD_of rfl ?_
    have e0 : rho0 N_test_called [(Tst.is c v).d, .str x, .str y] = [some (.sh (Tst.is c v).d), some (.sh (.str x)), some (.sh (.str y)), none] := rfl
    rw [e0]
    unfold den_test_called
    rw [sSeq_nx (sSet_imm (d := .str "is") rfl rfl)]
    show fnRes (sSeq _ _ (Rh4 (Tst.is c v).d (.str x) (.str y) (.str "is"))) = _
    have e1 : app (fCC t) (aCons (b2 gIx (look 0) (con (.int 1))) (aCons (look 1) (aCons (look 2) aNil))) (Rh4 (Tst.is c v).d (.str x) (.str y) (.str "is")) = ok (.str (pt x y c)) := (app_ok (aCons_ok (d := .str c) rfl (aCons_ok (d := .str x) rfl (aCons_ok (d := .str y) rfl aNil_ok)))).trans (cc_sp t c x y)
    rw [sSeq_rt ((sIf_t ((wd (x := "is") rfl).trans (by rw [w1]))).trans (sSeq_rt (sRet_ok (mkT_ok (aCons_ok (d := .str "is") rfl (aCons_ok e1 (aCons_ok (d := v) rfl aNil_ok)))))))]
    rfl
  | .same a b, k + 1, hw, h => by
    refine viaD_of rfl ?_
    have e0 : rho0 N_test_called [(Tst.same a b).d, .str x, .str y] = [some (.sh (Tst.same a b).d), some (.sh (.str x)), some (.sh (.str y)), none] := rfl
    rw [e0]
    unfold den_test_called
    rw [sSeq_nx (sSet_imm (d := .str "same") rfl rfl)]
    show fnRes (sSeq _ _ (Rh4 (Tst.same a b).d (.str x) (.str y) (.str "same"))) = _
    have e1 : app (fCC t) (aCons (b2 gIx (look 0) (con (.int 1))) (aCons (look 1) (aCons (look 2) aNil))) (Rh4 (Tst.same a b).d (.str x) (.str y) (.str "same")) = ok (.str (pt x y a)) := (app_ok (aCons_ok (d := .str a) rfl (aCons_ok (d := .str x) rfl (aCons_ok (d := .str y) rfl aNil_ok)))).trans (cc_sp t a x y)
    have e2 : app (fCC t) (aCons (b2 gIx (look 0) (con (.int 2))) (aCons (look 1) (aCons (look 2) aNil))) (Rh4 (Tst.same a b).d (.str x) (.str y) (.str "same")) = ok (.str (pt x y b)) := (app_ok (aCons_ok (d := .str b) rfl (aCons_ok (d := .str x) rfl (aCons_ok (d := .str y) rfl aNil_ok)))).trans (cc_sp t b x y)
    rw [sSeq_nx ((sIf_f ((wd (x := "same") rfl).trans (by rw [w2]))).trans rfl), sSeq_rt ((sIf_t ((wd (x := "same") rfl).trans (by rw [w6]))).trans (sSeq_rt (sRet_ok (mkT_ok (aCons_ok (d := .str "same") rfl (aCons_ok e1 (aCons_ok e2 aNil_ok)))))))]
    rfl
  | .no a, k + 1, hw, h => by
    have h' : a.ht < k := by simp [Tst.ht] at h; omega
    have ih := tc_sp t x y a k hw h'
    refine viaD_of rfl (tc_many [a.d] [(a.put x y).d] rfl w3 w7 (by simp) ?_ (by simp))
    exact cmpL_all (g := fun _ => (a.put x y).d) [a.d] (fun z hz => by
      rw [List.mem_singleton] at hz
      subst hz
      exact ⟨(app_ok (aCons_ok (d := a.d) rfl (aCons_ok (d := .str x) rfl (aCons_ok (d := .str y) rfl aNil_ok)))).trans ih, Tst.imm (put_wf hw)⟩)
  | .an a b, k + 1, hw, h => by
    have h' : max a.ht b.ht < k := by simp [Tst.ht] at h; omega
    have iha := tc_sp t x y a k hw.1 (by omega)
    have ihb := tc_sp t x y b k hw.2 (by omega)
    refine viaD_of rfl (tc_many [a.d, b.d] [(a.put x y).d, (b.put x y).d] rfl w4 w8 (by simp) ?_ (by simp))
    exact tc_two iha ihb (Tst.imm (put_wf hw.1)) (Tst.imm (put_wf hw.2))
  | .or a b, k + 1, hw, h => by
    have h' : max a.ht b.ht < k := by simp [Tst.ht] at h; omega
    have iha := tc_sp t x y a k hw.1 (by omega)
    have ihb := tc_sp t x y b k hw.2 (by omega)
    refine viaD_of rfl (tc_many [a.d, b.d] [(a.put x y).d, (b.put x y).d] rfl w5 w9 (by simp) ?_ (by simp))
    exact tc_two iha ihb (Tst.imm (put_wf hw.1)) (Tst.imm (put_wf hw.2))
end K15

set_option Elab.async false
set_option linter.all false
set_option maxRecDepth 100000
set_option maxHeartbeats 4000000
namespace K15
open PySem PySem.Spec PyProof.Rows L2 L2.PU
theorem gti_ok {f g : Rho → M D} {ρ : Rho} {i j : Int} (h1 : f ρ = ok (.int i)) (h2 : g ρ = ok (.int j)) : b2 gGt f g ρ = ok (.bl (decide (j < i))) := b2_ok h1 h2 rfl
def fVal (t : Adr) : List D → M D := viaD 1 fun ds => fnRes (den_law_value t (rho0 N_law_value ds))
theorem val_sp (t : Adr) (b : Int) : ∃ v, fVal t [.int b] = ok v ∧ Flat v := by
  have e0 : rho0 N_law_value [.int b] = [some (.sh (.int b))] := rfl
  have m1 : b2 gMod (look 0) (con (.int 7)) [some (.sh (.int b))] = ok (.int (b % 7)) := mod_ok rfl rfl (by decide)
  have g1 : b2 gGt (b2 gMod (look 0) (con (.int 7))) (con (.int 4)) [some (.sh (.int b))] = ok (.bl (decide (4 < b % 7))) := gti_ok m1 rfl
  by_cases h : 4 < b % 7
  · rw [decide_eq_true h] at g1
    refine ⟨.int (b / 7 % 1000000000000000000000000000000000000000000000000000000000000 - 100000000000000000000), viaD_of rfl ?_, .inl ⟨_, rfl⟩⟩
    rw [e0]
    unfold den_law_value
    have p1 : b2 gPow (con (.int 10)) (con (.int 60)) [some (.sh (.int b))] = ok (.int 1000000000000000000000000000000000000000000000000000000000000) := by simp [b2, con, bnd, ok, gPow, p60]
    have p2 : b2 gPow (con (.int 10)) (con (.int 20)) [some (.sh (.int b))] = ok (.int 100000000000000000000) := by simp [b2, con, bnd, ok, gPow, p20]
    have e1 := mod_ok (fdiv_ok (f := look 0) (ρ := [some (.sh (.int b))]) (i := b) rfl (g := con (.int 7)) rfl (by decide) (by decide)) p1 (by decide)
    rw [sSeq_rt ((sIf_t (testB_ok g1)).trans (sSeq_rt (sRet_ok (b2_ok e1 p2 rfl))))]
    rfl
  · rw [decide_eq_false h] at g1
    have hb : b % 7 = 0 ∨ b % 7 = 1 ∨ b % 7 = 2 ∨ b % 7 = 3 ∨ b % 7 = 4 := by omega
    have l1 : mkL (aCons (con (.int 0)) (aCons (con (.int 1)) (aCons (con (.str "1")) (aCons (con (.str "")) (aCons (con (.str "b c")) aNil))))) [some (.sh (.int b))] = ok (.lst [.int 0, .int 1, .str "1", .str "", .str "b c"]) := mkL_ok (aCons_ok rfl (aCons_ok rfl (aCons_ok rfl (aCons_ok rfl (aCons_ok rfl aNil_ok)))))
    have fin : ∀ v, gIx (.lst [.int 0, .int 1, .str "1", .str "", .str "b c"]) (.int (b % 7)) = ok v → fVal t [.int b] = ok v := fun v hv => by
      refine viaD_of rfl ?_
      rw [e0]
      unfold den_law_value
      rw [sSeq_nx ((sIf_f (testB_ok g1)).trans rfl), sSeq_rt (sRet_ok (b2_ok l1 m1 hv))]
      rfl
    rcases hb with q | q | q | q | q <;> rw [q] at fin
    · exact ⟨.int 0, fin _ rfl, .inl ⟨_, rfl⟩⟩
    · exact ⟨.int 1, fin _ rfl, .inl ⟨_, rfl⟩⟩
    · exact ⟨.str "1", fin _ rfl, .inr ⟨_, rfl⟩⟩
    · exact ⟨.str "", fin _ rfl, .inr ⟨_, rfl⟩⟩
    · exact ⟨.str "b c", fin _ rfl, .inr ⟨_, rfl⟩⟩
/-! ### what is built -/
def bd (x y : Str) (T : Tst) (p : Bool) : D := .tup [T.d, (T.put x y).d, .lst (T.cols.map D.str), .bl p]
structure Gd (N h : List Str) (row : List D) (m c : Nat) (T : Tst) (p : Bool) : Prop where
  wf : T.wf
  ht : T.ht ≤ m
  len : T.cols.length ≤ c
  sub : ∀ z ∈ T.cols, z ∈ N
  ps : (∀ z ∈ T.cols, h.contains z = true) → p = T.hold h row
def optS (o : Option D) (i : Nat) (ρ : Rho) : Rho := match o with
  | none => ρ
  | some d => ρ.set i (some (.sh d))
theorem pick_col {h : List Str} {b d1 d2 : Int} {ρ : Rho} (i : Nat) (l1 : look 1 ρ = ok (tS h)) (l3 : look 3 ρ = ok (.int b)) (hd1 : 0 < d1 ∧ d1 < 1073741824) (hd2 : 0 < d2 ∧ d2 < 1073741824) :
    ∃ o : Option D, (∀ d, o = some d → ∃ c ∈ h, d = .str c) ∧ sIf (andB (testB (b2 gGt (f1 lenD (look 1)) (con (.int 0)))) (testB (b2 gGt (b2 gMod (b2 gFdiv (look 3) (con (.int d1))) (con (.int 12))) (con (.int 0))))) (sSeq (sSet i (b2 gIx (look 1) (b2 gMod (b2 gFdiv (look 3) (con (.int d2))) (f1 lenD (look 1)))))
    sNil) sNil ρ = some (.nx (optS o i ρ)) := by
  have z1 : f1 lenD (look 1) ρ = ok (.int h.length) := lenT_ok l1
  have t1 := testB_ok (gti_ok z1 (g := con (.int 0)) (j := 0) rfl)
  have t2 := testB_ok (gti_ok (mod_ok (fdiv_ok l3 (g := con (.int d1)) (j := d1) rfl hd1.1 hd1.2) (g := con (.int 12)) (j := 12) rfl (by decide)) (g := con (.int 0)) (j := 0) rfl)
  have tt := andB_ok t1 t2
  cases hc : (decide ((0 : Int) < (h.length : Int)) && decide (0 < b / d1 % 12)) with
  | false =>
    rw [hc] at tt
    exact ⟨none, (fun d e => nomatch e), (sIf_f tt).trans rfl⟩
  | true =>
    rw [hc] at tt
    have hp : (0 : Int) < (h.length : Int) := by
      rw [Bool.and_eq_true] at hc
      exact of_decide_eq_true hc.1
    obtain ⟨c, hcm, e⟩ := ixL_ok (x := h) (.inr l1) (mod_ok (fdiv_ok l3 (g := con (.int d2)) (j := d2) rfl hd2.1 hd2.2) z1 hp) (Int.emod_nonneg _ (by omega)) (Int.emod_lt_of_pos _ hp)
    refine ⟨some (.str c), (fun d e => ⟨c, hcm, by cases e; rfl⟩), ?_⟩
    rw [sIf_t tt, sSeq_nx (sSet_imm e rfl)]
    rfl
theorem pick_val {h : List Str} {row : List D} {b d1 d2 : Int} {ρ : Rho} (i : Nat) (r : Rw h row) (l1 : look 1 ρ = ok (tS h)) (l2 : look 2 ρ = ok (.tup row)) (l3 : look 3 ρ = ok (.int b)) (hd1 : 0 < d1 ∧ d1 < 1073741824) (hd2 : 0 < d2 ∧ d2 < 1073741824) :
    ∃ o : Option D, (∀ d, o = some d → Flat d) ∧ sIf (andB (testB (b2 gGt (f1 lenD (look 1)) (con (.int 0)))) (testB (b2 gEq (b2 gMod (b2 gFdiv (look 3) (con (.int d1))) (con (.int 3))) (con (.int 1))))) (sSeq (sSet i (b2 gIx (look 2) (b2 gMod (b2 gFdiv (look 3) (con (.int d2))) (f1 lenD (look 1)))))
    sNil) sNil ρ = some (.nx (optS o i ρ)) := by
  have z1 : f1 lenD (look 1) ρ = ok (.int h.length) := lenT_ok l1
  have t1 := testB_ok (gti_ok z1 (g := con (.int 0)) (j := 0) rfl)
  have t2 := testB_ok (eqi_ok (mod_ok (fdiv_ok l3 (g := con (.int d1)) (j := d1) rfl hd1.1 hd1.2) (g := con (.int 3)) (j := 3) rfl (by decide)) (g := con (.int 1)) (j := 1) rfl)
  have tt := andB_ok t1 t2
  cases hc : (decide ((0 : Int) < (h.length : Int)) && decide (b / d1 % 3 = 1)) with
  | false =>
    rw [hc] at tt
    exact ⟨none, (fun d e => nomatch e), (sIf_f tt).trans rfl⟩
  | true =>
    rw [hc] at tt
    have hp : (0 : Int) < (h.length : Int) := by
      rw [Bool.and_eq_true] at hc
      exact of_decide_eq_true hc.1
    have q0 := Int.emod_nonneg (b / d2) (b := (h.length : Int)) (by omega)
    have q1 := Int.emod_lt_of_pos (b / d2) hp
    have e1 := mod_ok (fdiv_ok l3 (g := con (.int d2)) (j := d2) rfl hd2.1 hd2.2) z1 hp
    obtain ⟨j, hj⟩ : ∃ j : Nat, b / d2 % (h.length : Int) = (j : Int) := ⟨(b / d2 % (h.length : Int)).toNat, by omega⟩
    rw [hj] at e1 q1
    have hjl : j < row.length := by rw [r.len]; omega
    have e : b2 gIx (look 2) (b2 gMod (b2 gFdiv (look 3) (con (.int d2))) (f1 lenD (look 1))) ρ = ok row[j] := b2_ok l2 e1 (ix_tup (List.getElem?_eq_getElem hjl))
    have hf := r.fl _ (List.getElem_mem hjl)
    refine ⟨some row[j], (fun d e => by cases e; exact hf), ?_⟩
    rw [sIf_t tt, sSeq_nx (sSet_imm e hf.imm)]
    rfl
abbrev Rb (N h : List Str) (row : List D) (b : Int) (x y : Str) (s6 s7 s8 s9 s10 : Option SV) : Rho := [some (.sh (.lst (N.map D.str))), some (.sh (tS h)), some (.sh (.tup row)), some (.sh (.int b)), some (.sh (.str x)), some (.sh (.str y)), s6, s7, s8, s9, s10]
def fBase (t : Adr) : List D → M D := viaD 6 fun ds => fnRes (den_law_base t (fPut t) (fVal t) (rho0 N_law_base ds))
theorem base_sp (t : Adr) {N h : List Str} {row : List D} {b : Int} {x y : Str} (hN : N.length = 6) (r : Rw h row) (hs : ∀ c ∈ h, c ∈ N) :
    ∃ T p, fBase t [.lst (N.map D.str), tS h, .tup row, .int b, .str x, .str y] = ok (bd x y T p) ∧ Gd N h row 0 2 T p := by
  have e0 : rho0 N_law_base [.lst (N.map D.str), tS h, .tup row, .int b, .str x, .str y] = Rb N h row b x y none none none none none := rfl
  have via : ∀ d, fnRes (den_law_base t (fPut t) (fVal t) (Rb N h row b x y none none none none none)) = ok d → fBase t [.lst (N.map D.str), tS h, .tup row, .int b, .str x, .str y] = ok d := fun d q => viaD_of rfl q
  obtain ⟨a0, ha0, e6⟩ := ixL_ok (f := look 0) (g := b2 gMod (b2 gFdiv (look 3) (con (.int 2))) (con (.int 5))) (ρ := Rb N h row b x y none none none none none) (x := N) (i := b / 2 % 5) (.inl rfl) (mod_ok (fdiv_ok rfl rfl (by decide) (by decide)) rfl (by decide)) (by omega) (by omega)
  obtain ⟨b0, hb0, e7⟩ := ixL_ok (f := look 0) (g := b2 gMod (b2 gFdiv (look 3) (con (.int 120))) (con (.int 5))) (ρ := Rb N h row b x y (some (.sh (.str a0))) none none none none) (x := N) (i := b / 120 % 5) (.inl rfl) (mod_ok (fdiv_ok rfl rfl (by decide) (by decide)) rfl (by decide)) (by omega) (by omega)
  obtain ⟨o1, ho1, p1⟩ := pick_col (h := h) (b := b) (d1 := 10) (d2 := 2) (ρ := Rb N h row b x y (some (.sh (.str a0))) (some (.sh (.str b0))) none none none) 6 rfl rfl (by decide) (by decide)
  have q1 : ∃ a ∈ N, optS o1 6 (Rb N h row b x y (some (.sh (.str a0))) (some (.sh (.str b0))) none none none) = Rb N h row b x y (some (.sh (.str a))) (some (.sh (.str b0))) none none none := by
    cases o1 with
    | none => exact ⟨a0, ha0, rfl⟩
    | some d => obtain ⟨c, hc, rfl⟩ := ho1 d rfl; exact ⟨c, hs c hc, rfl⟩
  obtain ⟨a, ha, q1⟩ := q1
  rw [q1] at p1
  obtain ⟨o2, ho2, p2⟩ := pick_col (h := h) (b := b) (d1 := 600) (d2 := 120) (ρ := Rb N h row b x y (some (.sh (.str a))) (some (.sh (.str b0))) none none none) 7 rfl rfl (by decide) (by decide)
  have q2 : ∃ c ∈ N, optS o2 7 (Rb N h row b x y (some (.sh (.str a))) (some (.sh (.str b0))) none none none) = Rb N h row b x y (some (.sh (.str a))) (some (.sh (.str c))) none none none := by
    cases o2 with
    | none => exact ⟨b0, hb0, rfl⟩
    | some d => obtain ⟨c, hc, rfl⟩ := ho2 d rfl; exact ⟨c, hs c hc, rfl⟩
  obtain ⟨c, hc, q2⟩ := q2
  rw [q2] at p2
  obtain ⟨v0, hv0, fv0⟩ := val_sp t (b / 7200)
  have e8 : app (fVal t) (aCons (b2 gFdiv (look 3) (con (.int 7200))) aNil) (Rb N h row b x y (some (.sh (.str a))) (some (.sh (.str c))) none none none) = ok v0 := (app_ok (aCons_ok (fdiv_ok (i := b) (j := 7200) rfl rfl (by decide) (by decide)) aNil_ok)).trans hv0
  obtain ⟨o3, ho3, p3⟩ := pick_val (h := h) (row := row) (b := b) (d1 := 7200) (d2 := 21600) (ρ := Rb N h row b x y (some (.sh (.str a))) (some (.sh (.str c))) (some (.sh v0)) none none) 8 r rfl rfl rfl (by decide) (by decide)
  have q3 : ∃ v, Flat v ∧ optS o3 8 (Rb N h row b x y (some (.sh (.str a))) (some (.sh (.str c))) (some (.sh v0)) none none) = Rb N h row b x y (some (.sh (.str a))) (some (.sh (.str c))) (some (.sh v)) none none := by
    cases o3 with
    | none => exact ⟨v0, fv0, rfl⟩
    | some d => exact ⟨d, ho3 d rfl, rfl⟩
  obtain ⟨v, fv, q3⟩ := q3
  rw [q3] at p3
  have e9 : b2 (gIn false) (look 6) (look 1) (Rb N h row b x y (some (.sh (.str a))) (some (.sh (.str c))) (some (.sh v)) none none) = ok (.bl (h.contains a)) := in_ok (neg := false) rfl rfl
  have st : den_law_base t (fPut t) (fVal t) (Rb N h row b x y none none none none none) = (sSeq (sIf (testB (b2 gEq (b2 gMod (look 3) (con (.int 2))) (con (.int 0)))) (sSeq (sSet 10 (andV (look 9) (b2 gEq (b2 gIx (look 2) (tix (look 1) (look 6))) (look 8))))
    (sSeq (sRet (mkT (aCons (mkT (aCons (con (.str "is")) (aCons (look 6) (aCons (look 8) aNil)))) (aCons (mkT (aCons (con (.str "is")) (aCons (app (fPut t) (aCons (look 6) (aCons (look 4) (aCons (look 5) aNil)))) (aCons (look 8) aNil)))) (aCons (mkL (aCons (look 6) aNil)) (aCons (look 10) aNil))))))
    sNil)) sNil)
    (sSeq (sSet 9 (andV (look 9) (b2 (gIn false) (look 7) (look 1))))
    (sSeq (sSet 10 (andV (look 9) (b2 gEq (b2 gIx (look 2) (tix (look 1) (look 6))) (b2 gIx (look 2) (tix (look 1) (look 7))))))
    (sSeq (sRet (mkT (aCons (mkT (aCons (con (.str "same")) (aCons (look 6) (aCons (look 7) aNil)))) (aCons (mkT (aCons (con (.str "same")) (aCons (app (fPut t) (aCons (look 6) (aCons (look 4) (aCons (look 5) aNil)))) (aCons (app (fPut t) (aCons (look 7) (aCons (look 4) (aCons (look 5) aNil)))) aNil)))) (aCons (mkL (aCons (look 6) (aCons (look 7) aNil))) (aCons (look 10) aNil))))))
    sNil)))) (Rb N h row b x y (some (.sh (.str a))) (some (.sh (.str c))) (some (.sh v)) (some (.sh (.bl (h.contains a)))) none) := by
    unfold den_law_base
    rw [sSeq_nx (sSet_imm e6 rfl)]
    show sSeq _ _ (Rb N h row b x y (some (.sh (.str a0))) none none none none) = _
    rw [sSeq_nx (sSet_imm e7 rfl)]
    show sSeq _ _ (Rb N h row b x y (some (.sh (.str a0))) (some (.sh (.str b0))) none none none) = _
    rw [sSeq_nx p1, sSeq_nx p2, sSeq_nx (sSet_imm e8 fv0.imm)]
    show sSeq _ _ (Rb N h row b x y (some (.sh (.str a))) (some (.sh (.str c))) (some (.sh v0)) none none) = _
    rw [sSeq_nx p3, sSeq_nx (sSet_imm e9 rfl)]
    rfl
  have tb := testB_ok (eqi_ok (mod_ok (f := look 3) (g := con (.int 2)) (ρ := Rb N h row b x y (some (.sh (.str a))) (some (.sh (.str c))) (some (.sh v)) (some (.sh (.bl (h.contains a)))) none) (i := b) (j := 2) rfl rfl (by decide)) (g := con (.int 0)) (j := 0) rfl)
  have pa : ∀ s9 s10, app (fPut t) (aCons (look 6) (aCons (look 4) (aCons (look 5) aNil))) (Rb N h row b x y (some (.sh (.str a))) (some (.sh (.str c))) (some (.sh v)) s9 s10) = ok (.str (pt x y a)) := fun _ _ => (app_ok (aCons_ok (d := .str a) rfl (aCons_ok (d := .str x) rfl (aCons_ok (d := .str y) rfl aNil_ok)))).trans (put_sp t a x y)
  have pc : ∀ s9 s10, app (fPut t) (aCons (look 7) (aCons (look 4) (aCons (look 5) aNil))) (Rb N h row b x y (some (.sh (.str a))) (some (.sh (.str c))) (some (.sh v)) s9 s10) = ok (.str (pt x y c)) := fun _ _ => (app_ok (aCons_ok (d := .str c) rfl (aCons_ok (d := .str x) rfl (aCons_ok (d := .str y) rfl aNil_ok)))).trans (put_sp t c x y)
  by_cases hb : b % 2 = 0
  · rw [decide_eq_true hb] at tb
    have e10 : andV (look 9) (b2 gEq (b2 gIx (look 2) (tix (look 1) (look 6))) (look 8)) (Rb N h row b x y (some (.sh (.str a))) (some (.sh (.str c))) (some (.sh v)) (some (.sh (.bl (h.contains a)))) none) = ok (.bl (h.contains a && eqD (val h row a) v)) := by
      cases hca : h.contains a with
      | false => exact andV_f rfl
      | true => exact andV_ok (a := true) rfl (b2_ok (at_ok' r hca rfl rfl rfl) rfl (eq_flat (val_flat r hca).1 fv))
    refine ⟨.is a v, h.contains a && eqD (val h row a) v, via _ ?_, ⟨fv, Nat.le_refl _, by simp [Tst.cols], by simpa [Tst.cols] using ha, fun q => ?_⟩⟩
    · rw [st, sSeq_rt ((sIf_t tb).trans ((sSeq_nx (sSet_imm e10 rfl)).trans (sSeq_rt (sRet_ok (mkT_ok (aCons_ok (mkT_ok (aCons_ok (d := .str "is") rfl (aCons_ok (d := .str a) rfl (aCons_ok (d := v) rfl aNil_ok)))) (aCons_ok (mkT_ok (aCons_ok (d := .str "is") rfl (aCons_ok (pa _ _) (aCons_ok (d := v) rfl aNil_ok)))) (aCons_ok (mkL_ok (aCons_ok (d := .str a) rfl aNil_ok)) (aCons_ok (d := .bl (h.contains a && eqD (val h row a) v)) rfl aNil_ok)))))))))]
      rfl
    · rw [q a (by simp [Tst.cols])]; rfl
  · rw [decide_eq_false hb] at tb
    have e9' : andV (look 9) (b2 (gIn false) (look 7) (look 1)) (Rb N h row b x y (some (.sh (.str a))) (some (.sh (.str c))) (some (.sh v)) (some (.sh (.bl (h.contains a)))) none) = ok (.bl (h.contains a && h.contains c)) := andV_ok rfl (in_ok (neg := false) rfl rfl)
    have e10 : andV (look 9) (b2 gEq (b2 gIx (look 2) (tix (look 1) (look 6))) (b2 gIx (look 2) (tix (look 1) (look 7)))) (Rb N h row b x y (some (.sh (.str a))) (some (.sh (.str c))) (some (.sh v)) (some (.sh (.bl (h.contains a && h.contains c)))) none) = ok (.bl ((h.contains a && h.contains c) && eqD (val h row a) (val h row c))) := by
      cases hca : (h.contains a && h.contains c) with
      | false => exact andV_f rfl
      | true =>
        rw [Bool.and_eq_true] at hca
        exact andV_ok (a := true) rfl (b2_ok (at_ok' r hca.1 rfl rfl rfl) (at_ok' r hca.2 rfl rfl rfl) (eq_flat (val_flat r hca.1).1 (val_flat r hca.2).1))
    refine ⟨.same a c, (h.contains a && h.contains c) && eqD (val h row a) (val h row c), via _ ?_, ⟨trivial, Nat.le_refl _, by simp [Tst.cols], ?_, fun q => ?_⟩⟩
    · rw [st, sSeq_nx ((sIf_f tb).trans rfl), sSeq_nx (sSet_imm e9' rfl)]
      show fnRes (sSeq _ _ (Rb N h row b x y (some (.sh (.str a))) (some (.sh (.str c))) (some (.sh v)) (some (.sh (.bl (h.contains a && h.contains c)))) none)) = _
      rw [sSeq_nx (sSet_imm e10 rfl)]
      show fnRes (sSeq _ _ (Rb N h row b x y (some (.sh (.str a))) (some (.sh (.str c))) (some (.sh v)) (some (.sh (.bl (h.contains a && h.contains c)))) (some (.sh (.bl ((h.contains a && h.contains c) && eqD (val h row a) (val h row c))))))) = _
      rw [sSeq_rt (sRet_ok (mkT_ok (aCons_ok (mkT_ok (aCons_ok (d := .str "same") rfl (aCons_ok (d := .str a) rfl (aCons_ok (d := .str c) rfl aNil_ok)))) (aCons_ok (mkT_ok (aCons_ok (d := .str "same") rfl (aCons_ok (pa _ _) (aCons_ok (pc _ _) aNil_ok)))) (aCons_ok (mkL_ok (aCons_ok (d := .str a) rfl (aCons_ok (d := .str c) rfl aNil_ok))) (aCons_ok (d := .bl ((h.contains a && h.contains c) && eqD (val h row a) (val h row c))) rfl aNil_ok))))))]
      rfl
    · intro z hz
      have hz' : z = a ∨ z = c := by simpa [Tst.cols] using hz
      rcases hz' with rfl | rfl
      · exact ha
      · exact hc
    · rw [q a (by simp [Tst.cols]), q c (by simp [Tst.cols])]; rfl
/-! ### grown by a word -/
def fGrown (t : Adr) : List D → M D := viaD 3 fun ds => fnRes (den_law_grown t (rho0 N_law_grown ds))
theorem catL_ok {f g : Rho → M D} {ρ : Rho} {x y : List Str} (h1 : f ρ = ok (.lst (x.map D.str))) (h2 : g ρ = ok (.lst (y.map D.str))) (hx : x.length ≤ 1000) (hy : y.length ≤ 1000) : b2 gPlus f g ρ = ok (.lst ((x ++ y).map D.str)) := by
  refine b2_ok h1 h2 ?_
  show (if (x.map D.str).length + (y.map D.str).length ≤ 100000 then ok (D.lst (x.map D.str ++ y.map D.str)) else none) = _
  rw [if_pos (by rw [List.length_map, List.length_map]; omega), ← List.map_append]
theorem grown_sp (t : Adr) {N h : List Str} {row : List D} {x y : Str} {m c : Nat} {T B : Tst} {p q : Bool} {w : Int} (hT : Gd N h row m c T p) (hB : Gd N h row 0 2 B q) (hc : c ≤ 900) (hw : 0 ≤ w ∧ w < 4) :
    ∃ T' p', fGrown t [bd x y T p, bd x y B q, .int w] = ok (bd x y T' p') ∧ Gd N h row (m + 1) (c + 2) T' p' := by
  have e0 : rho0 N_law_grown [bd x y T p, bd x y B q, .int w] = [some (.sh (bd x y T p)), some (.sh (bd x y B q)), some (.sh (.int w))] := rfl
  have via : ∀ d, fnRes (den_law_grown t [some (.sh (bd x y T p)), some (.sh (bd x y B q)), some (.sh (.int w))]) = ok d → fGrown t [bd x y T p, bd x y B q, .int w] = ok d := fun d q => viaD_of rfl q
  have tw : ∀ j : Int, testB (b2 gEq (look 2) (con (.int j))) [some (.sh (bd x y T p)), some (.sh (bd x y B q)), some (.sh (.int w))] = ok (decide (w = j)) := fun j => testB_ok (eqi_ok rfl rfl)
  have l1 := hT.len
  have l2 := hB.len
  have t1 := hT.ht
  have t2 := hB.ht
  have cat1 : b2 gPlus (b2 gIx (look 0) (con (.int 2))) (b2 gIx (look 1) (con (.int 2))) [some (.sh (bd x y T p)), some (.sh (bd x y B q)), some (.sh (.int w))] = ok (.lst ((T.cols ++ B.cols).map D.str)) := catL_ok rfl rfl (by omega) (by omega)
  have cat2 : b2 gPlus (b2 gIx (look 1) (con (.int 2))) (b2 gIx (look 0) (con (.int 2))) [some (.sh (bd x y T p)), some (.sh (bd x y B q)), some (.sh (.int w))] = ok (.lst ((B.cols ++ T.cols).map D.str)) := catL_ok rfl rfl (by omega) (by omega)
  have ww : w = 0 ∨ w = 1 ∨ w = 2 ∨ w = 3 := by omega
  rcases ww with rfl | rfl | rfl | rfl
  · refine ⟨.no T, !p, via _ ?_, ⟨hT.wf, by simp [Tst.ht]; omega, by simp [Tst.cols]; omega, hT.sub, fun z => by rw [hT.ps z]; rfl⟩⟩
    unfold den_law_grown
    rw [sSeq_rt ((sIf_t (tw 0)).trans (sSeq_rt (sRet_ok (mkT_ok (aCons_ok (mkT_ok (aCons_ok (d := .str "not") rfl (aCons_ok (d := T.d) rfl aNil_ok))) (aCons_ok (mkT_ok (aCons_ok (d := .str "not") rfl (aCons_ok (d := (T.put x y).d) rfl aNil_ok))) (aCons_ok (d := .lst (T.cols.map D.str)) rfl (aCons_ok (notV_ok (b := p) rfl) aNil_ok))))))))]
    rfl
  · refine ⟨.an T B, p && q, via _ ?_, ⟨⟨hT.wf, hB.wf⟩, by simp [Tst.ht]; omega, by simp [Tst.cols]; omega, fun z hz => ?_, fun z => ?_⟩⟩
    · unfold den_law_grown
      rw [sSeq_nx ((sIf_f (tw 0)).trans rfl), sSeq_rt ((sIf_t (tw 1)).trans (sSeq_rt (sRet_ok (mkT_ok (aCons_ok (mkT_ok (aCons_ok (d := .str "and") rfl (aCons_ok (d := T.d) rfl (aCons_ok (d := B.d) rfl aNil_ok)))) (aCons_ok (mkT_ok (aCons_ok (d := .str "and") rfl (aCons_ok (d := (T.put x y).d) rfl (aCons_ok (d := (B.put x y).d) rfl aNil_ok)))) (aCons_ok cat1 (aCons_ok (andV_ok (a := p) (b := q) rfl rfl) aNil_ok))))))))]
      rfl
    · rcases List.mem_append.mp hz with hz | hz
      · exact hT.sub z hz
      · exact hB.sub z hz
    · rw [hT.ps (fun k hk => z k (by simp [Tst.cols, hk])), hB.ps (fun k hk => z k (by simp [Tst.cols, hk]))]; rfl
  · refine ⟨.or B T, q || p, via _ ?_, ⟨⟨hB.wf, hT.wf⟩, by simp [Tst.ht]; omega, by simp [Tst.cols]; omega, fun z hz => ?_, fun z => ?_⟩⟩
    · unfold den_law_grown
      rw [sSeq_nx ((sIf_f (tw 0)).trans rfl), sSeq_nx ((sIf_f (tw 1)).trans rfl), sSeq_rt ((sIf_t (tw 2)).trans (sSeq_rt (sRet_ok (mkT_ok (aCons_ok (mkT_ok (aCons_ok (d := .str "or") rfl (aCons_ok (d := B.d) rfl (aCons_ok (d := T.d) rfl aNil_ok)))) (aCons_ok (mkT_ok (aCons_ok (d := .str "or") rfl (aCons_ok (d := (B.put x y).d) rfl (aCons_ok (d := (T.put x y).d) rfl aNil_ok)))) (aCons_ok cat2 (aCons_ok (orV_ok (a := q) (b := p) rfl rfl) aNil_ok))))))))]
      rfl
    · rcases List.mem_append.mp hz with hz | hz
      · exact hB.sub z hz
      · exact hT.sub z hz
    · rw [hT.ps (fun k hk => z k (by simp [Tst.cols, hk])), hB.ps (fun k hk => z k (by simp [Tst.cols, hk]))]; rfl
  · refine ⟨.an B T, q && p, via _ ?_, ⟨⟨hB.wf, hT.wf⟩, by simp [Tst.ht]; omega, by simp [Tst.cols]; omega, fun z hz => ?_, fun z => ?_⟩⟩
    · unfold den_law_grown
      rw [sSeq_nx ((sIf_f (tw 0)).trans rfl), sSeq_nx ((sIf_f (tw 1)).trans rfl), sSeq_nx ((sIf_f (tw 2)).trans rfl), sSeq_rt (sRet_ok (mkT_ok (aCons_ok (mkT_ok (aCons_ok (d := .str "and") rfl (aCons_ok (d := B.d) rfl (aCons_ok (d := T.d) rfl aNil_ok)))) (aCons_ok (mkT_ok (aCons_ok (d := .str "and") rfl (aCons_ok (d := (B.put x y).d) rfl (aCons_ok (d := (T.put x y).d) rfl aNil_ok)))) (aCons_ok cat2 (aCons_ok (andV_ok (a := q) (b := p) rfl rfl) aNil_ok))))))]
      rfl
    · rcases List.mem_append.mp hz with hz | hz
      · exact hB.sub z hz
      · exact hT.sub z hz
    · rw [hT.ps (fun k hk => z k (by simp [Tst.cols, hk])), hB.ps (fun k hk => z k (by simp [Tst.cols, hk]))]; rfl
end K15

set_option Elab.async false
set_option linter.all false
set_option maxRecDepth 100000
set_option maxHeartbeats 4000000
namespace K15
open PySem PySem.Spec PyProof.Rows L2 L2.PU
def _root_.Option.toSV (o : Option D) : Option SV := o.map SV.sh
theorem f1_ok {g : D → M D} {f : Rho → M D} {ρ : Rho} {d : D} {r : M D} (h : f ρ = ok d) (h2 : g d = r) : f1 g f ρ = r := by unfold f1; rw [h]; exact h2
def sLawS : List D → Prop := fun ds => ∃ ns : List Int, ds = [.lst (ns.map D.int)] ∧ ns.length ≤ 63
abbrev Rl (ns : List Int) (N : List Str) (s2 s3 s4 s5 s6 s7 s8 : Option SV) : Rho := [some (.sh (.lst (ns.map D.int))), some (.sh (.lst (N.map D.str))), s2, s3, s4, s5, s6, s7, s8]
theorem cut_some {ns : List Int} : ∃ cs : List Int, L2.PU.cutD (ns.map D.int) (some ((5 : Nat) : Int)) (some ((13 : Nat) : Int)) = cs.map D.int ∧ cs.length ≤ 8 := by
  unfold L2.PU.cutD
  rw [HT.sIx_nat, HT.sIx_nat, ← List.map_drop, ← List.map_take]
  refine ⟨_, rfl, ?_⟩
  rw [List.length_take, List.length_drop]
  omega
theorem vals_ok {t : Adr} {ns : List Int} {N h : List Str} (hh : h.length ≤ 5) : ∃ row : List D, cmp 1 (itR (f1 lenD (look 2))) [9] h1 (fun _ => ok true) (app (fVal t) (aCons (b2 gFdiv (app fMix (aCons (app fAt (aCons (look 0) (aCons (con (.int 2)) aNil))) aNil)) (b2 gPlus (b2 gFdiv (look 9) (con (.int 2))) (con (.int 1)))) aNil)) (Rl ns N (some (.sh (tS h))) none none none none none none) = ok (.lst row) ∧ Rw h row := by
  have hv : ∀ j : Nat, ∃ v, fVal t [.int (mix (atZ ns 2) / ((j : Int) / 2 + 1))] = ok v ∧ Flat v := fun j => val_sp t _
  refine ⟨(List.range h.length).map fun j => Classical.choose (hv j), ?_, ⟨by rw [List.length_map, List.length_range], ?_⟩⟩
  · refine cmp_rng (n := h.length) (lenT_ok rfl) (by omega) (fun j hj => ⟨?_, (Classical.choose_spec (hv j)).2.imm⟩)
    show app (fVal t) _ [some (.sh (.lst (ns.map D.int))), some (.sh (.lst (N.map D.str))), some (.sh (tS h)), none, none, none, none, none, none, some (.sh (.int (j : Int)))] = _
    have a2 : app fAt (aCons (look 0) (aCons (con (.int 2)) aNil)) [some (.sh (.lst (ns.map D.int))), some (.sh (.lst (N.map D.str))), some (.sh (tS h)), none, none, none, none, none, none, some (.sh (.int (j : Int)))] = ok (.int (atZ ns 2)) := at_app 2
    have m2 : app fMix (aCons (app fAt (aCons (look 0) (aCons (con (.int 2)) aNil))) aNil) [some (.sh (.lst (ns.map D.int))), some (.sh (.lst (N.map D.str))), some (.sh (tS h)), none, none, none, none, none, none, some (.sh (.int (j : Int)))] = ok (.int (mix (atZ ns 2))) := app_ok (aCons_ok a2 aNil_ok)
    have d2 : b2 gPlus (b2 gFdiv (look 9) (con (.int 2))) (con (.int 1)) [some (.sh (.lst (ns.map D.int))), some (.sh (.lst (N.map D.str))), some (.sh (tS h)), none, none, none, none, none, none, some (.sh (.int (j : Int)))] = ok (.int ((j : Int) / 2 + 1)) := add_ok (fdiv_ok rfl rfl (by decide) (by decide)) rfl
    exact (app_ok (aCons_ok (fdiv_ok m2 d2 (by omega) (by omega)) aNil_ok)).trans (Classical.choose_spec (hv j)).1
  · intro v hv'
    obtain ⟨j, _, rfl⟩ := List.mem_map.mp hv'
    exact (Classical.choose_spec (hv j)).2
theorem bd_not (x y : Str) (T : Tst) (p : Bool) : (bd x y T p).imm = false := by
  simp [bd, D.imm, immL]
theorem setV_any {i : Nat} {d : D} {ρ : Rho} (hf : free ρ = ρ) : setV i d ρ = ρ.set i (some (.sh d)) := by
  unfold setV
  split
  · rfl
  · rw [hf]
def bodyL (t : Adr) : Rho → Option Out := (sSeq (sSet 8 (app (fBase t) (aCons (look 1) (aCons (look 2) (aCons (look 3) (aCons (app fMix (aCons (look 7) aNil)) (aCons (look 4) (aCons (look 5) aNil))))))))
    (sSeq (sSet 6 (app (fGrown t) (aCons (look 6) (aCons (look 8) (aCons (b2 gMod (look 7) (con (.int 4))) aNil)))))
    sNil))
theorem law_den {K : PySem.W.Frag} {mg : Str → Option Value} {t : Adr} (X : Txt K mg t) : ∀ ds r, tt sLawS ds = some r → ∃ d, r = .ok d ∧ fnRes (den_law t fAt (fBase t) (fGrown t) fMix fName (fRefused t 10) (fSame 14) (fVal t) (fCols t 13) (fPasses t 11) (fTC t 13) (rho0 N_law ds)) = ok d := by
  intro ds r hr
  obtain ⟨hS, e⟩ := tt_inv hr
  clear hr
  subst e
  obtain ⟨ns, rfl, hns⟩ := hS
  refine ⟨_, rfl, ?_⟩
  have e0 : rho0 N_law [.lst (ns.map D.int)] = [some (.sh (.lst (ns.map D.int))), none, none, none, none, none, none, none, none] := rfl
  rw [e0]
  generalize hN : nms 6 (atZ ns 0 % 2000) = N
  have nl : N.length = 6 := by rw [← hN]; exact nms_len _ _
  have nsh : ∀ x ∈ N, Sh x := by rw [← hN]; exact nms_sh _ _
  have n1 : cmp 1 (itR (con (.int 6))) [9] h1 (fun _ => ok true) (app fName (aCons (b2 gMod (app fAt (aCons (look 0) (aCons (con (.int 0)) aNil))) (con (.int 2000))) (aCons (look 9) aNil))) [some (.sh (.lst (ns.map D.int))), none, none, none, none, none, none, none, none] = ok (.lst (N.map D.str)) := by
    rw [← hN]
    exact names_ok (n := 6) (st := atZ ns 0 % 2000) rfl (by decide) (by omega) (fun v => mod_ok (at_app 0) rfl (by decide)) (Nat.lt_succ_self 9)
  unfold den_law
  rw [sSeq_nx (sSet_any n1 rfl)]
  show fnRes (sSeq _ _ (Rl ns N none none none none none none none)) = _
  -- the head
  have a1 : app fAt (aCons (look 0) (aCons (con (.int 1)) aNil)) (Rl ns N none none none none none none none) = ok (.int (atZ ns 1)) := at_app 1
  obtain ⟨j, hj⟩ : ∃ j : Nat, atZ ns 1 % 5 = (j : Int) := ⟨(atZ ns 1 % 5).toNat, by omega⟩
  have c1 : f1 toT (cut3 (look 1) oNone (oPart (b2 gMod (app fAt (aCons (look 0) (aCons (con (.int 1)) aNil))) (con (.int 5))))) (Rl ns N none none none none none none none) = ok (tS (N.take j)) := by
    have m1 : b2 gMod (app fAt (aCons (look 0) (aCons (con (.int 1)) aNil))) (con (.int 5)) (Rl ns N none none none none none none none) = ok (.int (j : Int)) := by rw [← hj]; exact mod_ok a1 rfl (by decide)
    unfold f1 cut3 oPart oNone
    rw [m1]
    show ok (D.tup (L2.PU.cutD (N.map D.str) none (some (j : Int)))) = _
    rw [cut_to _ (by rw [List.length_map]; omega), ← List.map_take]
  rw [sSeq_nx (sSet_imm c1 (imm_tS _))]
  have hd : ∃ h : List Str, h.length ≤ 5 ∧ (∀ c ∈ h, c ∈ N) ∧ sIf (testB (b2 gEq (b2 gMod (b2 gFdiv (app fAt (aCons (look 0) (aCons (con (.int 1)) aNil))) (con (.int 5))) (con (.int 2))) (con (.int 1)))) (sSeq (sSet 2 (f1 revT (look 2)))
    sNil) sNil (Rl ns N (some (.sh (tS (N.take j)))) none none none none none none) = some (.nx (Rl ns N (some (.sh (tS h))) none none none none none none)) := by
    have tb := testB_ok (eqi_ok (mod_ok (fdiv_ok (at_app (ns := ns) (rest := [some (.sh (.lst (N.map D.str))), some (.sh (tS (N.take j))), none, none, none, none, none, none]) 1) (g := con (.int 5)) (j := 5) rfl (by decide) (by decide)) (g := con (.int 2)) (j := 2) rfl (by decide)) (g := con (.int 1)) (j := 1) rfl)
    have hl : (N.take j).length ≤ 5 := by rw [List.length_take]; omega
    by_cases hb : atZ ns 1 / 5 % 2 = 1
    · rw [decide_eq_true hb] at tb
      refine ⟨(N.take j).reverse, by rw [List.length_reverse]; exact hl, fun c hc => List.mem_of_mem_take (List.mem_reverse.mp hc), ?_⟩
      have rv : f1 revT (look 2) (Rl ns N (some (.sh (tS (N.take j)))) none none none none none none) = ok (tS (N.take j).reverse) := by
        show ok (D.tup ((N.take j).map D.str).reverse) = _
        rw [← List.map_reverse]
      exact (sIf_t tb).trans ((sSeq_nx (sSet_imm rv (imm_tS _))).trans rfl)
    · rw [decide_eq_false hb] at tb
      exact ⟨N.take j, hl, fun c hc => List.mem_of_mem_take hc, (sIf_f tb).trans rfl⟩
  obtain ⟨h, hl5, hsub, s2⟩ := hd
  show fnRes (sSeq _ _ (Rl ns N (some (.sh (tS (N.take j)))) none none none none none none)) = _
  rw [sSeq_nx s2]
  -- the row
  obtain ⟨row, v1, rw'⟩ := vals_ok (t := t) (ns := ns) (N := N) hl5
  have rimm : (D.tup row).imm = true := by
    have g : ∀ l : List D, (∀ v ∈ l, Flat v) → immL l = true := by
      intro l
      induction l with
      | nil => intro _; rfl
      | cons a r ih => intro q; rw [immL, (q a List.mem_cons_self).imm, ih (fun v hv => q v (List.mem_cons_of_mem _ hv))]; rfl
    exact g row rw'.fl
  rw [sSeq_nx (sSet_imm (i := 3) (d := .tup row) (f1_ok v1 rfl) rimm)]
  show fnRes (sSeq _ _ (Rl ns N (some (.sh (tS h))) (some (.sh (.tup row))) none none none none none)) = _
  -- the old and the new
  have a3 : app fAt (aCons (look 0) (aCons (con (.int 3)) aNil)) (Rl ns N (some (.sh (tS h))) (some (.sh (.tup row))) none none none none none) = ok (.int (atZ ns 3)) := at_app 3
  obtain ⟨x, hx, e4⟩ := ixL_ok (f := look 1) (x := N) (.inl rfl) (mod_ok a3 (g := con (.int 5)) (j := 5) rfl (by decide)) (by omega) (by omega)
  rw [sSeq_nx (sSet_imm e4 rfl)]
  show fnRes (sSeq _ _ (Rl ns N (some (.sh (tS h))) (some (.sh (.tup row))) (some (.sh (.str x))) none none none none)) = _
  have a3' : app fAt (aCons (look 0) (aCons (con (.int 3)) aNil)) (Rl ns N (some (.sh (tS h))) (some (.sh (.tup row))) (some (.sh (.str x))) none none none none) = ok (.int (atZ ns 3)) := at_app 3
  obtain ⟨y, hy, e5⟩ := ixL_ok (f := look 1) (x := N) (.inl rfl) (mod_ok (fdiv_ok a3' (g := con (.int 5)) (j := 5) rfl (by decide) (by decide)) (g := con (.int 6)) (j := 6) rfl (by decide)) (by omega) (by omega)
  rw [sSeq_nx (sSet_imm e5 rfl)]
  show fnRes (sSeq _ _ (Rl ns N (some (.sh (tS h))) (some (.sh (.tup row))) (some (.sh (.str x))) (some (.sh (.str y))) none none none)) = _
  -- the first test
  obtain ⟨T0, p0, b0, g0⟩ := base_sp t (b := mix (atZ ns 4)) (x := x) (y := y) nl rw' hsub
  have e6 : app (fBase t) (aCons (look 1) (aCons (look 2) (aCons (look 3) (aCons (app fMix (aCons (app fAt (aCons (look 0) (aCons (con (.int 4)) aNil))) aNil)) (aCons (look 4) (aCons (look 5) aNil)))))) (Rl ns N (some (.sh (tS h))) (some (.sh (.tup row))) (some (.sh (.str x))) (some (.sh (.str y))) none none none) = ok (bd x y T0 p0) :=
    (app_ok (aCons_ok (d := .lst (N.map D.str)) rfl (aCons_ok (d := tS h) rfl (aCons_ok (d := .tup row) rfl (aCons_ok (d := .int (mix (atZ ns 4))) (app_ok (aCons_ok (at_app 4) aNil_ok)) (aCons_ok (d := .str x) rfl (aCons_ok (d := .str y) rfl aNil_ok))))))).trans b0
  rw [sSeq_nx (sSet_any e6 rfl)]
  show fnRes (sSeq (sForE (cut3 (look 0) (oPart (con (.int 5))) (oPart (con (.int 13)))) (gN 7) (bodyL t)) _ (Rl ns N (some (.sh (tS h))) (some (.sh (.tup row))) (some (.sh (.str x))) (some (.sh (.str y))) (some (.sh (bd x y T0 p0))) none none)) = _
  -- the loop
  obtain ⟨cs, hcs, csl⟩ := cut_some (ns := ns)
  have k1 : cut3 (look 0) (oPart (con (.int 5))) (oPart (con (.int 13))) (Rl ns N (some (.sh (tS h))) (some (.sh (.tup row))) (some (.sh (.str x))) (some (.sh (.str y))) (some (.sh (bd x y T0 p0))) none none) = ok (.lst (cs.map D.int)) := by
    rw [← hcs]
    rfl
  obtain ⟨ρ', lp, T, p, o7, o8, rfl, gd⟩ := loop_inv0 (G := gN 7) (F := bodyL t) (fun q ρ => ∃ T p o7 o8, ρ = Rl ns N (some (.sh (tS h))) (some (.sh (.tup row))) (some (.sh (.str x))) (some (.sh (.str y))) (some (.sh (bd x y T p))) (o7 : Option D).toSV (o8 : Option D).toSV ∧ Gd N h row q.length (2 * q.length + 2) T p) (cs.map D.int)
    (Rl ns N (some (.sh (tS h))) (some (.sh (.tup row))) (some (.sh (.str x))) (some (.sh (.str y))) (some (.sh (bd x y T0 p0))) none none) ⟨T0, p0, none, none, rfl, g0⟩ (fun q d q' ρ e hI => by
      obtain ⟨T, p, o7, o8, rfl, gd⟩ := hI
      have hq : q.length < 8 := by
        have := congrArg List.length e
        rw [List.length_append, List.length_cons, List.length_map] at this
        omega
      have hdm : d ∈ cs.map D.int := by rw [e]; exact List.mem_append_right _ List.mem_cons_self
      obtain ⟨c, _, rfl⟩ := List.mem_map.mp hdm
      obtain ⟨B, pb, b1, gb⟩ := base_sp t (b := mix c) (x := x) (y := y) nl rw' hsub
      obtain ⟨T', p', r1, gd'⟩ := grown_sp t (x := x) (y := y) (w := c % 4) gd gb (by omega) (by omega)
      refine ⟨Rl ns N (some (.sh (tS h))) (some (.sh (.tup row))) (some (.sh (.str x))) (some (.sh (.str y))) (some (.sh (bd x y T p))) (some (.sh (.int c))) o8.toSV, Rl ns N (some (.sh (tS h))) (some (.sh (.tup row))) (some (.sh (.str x))) (some (.sh (.str y))) (some (.sh (bd x y T' p'))) (some (.sh (.int c))) (some (.sh (bd x y B pb))), rfl, .inl ?_, T', p', some (.int c), some (bd x y B pb), rfl, ?_⟩
      · have e8 : app (fBase t) (aCons (look 1) (aCons (look 2) (aCons (look 3) (aCons (app fMix (aCons (look 7) aNil)) (aCons (look 4) (aCons (look 5) aNil)))))) (Rl ns N (some (.sh (tS h))) (some (.sh (.tup row))) (some (.sh (.str x))) (some (.sh (.str y))) (some (.sh (bd x y T p))) (some (.sh (.int c))) o8.toSV) = ok (bd x y B pb) :=
          (app_ok (aCons_ok (d := .lst (N.map D.str)) rfl (aCons_ok (d := tS h) rfl (aCons_ok (d := .tup row) rfl (aCons_ok (d := .int (mix c)) (app_ok (aCons_ok (d := .int c) rfl aNil_ok)) (aCons_ok (d := .str x) rfl (aCons_ok (d := .str y) rfl aNil_ok))))))).trans b1
        unfold bodyL
        rw [sSeq_nx (sSet_any e8 (by cases o8 <;> rfl))]
        show sSeq _ _ (Rl ns N (some (.sh (tS h))) (some (.sh (.tup row))) (some (.sh (.str x))) (some (.sh (.str y))) (some (.sh (bd x y T p))) (some (.sh (.int c))) (some (.sh (bd x y B pb)))) = _
        have e9 : app (fGrown t) (aCons (look 6) (aCons (look 8) (aCons (b2 gMod (look 7) (con (.int 4))) aNil))) (Rl ns N (some (.sh (tS h))) (some (.sh (.tup row))) (some (.sh (.str x))) (some (.sh (.str y))) (some (.sh (bd x y T p))) (some (.sh (.int c))) (some (.sh (bd x y B pb)))) = ok (bd x y T' p') :=
          (app_ok (aCons_ok (d := bd x y T p) rfl (aCons_ok (d := bd x y B pb) rfl (aCons_ok (d := .int (c % 4)) (mod_ok rfl rfl (by decide)) aNil_ok)))).trans r1
        rw [sSeq_nx (sSet_any e9 rfl)]
        rfl
      · rw [List.length_append]
        exact gd')
  have s7 : sForE (cut3 (look 0) (oPart (con (.int 5))) (oPart (con (.int 13)))) (gN 7) (bodyL t) (Rl ns N (some (.sh (tS h))) (some (.sh (.tup row))) (some (.sh (.str x))) (some (.sh (.str y))) (some (.sh (bd x y T0 p0))) none none) = some (.nx (Rl ns N (some (.sh (tS h))) (some (.sh (.tup row))) (some (.sh (.str x))) (some (.sh (.str y))) (some (.sh (bd x y T p))) o7.toSV o8.toSV)) := by
    rw [sForE_ok k1 rfl]
    exact lp
  rw [sSeq_nx s7]
  rw [List.length_map] at gd
  have gh := gd.ht
  have gl := gd.len
  -- the columns
  have q1 : app (fSame 14) (aCons (app (fCols t 13) (aCons (b2 gIx (look 6) (con (.int 0))) aNil)) (aCons (f1 srtD (f1 toS (b2 gIx (look 6) (con (.int 2))))) aNil)) (Rl ns N (some (.sh (tS h))) (some (.sh (.tup row))) (some (.sh (.str x))) (some (.sh (.str y))) (some (.sh (bd x y T p))) o7.toSV o8.toSV) = ok (.bl true) := by
    rw [app_ok (aCons_ok (d := .lst ((csS T.cols).map D.str)) ((app_ok (aCons_ok (d := T.d) rfl aNil_ok)).trans (cols_sp t gd.wf (by omega) (by omega))) (aCons_ok (srt_ok (l := T.cols) rfl (by omega)) aNil_ok))]
    have hz : (csS T.cols).length ≤ 1000 := Nat.le_trans (cs_len _) (by omega)
    exact fSame_self (pl_tS (csS T.cols) hz) (Nat.lt_of_le_of_lt (dep_tS (csS T.cols)) (by decide))
  rw [sSeq_nx (pass_not q1)]
  -- called otherwise
  have q2 : app (fSame 14) (aCons (app (fTC t 13) (aCons (b2 gIx (look 6) (con (.int 0))) (aCons (look 4) (aCons (look 5) aNil)))) (aCons (b2 gIx (look 6) (con (.int 1))) aNil)) (Rl ns N (some (.sh (tS h))) (some (.sh (.tup row))) (some (.sh (.str x))) (some (.sh (.str y))) (some (.sh (bd x y T p))) o7.toSV o8.toSV) = ok (.bl true) := by
    rw [app_ok (aCons_ok (d := (T.put x y).d) ((app_ok (aCons_ok (d := T.d) rfl (aCons_ok (d := .str x) rfl (aCons_ok (d := .str y) rfl aNil_ok)))).trans (tc_sp t x y T 13 gd.wf (by omega))) (aCons_ok (d := (T.put x y).d) rfl aNil_ok))]
    exact fSame_self (Tst.pl (put_wf gd.wf)) (by rw [Tst.dep (put_wf gd.wf), put_ht]; omega)
  rw [sSeq_nx (pass_not q2)]
  -- does it pass
  have q3 : f1 anyD (cmp 1 (itE (b2 gIx (look 6) (con (.int 2)))) [9] h1 (fun _ => ok true) (b2 (gIn true) (look 9) (look 2))) (Rl ns N (some (.sh (tS h))) (some (.sh (.tup row))) (some (.sh (.str x))) (some (.sh (.str y))) (some (.sh (bd x y T p))) o7.toSV o8.toSV) = ok (.bl (T.cols.any fun c => !h.contains c)) := by
    have fr : free (Rl ns N (some (.sh (tS h))) (some (.sh (.tup row))) (some (.sh (.str x))) (some (.sh (.str y))) (some (.sh (bd x y T p))) o7.toSV o8.toSV) = Rl ns N (some (.sh (tS h))) (some (.sh (.tup row))) (some (.sh (.str x))) (some (.sh (.str y))) (some (.sh (bd x y T p))) o7.toSV o8.toSV := by cases o7 <;> cases o8 <;> rfl
    have c3 := cmp_ok (m := 1) (k := 9) (it := itE (b2 gIx (look 6) (con (.int 2)))) (ft := fun _ => ok true) (fe := b2 (gIn true) (look 9) (look 2)) (ρ := Rl ns N (some (.sh (tS h))) (some (.sh (.tup row))) (some (.sh (.str x))) (some (.sh (.str y))) (some (.sh (bd x y T p))) o7.toSV o8.toSV) (l := T.cols) (p := fun _ => true) (g := fun c => .bl (!h.contains c)) rfl (by omega) (fun _ _ => rfl) (fun c _ _ => ⟨by rw [fr]; exact in_ok (neg := true) rfl rfl, rfl⟩)
    unfold f1
    rw [c3, List.filter_eq_self.mpr (fun _ _ => rfl)]
    show (match blL (T.cols.map fun c => D.bl (!h.contains c)) with | some bs => ok (D.bl (bs.any id)) | none => none) = _
    rw [blL_map]
    show ok (D.bl ((T.cols.map fun c => !h.contains c).any id)) = _
    rw [List.any_map]
    rfl
  have tb := test_bl q3
  have hsh : ∀ z ∈ T.cols, Sh z := fun z hz => nsh z (gd.sub z hz)
  cases hc : T.cols.any (fun c => !h.contains c) with
  | true =>
    rw [hc] at tb
    have hall : T.cols.all (fun x => h.contains x) = false := by
      rw [List.any_eq_true] at hc
      obtain ⟨z, hz, hz2⟩ := hc
      rw [List.all_eq_false]
      exact ⟨z, hz, by simpa using hz2⟩
    have q4 : app (fRefused t 10) (aCons (b2 gIx (look 6) (con (.int 0))) (aCons (look 2) (aCons (look 3) aNil))) (Rl ns N (some (.sh (tS h))) (some (.sh (.tup row))) (some (.sh (.str x))) (some (.sh (.str y))) (some (.sh (bd x y T p))) o7.toSV o8.toSV) = ok (.bl true) := (app_ok (aCons_ok (d := T.d) rfl (aCons_ok (d := tS h) rfl (aCons_ok (d := .tup row) rfl aNil_ok)))).trans (refused_sp X rw' gd.wf (by omega) (by omega) hsh hall)
    rw [sSeq_rt ((sIf_t tb).trans (sSeq_rt (sRet_ok q4)))]
    rfl
  | false =>
    rw [hc] at tb
    have hall : T.cols.all (fun x => h.contains x) = true := by
      rw [List.any_eq_false] at hc
      rw [List.all_eq_true]
      intro z hz
      have := hc z hz
      simpa using this
    have q4 : app (fSame 14) (aCons (app (fPasses t 11) (aCons (b2 gIx (look 6) (con (.int 0))) (aCons (look 2) (aCons (look 3) aNil)))) (aCons (b2 gIx (look 6) (con (.int 3))) aNil)) (Rl ns N (some (.sh (tS h))) (some (.sh (.tup row))) (some (.sh (.str x))) (some (.sh (.str y))) (some (.sh (bd x y T p))) o7.toSV o8.toSV) = ok (.bl true) := by
      rw [app_ok (aCons_ok (d := .bl p) ((app_ok (aCons_ok (d := T.d) rfl (aCons_ok (d := tS h) rfl (aCons_ok (d := .tup row) rfl aNil_ok)))).trans ((passes_sp t rw' gd.wf (by omega) (by omega) hsh).trans (by rw [if_pos hall, gd.ps (List.all_eq_true.mp hall)]))) (aCons_ok (d := .bl p) rfl aNil_ok))]
      exact fSame_self rfl (show 0 < 14 by decide)
    rw [sSeq_nx ((sIf_f tb).trans rfl), sSeq_rt (sRet_ok q4)]
    rfl
section
variable {P : Program} {w : World} {K : PySem.W.Frag} {mg : Str → Option Value} {base : Heap} {t : Adr}
theorem same_ok (X : Txt K mg t) : ∀ k, Def P w K mg base k "_law_same" (fSame k)
  | 0 => by
    obtain ⟨fd, Fu, bi⟩ := X.F_law_same
    exact ⟨_, _, _, X.g_law_same, Fu.kp, bi, fSame_len 0, fn_none fSame_zero⟩
  | k + 1 => ok_law_same X (same_ok X k) (fSame_len _) (same_den N_law_same rfl)
theorem told_ok (X : Txt K mg t) : ∀ k, Def P w K mg base k "columns_told" (fTold t k)
  | 0 => by
    obtain ⟨fd, Fu, bi⟩ := X.F_columns_told
    exact ⟨_, _, _, X.g_columns_told, Fu.kp, bi, (fun _ _ h => nomatch h), fn_none (fun _ => rfl)⟩
  | k + 1 => ok_columns_told X (told_ok X k) viaD_len viaD_q
theorem holds_ok (X : Txt K mg t) : ∀ k, Def P w K mg base k "holds" (fHolds t k)
  | 0 => by
    obtain ⟨fd, Fu, bi⟩ := X.F_holds
    exact ⟨_, _, _, X.g_holds, Fu.kp, bi, (fun _ _ h => nomatch h), fn_none (fun _ => rfl)⟩
  | k + 1 => ok_holds X (holds_ok X k) viaD_len viaD_q
theorem cc_ok (X : Txt K mg t) : ∀ k, Def P w K mg base (k + 1) "column_called" (fCC t) := fun k => ok_column_called X viaD_len viaD_q
theorem tc_ok (X : Txt K mg t) : ∀ k, Def P w K mg base (k + 1) "test_called" (fTC t k)
  | 0 => by
    obtain ⟨fd, Fu, bi⟩ := X.F_test_called
    exact ⟨_, _, _, X.g_test_called, Fu.kp, bi, (fun _ _ h => nomatch h), fn_none (fun _ => rfl)⟩
  | k + 1 => ok_test_called X (cc_ok X k) (tc_ok X k) viaD_len viaD_q
theorem passes_ok (X : Txt K mg t) (n : Nat) : Def P w K mg base (n + 3) "passes" (fPasses t n) := ok_passes X (k := n + 2) (ok_check_columns X (k := n + 1) (ok_columns_of X (k := n) (told_ok X n) viaD_len viaD_q) viaX_len viaX_q) (holds_ok X (n + 2)) viaX_len viaX_q
theorem law_fn (X : Txt K mg t) {fd : FuncData} (Fu : Fun K "law" "law" s_law t.f_law fd) : FnD P w K mg base 15 t.f_law fd ["_law_script"] (tt sLawS) :=
  fnd_law X Fu (k := 14) (ok_law_at X (k := 13) fAt_len (at_den N_law_at rfl)) (ok_law_base X (k := 13) (ok_law_put X (k := 12) viaD_len viaD_q) (ok_law_value X (k := 12) viaD_len viaD_q) viaD_len viaD_q) (ok_law_grown X (k := 13) viaD_len viaD_q)
    (ok_law_mix X (k := 13) fMix_len (mix_den N_law_mix rfl)) (ok_law_name X (k := 13) fName_len (name_den N_law_name rfl)) (ok_law_refused X (k := 13) (passes_ok X 10) viaD_len viaD_q) (same_ok X 14) (ok_law_value X (k := 13) viaD_len viaD_q)
    (ok_columns_of X (k := 13) (told_ok X 13) viaD_len viaD_q) (passes_ok X 11) (tc_ok X 13)
    (by intro ds r h; obtain ⟨ns, rfl, _⟩ := (tt_inv h).1; rfl) (law_den X)
end
end K15

set_option Elab.async false
set_option linter.all false
set_option maxRecDepth 100000
set_option maxHeartbeats 4000000
namespace K15
open PySem PySem.Spec PyProof.Rows L2 L2.PU
def spLaw (K : PySem.W.Frag) : Sp := fun vs H Q _ => ∃ (a : Addr) (ns : List Int), vs = [.ref a] ∧ SqL K H a (ns.map V.int) ∧ ns.length ≤ 63 ∧ ∀ H', Q (.bl true) H'
theorem walk {l : PySem.W.OpenLaw} {q : Program} {loose : List Str} {XP : (Str → Option Value) → Heap → Prop} {YP : World → Heap → Prop} {d : DefRec} {K : Params → PySem.W.Frag} (hn : l.most = some 63) (hdf : d.params.defaults = []) (hnm : d.name = "law")
    (hY : ∀ (w : World) (h : Heap), YP w h → (K w.params).In h)
    (T : ∀ (w : World) (mg : Str → Option Value) (h : Heap), (K w.params).In h → h.Ns mainGlobals mg → ∃ t, Txt (K w.params) mg t) :
    PySem.W.WalkO q loose XP YP l.row.toRowW d [] (fun f vs => PySem.call f vs) := by
  refine L2.walk_of (n := 63) (k := 15) (x := "_law_script") (CX := fun w => CXD l.prog w) (sp := fun w => spLaw (K w.params)) hn (by decide) hdf ⟨rfl, by decide, by decide⟩ hY (fun w mg fa h KX G hmg => ?_) (fun _ _ a ns hl _ hS => ⟨a, ns, rfl, hS, hl, fun _ => rfl⟩) (fun w H s e s' ⟨_, _, _, _, _, _, _, _, z⟩ => z)
  obtain ⟨t, T⟩ := T w mg h KX G
  have e := hmg.symm.trans ((congrArg mg hnm).trans T.g_law)
  cases e
  obtain ⟨fd, Fu, bi⟩ := T.F_law
  refine ⟨fd, fun s v => ?_, fun base _ _ => ?_⟩
  · obtain ⟨oc, od, kV, doc, pm, an, cdv, ct, osl, rfl, lk, hcd⟩ := Fu.ex
    exact .of_eq rfl
  · refine (law_fn (P := l.prog) (w := w) (base := base) T Fu).imp fun vs H Q E ⟨a, ns, e1, hS, hl, q⟩ => ?_
    subst e1
    refine ⟨[.lst (ns.map D.int)], .cons (.lst hS (isL_ints ns)) .nil, rfl, ?_⟩
    rw [tt_ok (show sLawS _ from ⟨ns, rfl, hl⟩)]
    intro v H' s' i'
    cases i'
    exact q H'
end K15
open PySem PySem.W PyProof.Rows
set_option maxRecDepth 100000 in
set_option maxHeartbeats 0 in
theorem PySem.Challenge.cw_whence_k15_tests_holds : PySem.Challenge.rw_whence_k15_tests.Holds := by
  w_on; o_law; k_head; (case hw => w_witness2)
  k_fill
  refine K15.walk (l := PySem.Challenge.rw_whence_k15_tests) rfl rfl rfl (fun w h Y => PySem.W.kIn_of Y) ?T
  case T =>
    intro w mg h KX G
    refine' K15.txt_mk KX G ?aX_WhenceError ?xiX_WhenceError ?aX_NoColumn ?xiX_NoColumn ?xkNoColumn_ValueError ?xkNoColumn_WhenceError ?xmNoColumn_NoColumn ?xmWhenceError_NoColumn ?xmWhenceError_WhenceError ?af_columns_of ?lf_columns_of ?cf_columns_of ?kf_columns_of ?af_columns_told ?lf_columns_told ?cf_columns_told ?kf_columns_told ?af_check_columns ?lf_check_columns ?cf_check_columns ?kf_check_columns ?af_passes ?lf_passes ?cf_passes ?kf_passes ?af_holds ?lf_holds ?cf_holds ?kf_holds ?af_test_called ?lf_test_called ?cf_test_called ?kf_test_called ?af_column_called ?lf_column_called ?cf_column_called ?kf_column_called ?af_law_at ?lf_law_at ?cf_law_at ?kf_law_at ?af_law_same ?lf_law_same ?cf_law_same ?kf_law_same ?af_law_mix ?lf_law_mix ?cf_law_mix ?kf_law_mix ?af_law_name ?lf_law_name ?cf_law_name ?kf_law_name ?af_law_value ?lf_law_value ?cf_law_value ?kf_law_value ?af_law_put ?lf_law_put ?cf_law_put ?kf_law_put ?af_law_base ?lf_law_base ?cf_law_base ?kf_law_base ?af_law_refused ?lf_law_refused ?cf_law_refused ?kf_law_refused ?af_law_grown ?lf_law_grown ?cf_law_grown ?kf_law_grown ?af_law ?lf_law ?cf_law ?kf_law ?zValueError ?zany ?zbool ?zint ?zisinstance ?zlen ?zlist ?zrange ?zreversed ?zset ?zsorted ?zstr ?ztuple
    (case aX_WhenceError => k_is)
    (case xiX_WhenceError => k_exc)
    (case aX_NoColumn => k_is)
    (case xiX_NoColumn => k_exc)
    (case xkNoColumn_ValueError => kit_is)
    (case xkNoColumn_WhenceError => kit_is)
    (case xmNoColumn_NoColumn => kts_exm)
    (case xmWhenceError_NoColumn => kts_exm)
    (case xmWhenceError_WhenceError => kts_exm)
    (case af_columns_of => k_is)
    (case lf_columns_of => k_is)
    (case cf_columns_of => k_is)
    (case kf_columns_of => k_is)
    (case af_columns_told => k_is)
    (case lf_columns_told => k_is)
    (case cf_columns_told => k_is)
    (case kf_columns_told => k_is)
    (case af_check_columns => k_is)
    (case lf_check_columns => k_is)
    (case cf_check_columns => k_is)
    (case kf_check_columns => k_is)
    (case af_passes => k_is)
    (case lf_passes => k_is)
    (case cf_passes => k_is)
    (case kf_passes => k_is)
    (case af_holds => k_is)
    (case lf_holds => k_is)
    (case cf_holds => k_is)
    (case kf_holds => k_is)
    (case af_test_called => k_is)
    (case lf_test_called => k_is)
    (case cf_test_called => k_is)
    (case kf_test_called => k_is)
    (case af_column_called => k_is)
    (case lf_column_called => k_is)
    (case cf_column_called => k_is)
    (case kf_column_called => k_is)
    (case af_law_at => k_is)
    (case lf_law_at => k_is)
    (case cf_law_at => k_is)
    (case kf_law_at => k_is)
    (case af_law_same => k_is)
    (case lf_law_same => k_is)
    (case cf_law_same => k_is)
    (case kf_law_same => k_is)
    (case af_law_mix => k_is)
    (case lf_law_mix => k_is)
    (case cf_law_mix => k_is)
    (case kf_law_mix => k_is)
    (case af_law_name => k_is)
    (case lf_law_name => k_is)
    (case cf_law_name => k_is)
    (case kf_law_name => k_is)
    (case af_law_value => k_is)
    (case lf_law_value => k_is)
    (case cf_law_value => k_is)
    (case kf_law_value => k_is)
    (case af_law_put => k_is)
    (case lf_law_put => k_is)
    (case cf_law_put => k_is)
    (case kf_law_put => k_is)
    (case af_law_base => k_is)
    (case lf_law_base => k_is)
    (case cf_law_base => k_is)
    (case kf_law_base => k_is)
    (case af_law_refused => k_is)
    (case lf_law_refused => k_is)
    (case cf_law_refused => k_is)
    (case kf_law_refused => k_is)
    (case af_law_grown => k_is)
    (case lf_law_grown => k_is)
    (case cf_law_grown => k_is)
    (case kf_law_grown => k_is)
    (case af_law => k_is)
    (case lf_law => k_is)
    (case cf_law => k_is)
    (case kf_law => k_is)
    (case zValueError => k_is)
    (case zany => k_is)
    (case zbool => k_is)
    (case zint => k_is)
    (case zisinstance => k_is)
    (case zlen => k_is)
    (case zlist => k_is)
    (case zrange => k_is)
    (case zreversed => k_is)
    (case zset => k_is)
    (case zsorted => k_is)
    (case zstr => k_is)
    (case ztuple => k_is)
