import PyProof.Rows.All
import Wide.All
import OpenK.AllK
import Wide.FinOn
import Lean
import PyProof.EqAt
import PyProof.EqKinds
import PyProof.TupleCall
import KE.KMinKey
import PyProof.Rows.Range3
import PySem.Challenge.RW_branchdepth_k12_three_terms_and_squares

set_option Elab.async false
set_option linter.all false
set_option maxRecDepth 100000
/-! THE HAND LAYER, for ints, bools, texts, own classes, LISTS and tuples (index, slices, in, append, pop ..), calls, loops. Paste it whole ahead of your own text; what your proof does not reach may be deleted. -/
namespace L2
open PySem PySem.Spec PyProof.Rows

/-- a key: an int or a str -/
abbrev Key := Sum Int Str
def keyIs : Key → Value → Bool
  | .inl k, v => Value.isInt k v
  | .inr x, v => Value.isStrOf x v
def keyH (w : World) : Key → Int
  | .inl k => hashInt k
  | .inr x => hashStr w x
theorem keyIs_shape : ∀ {k : Key} {v : Value}, keyIs k v = true → (∃ i t, k = Sum.inl i ∧ v = Value.int i t) ∨ (∃ x t, k = Sum.inr x ∧ v = Value.str x t)
  | .inl i, v, h => by
    obtain ⟨t, e⟩ := Value.isInt_shape (k := i) (v := v) h
    exact .inl ⟨i, t, rfl, e⟩
  | .inr x, v, h => by
    obtain ⟨t, e⟩ := Value.isStrOf_shape (x := x) (v := v) h
    exact .inr ⟨x, t, rfl, e⟩
theorem keyIs_int (i : Int) (t : Tok) : keyIs (.inl i) (.int i t) = true := by simp [keyIs, Value.isInt]
theorem keyIs_str (x : Str) (t : Tok) : keyIs (.inr x) (.str x t) = true := by simp [keyIs, Value.isStrOf]
theorem key_ll (a b : Int) : decide ((Sum.inl a : Key) = Sum.inl b) = (a == b) := by
  by_cases e : a = b
  · subst e; simp
  · have h : ¬ (Sum.inl a : Key) = Sum.inl b := fun q => e (Sum.inl.inj q)
    rw [decide_eq_false h]
    exact (beq_eq_false_iff_ne.mpr e).symm
theorem key_rr (a b : Str) : decide ((Sum.inr a : Key) = Sum.inr b) = decide (a = b) := by
  by_cases e : a = b
  · subst e; simp
  · have h : ¬ (Sum.inr a : Key) = Sum.inr b := fun q => e (Sum.inr.inj q)
    rw [decide_eq_false h, decide_eq_false e]
theorem key_lr (a : Int) (b : Str) : decide ((Sum.inl a : Key) = Sum.inr b) = false := decide_eq_false (fun q => nomatch q)
theorem key_rl (a : Str) (b : Int) : decide ((Sum.inr a : Key) = Sum.inl b) = false := decide_eq_false (fun q => nomatch q)

def mixKind (prog : Program) (w : World) : PySem.KeyKind prog w Key where
  is := keyIs
  hash := keyH w
  inj := fun v a b ha hb => by
    rcases keyIs_shape ha with ⟨i, t, rfl, rfl⟩ | ⟨x, t, rfl, rfl⟩
    · rcases keyIs_shape hb with ⟨j, u, rfl, e⟩ | ⟨y, u, rfl, e⟩
      · injection e with e1 _; rw [e1]
      · exact nomatch e
    · rcases keyIs_shape hb with ⟨j, u, rfl, e⟩ | ⟨y, u, rfl, e⟩
      · exact nomatch e
      · injection e with e1 _; rw [e1]
  byValue := fun k v h => by
    rcases keyIs_shape h with ⟨i, t, rfl, rfl⟩ | ⟨x, t, rfl, rfl⟩ <;> rfl
  pyHash := fun hv h => by
    rcases keyIs_shape hv with ⟨i, t, rfl, rfl⟩ | ⟨x, t, rfl, rfl⟩
    · exact wpAny_pyHash_int h
    · exact wpAny_pyHash_str h
  eqBool := fun hu hv h => by
    rcases keyIs_shape hu with ⟨i, t, rfl, rfl⟩ | ⟨x, t, rfl, rfl⟩
    · rcases keyIs_shape hv with ⟨j, u, rfl, rfl⟩ | ⟨y, u, rfl, rfl⟩
      · rw [key_ll] at h; exact wpAny_eqBool_int h
      · rw [key_lr] at h; exact SeqAt.EqAt.int_str i t y u _ _ _ _ h
    · rcases keyIs_shape hv with ⟨j, u, rfl, rfl⟩ | ⟨y, u, rfl, rfl⟩
      · rw [key_rl] at h; exact SeqAt.EqAt.str_int x t j u _ _ _ _ h
      · rw [key_rr] at h; exact wpAny_eqBool_str h
  «strs» := fun k x t v h => by
    rcases keyIs_shape h with ⟨i, u, rfl, e⟩ | ⟨y, u, rfl, e⟩
    · exact nomatch e
    · injection e with e1 _
      subst e1
      cases v <;> rfl

theorem mixKind_is (prog : Program) (w : World) (k : Key) (v : Value) : (mixKind prog w).is k v = keyIs k v := rfl
theorem mixKind_int (prog : Program) (w : World) (i : Int) (t : Tok) : (mixKind prog w).is (.inl i) (.int i t) = true := keyIs_int i t
theorem mixKind_str (prog : Program) (w : World) (x : Str) (t : Tok) : (mixKind prog w).is (.inr x) (.str x t) = true := keyIs_str x t
end L2

namespace L2
open PySem PySem.Spec PyProof.Rows

/-- a value, without the heap -/
inductive V where
  | non | bl (b : Bool) | int (i : Int) | str (x : Str) | byt (b : Array UInt8) | flt (b : UInt64) | ref (a : Addr) | ty (n : String)
  deriving DecidableEq

def RelV : V → Value → Prop
  | .non, u => u = Value.none
  | .bl b, u => u = Value.bool b
  | .int i, u => ∃ t, u = Value.int i t
  | .str x, u => ∃ t, u = Value.str x t
  | .byt b, u => ∃ t, u = Value.bytes b t
  | .flt b, u => ∃ t, u = Value.float b t
  | .ref a, u => u = Value.ref a
  | .ty n, u => u = Value.type n

abbrev Vals : List V → List Value → Prop := Paired RelV
theorem Vals.length {xs : List V} {us : List Value} (r : Vals xs us) : xs.length = us.length := Paired.length r
theorem Vals.get : ∀ {xs : List V} {us : List Value} {i : Nat} {x : V}, Vals xs us → xs[i]? = some x → ∃ u, us[i]? = some u ∧ RelV x u
  | _, _, _, _, .nil, e => by simp at e
  | _, _, 0, _, .cons r _, e => by simp at e; subst e; exact ⟨_, rfl, r⟩
  | _, _, i + 1, x, .cons _ t, e => by
    obtain ⟨u, h1, h2⟩ := Vals.get (i := i) (x := x) t (by simpa using e)
    exact ⟨u, by simpa using h1, h2⟩
theorem Vals.set {x : V} {u : Value} (r : RelV x u) : ∀ {xs : List V} {us : List Value} (i : Nat), Vals xs us → Vals (xs.set i x) (us.set i u)
  | _, _, _, .nil => .nil
  | _, _, 0, .cons _ t => .cons r t
  | _, _, i + 1, .cons q t => .cons q (Vals.set r i t)
theorem Vals.append : ∀ {xs ys : List V} {us ws : List Value}, Vals xs us → Vals ys ws → Vals (xs ++ ys) (us ++ ws)
  | _, _, _, _, .nil, s => s
  | _, _, _, _, .cons r t, s => .cons r (Vals.append t s)
theorem Vals.take : ∀ {xs : List V} {us : List Value} (n : Nat), Vals xs us → Vals (xs.take n) (us.take n)
  | _, _, 0, _ => .nil
  | _, _, _ + 1, .nil => .nil
  | _, _, n + 1, .cons r t => .cons r (Vals.take n t)
theorem Vals.drop : ∀ {xs : List V} {us : List Value} (n : Nat), Vals xs us → Vals (xs.drop n) (us.drop n)
  | _, _, 0, r => r
  | _, _, _ + 1, .nil => .nil
  | _, _, n + 1, .cons _ t => Vals.drop n t
theorem Vals.none_of : ∀ {xs : List V} {us : List Value} {i : Nat}, Vals xs us → xs[i]? = none → us[i]? = none := fun {xs us i} r e => by
  have h1 := r.length
  have h2 : xs.length ≤ i := List.getElem?_eq_none_iff.mp e
  exact List.getElem?_eq_none_iff.mpr (by omega)

def RelO : Option V → Option Value → Prop
  | some v, some u => RelV v u
  | none, none => True
  | _, _ => False
def KV {κ : Type} : List (κ × V) → List (κ × Value) → Prop := Paired fun (p : κ × V) (q : κ × Value) => p.1 = q.1 ∧ RelV p.2 q.2

/-- a key of a dict (00_mix): an int or a text -/
def kV : Key → V
  | .inl i => .int i
  | .inr x => .str x

/-- what stands at a tracked address -/
inductive HO where
  /-- a list -/
  | lst (xs : List V)
  /-- a tuple (never changes) -/
  | tup (xs : List V)
  /-- a dict whose keys are ints and texts; one whose keys are tuples of ints and texts (the empty one is both) -/
  | dK (kvs : List (Key × V)) | dT (kvs : List (List Key × V))
  /-- a set of ints: its members, its size -/
  | set (S : Int → Bool) (n : Nat)
  /-- an instance of the class at C, its dict at dx, its attributes -/
  | ins (C dx : Addr) (fs : List (Str × V))
  /-- the dict of the instance at x -/
  | own (x : Addr)
  /-- the dict of an exception -/
  | xd (fs : List (Str × V))
  /-- a bound method, f of x -/
  | met (f x : Addr)
  /-- a range object lo, lo + 1, .. below hi -/
  | rng (lo hi : Int)
  /-- a thing that is known to the object (the script; a dict while a loop walks it): read, never written while it is so -/
  | frz (o : Obj) (u : HO)
  /-- a code object's table -/
  | tbl (ps : Array Value)
  /-- any other thing, by what is true of its one object (a def of one's own: SetO a S n := HO.ext fun h => ..) -/
  | ext (φ : Heap → Prop)

abbrev Hp := Addr → Option HO
def upd (H : Hp) (a : Addr) (o : HO) : Hp := fun b => if b = a then some o else H b
theorem upd_same {H : Hp} {a : Addr} {o : HO} : upd H a o a = some o := by unfold upd; rw [if_pos rfl]
theorem upd_ne {H : Hp} {a b : Addr} {o : HO} (h : b ≠ a) : upd H a o b = H b := by unfold upd; rw [if_neg h]
theorem upd_upd {H : Hp} {a : Addr} {o u : HO} : upd (upd H a o) a u = upd H a u := by
  funext b; unfold upd; split <;> rfl
/-- two objects of different content stand apart -/
theorem ne_of {H : Hp} {a b : Addr} {o u : HO} (h : H a = some o) (h' : H b = some u) (d : o ≠ u) : a ≠ b := by
  intro e; subst e; rw [h] at h'; exact d (Option.some.inj h')
theorem ne_of_none {H : Hp} {a b : Addr} {o : HO} (h : H a = some o) (h' : H b = none) : a ≠ b := by
  intro e; subst e; rw [h] at h'; cases h'

section
variable (P : Program) (w : World)
def ObjOk (H : Hp) (h : Heap) (a : Addr) : HO → Prop
  | .lst xs => xs.length ≤ sizeLine ∧ ∃ (its : List Value) (n : Nat), Vals xs its ∧ h.get? a = some { cls := .type "list", data := .seq its.toArray n }
  | .tup xs => xs.length ≤ sizeLine ∧ ∃ its : List Value, Vals xs its ∧ IsTup h a its.toArray
  | .dK kvs => kvs.length ≤ sizeLine ∧ (a == sysModules) = false ∧ ∃ vs, KV kvs vs ∧ h.DictOf (mixKind P w) a vs
  | .dT kvs => kvs.length ≤ sizeLine ∧ (a == sysModules) = false ∧ ∃ xs : List (List Key × Addr × Value),
      Paired (fun (p : List Key × V) (q : List Key × Addr × Value) => p.1 = q.1 ∧ H q.2.1 = some (.tup (p.1.map kV)) ∧ RelV p.2 q.2.2) kvs xs ∧
      ∃ o es ep, h.get? a = some o ∧ o.ExactDict ∧ o.data = .dict es ep ∧ es.toList = xs.map (entryOfKey (tupleKind (mixKind P w))) ∧ (xs.map (·.1)).Nodup
  | .set S n => h.SetOf (intKind P w) a S n
  | .ins C dx fs => H dx = some (.own a) ∧ fs.length ≤ 1000 ∧ dx ≠ a ∧ h.get? a = some (PySem.W.instObj C dx) ∧
      ∃ mA, h.Ns1 dx mA ∧ (∀ f, RelO (fs.lookup f) (mA f)) ∧ PySem.Within mA (fs.map (·.1))
  | .own _ => ∃ o, h.get? a = some o
  | .xd fs => ∃ mA, h.Ns1 a mA ∧ ∀ f, RelO (fs.lookup f) (mA f)
  | .rng lo hi => ∃ t u v, h.get? a = some { cls := .type "range", data := .fields #[.int lo t, .int hi u, .int 1 v] }
  | .frz o u => h.get? a = some o ∧ ObjOk H h a u
  | .tbl ps => h.get? a = some { cls := .none, data := .fields ps }
  | .met f x => h.get? a = some (PySem.W.methodObj (.ref f) (.ref x))
  | .ext φ => φ h ∧ (∃ o, h.get? a = some o) ∧ ∀ h1 h2 : Heap, φ h1 → (∀ o, h1.get? a = some o → h2.get? a = some o) → φ h2
/-- the abstract heap is held -/
def HOk (H : Hp) (h : Heap) : Prop := ∀ a o, H a = some o → ObjOk P w H h a o
end

section
variable {P : Program} {w : World} {H H' : Hp} {h h' : Heap} {a : Addr} {o : HO}
theorem ObjOk.lt (x : ObjOk P w H h a o) : a < h.objs.size := by
  cases o with
  | lst xs => obtain ⟨_, _, _, _, e⟩ := x; exact Heap.lt_size e
  | tup xs => obtain ⟨_, _, _, p⟩ := x; exact p.lt
  | dK kvs => obtain ⟨_, _, _, _, o, _, _, e, _⟩ := x; exact Heap.lt_size e
  | dT kvs => obtain ⟨_, _, _, _, o, _, _, e, _⟩ := x; exact Heap.lt_size e
  | set S n => obtain ⟨o, _, _, _, e, _⟩ := x; exact Heap.lt_size e
  | ins C dx fs => obtain ⟨_, _, _, e, _⟩ := x; exact Heap.lt_size e
  | own y => obtain ⟨_, e⟩ := x; exact Heap.lt_size e
  | xd fs => obtain ⟨_, ⟨_, _, _, e, _⟩, _⟩ := x; exact Heap.lt_size e
  | rng lo hi => obtain ⟨_, _, _, e⟩ := x; exact Heap.lt_size e
  | frz ob u => obtain ⟨e, _⟩ := x; exact Heap.lt_size e
  | tbl ps => exact Heap.lt_size (show h.get? a = some _ from x)
  | met f y => exact Heap.lt_size (show h.get? a = some _ from x)
  | ext φ => obtain ⟨_, ⟨_, e⟩, _⟩ := x; exact Heap.lt_size e
theorem Paired.mapP {α β : Type} {F G : α → β → Prop} : ∀ {l₁ : List α} {l₂ : List β}, Paired F l₁ l₂ → (∀ a b, F a b → G a b) → Paired G l₁ l₂
  | _, _, .nil, _ => .nil
  | _, _, .cons r t, f => .cons (f _ _ r) (Paired.mapP t f)
theorem Paired.imp' {α β : Type} {F G : α → β → Prop} (f : ∀ a b, F a b → G a b) {l₁ : List α} {l₂ : List β} (r : Paired F l₁ l₂) : Paired G l₁ l₂ := Paired.mapP r f
/-- what an object's description leans on: its own object, its own dict, the tuples -/
theorem ObjOk.stay (x : ObjOk P w H h a o) (k : ∀ b u, (b = a ∨ H b = some (.own a)) → h.get? b = some u → h'.get? b = some u)
    (ho : ∀ b, H b = some (.own a) → H' b = some (.own a)) (ht : ∀ b xs, H b = some (.tup xs) → H' b = some (.tup xs)) : ObjOk P w H' h' a o := by
  induction o with
  | lst xs => obtain ⟨z, its, n, r, e⟩ := x; exact ⟨z, its, n, r, k _ _ (.inl rfl) e⟩
  | tup xs => obtain ⟨z, its, r, ob, e, c⟩ := x; exact ⟨z, its, r, ob, k _ _ (.inl rfl) e, c⟩
  | dK kvs => obtain ⟨z, y, vs, r, ob, es, ep, e, c⟩ := x; exact ⟨z, y, vs, r, ob, es, ep, k _ _ (.inl rfl) e, c⟩
  | dT kvs =>
    obtain ⟨z, y, xs, r, ob, es, ep, e, c⟩ := x
    exact ⟨z, y, xs, Paired.mapP r fun p q z => ⟨z.1, ht _ _ z.2.1, z.2.2⟩, ob, es, ep, k _ _ (.inl rfl) e, c⟩
  | set S n => obtain ⟨ob, es, ep, t, e, c⟩ := x; exact ⟨ob, es, ep, t, k _ _ (.inl rfl) e, c⟩
  | ins C dx fs =>
    obtain ⟨d, z, ne, e, mA, ⟨od, es, ep, e2, c⟩, r⟩ := x
    exact ⟨ho _ d, z, ne, k _ _ (.inl rfl) e, mA, ⟨od, es, ep, k _ _ (.inr d) e2, c⟩, r⟩
  | own y => obtain ⟨ob, e⟩ := x; exact ⟨ob, k _ _ (.inl rfl) e⟩
  | xd fs => obtain ⟨mA, ⟨od, es, ep, e, c⟩, r⟩ := x; exact ⟨mA, ⟨od, es, ep, k _ _ (.inl rfl) e, c⟩, r⟩
  | rng lo hi => obtain ⟨t, u, v, e⟩ := x; exact ⟨t, u, v, k _ _ (.inl rfl) e⟩
  | frz ob u ih => obtain ⟨e, q⟩ := x; exact ⟨k _ _ (.inl rfl) e, ih q⟩
  | tbl ps =>
    have e : h.get? a = some { cls := .none, data := .fields ps } := x
    show h'.get? a = some { cls := .none, data := .fields ps }
    exact k a _ (.inl rfl) e
  | met f y =>
    have e : h.get? a = some (PySem.W.methodObj (.ref f) (.ref y)) := x
    show h'.get? a = some (PySem.W.methodObj (.ref f) (.ref y))
    exact k a _ (.inl rfl) e
  | ext φ => obtain ⟨p, ⟨o, e⟩, st⟩ := x; exact ⟨st _ _ p fun o q => k _ _ (.inl rfl) q, ⟨o, k _ _ (.inl rfl) e⟩, st⟩
theorem HOk.lt (x : HOk P w H h) (e : H a = some o) : a < h.objs.size := (x a o e).lt
theorem HOk.fresh (x : HOk P w H h) (e : h.objs.size ≤ a) : H a = none := by
  cases q : H a with
  | none => rfl
  | some u => exact absurd (Nat.lt_of_lt_of_le (x.lt q) e) (Nat.lt_irrefl _)
/-- every object of the heap is kept -/
theorem HOk.kept (x : HOk P w H h) (k : ∀ b u, h.get? b = some u → h'.get? b = some u) : HOk P w H h' := fun a o e =>
  (x a o e).stay (fun b u _ q => k b u q) (fun _ q => q) fun _ _ q => q
/-- a new object is laid and tracked -/
theorem HOk.laid (x : HOk P w H h) (k : ∀ b u, h.get? b = some u → h'.get? b = some u) (hp : h.objs.size ≤ a) (new : ObjOk P w (upd H a o) h' a o) : HOk P w (upd H a o) h' := fun b u e => by
  have hn := x.fresh hp
  by_cases hb : b = a
  · subst hb; rw [upd_same] at e; cases e; exact new
  · rw [upd_ne hb] at e
    exact (x b u e).stay (fun c v _ q => k c v q) (fun c q => by rw [upd_ne (ne_of_none q hn)]; exact q) fun c xs q => by rw [upd_ne (ne_of_none q hn)]; exact q
end

/-- what may be read as u: it is u, or a known u -/
def Rd (H : Hp) (a : Addr) (u : HO) : Prop := H a = some u ∨ ∃ o, H a = some (.frz o u)
theorem Rd.of {H : Hp} {a : Addr} {u : HO} (h : H a = some u) : Rd H a u := .inl h
theorem Rd.ok {P : Program} {w : World} {H : Hp} {h : Heap} {a : Addr} {u : HO} (r : Rd H a u) (x : HOk P w H h) : ObjOk P w H h a u := by
  rcases r with r | ⟨o, r⟩
  · exact x a u r
  · obtain ⟨_, q⟩ := x a _ r
    exact q
/-- what may be written -/
def Mut : Option HO → Prop
  | some (.lst _) => True
  | some (.dK _) => True
  | some (.dT _) => True
  | some (.set _ _) => True
  | some (.ins _ _ _) => True
  | some (.ext _) => True
  | _ => False
section
variable {P : Program} {w : World} {H : Hp} {h h' : Heap} {x e : Addr} {o' : HO}
/-- the object at e is changed: x itself, or the dict of the instance x -/
theorem HOk.write (ok : HOk P w H h) (mu : Mut (H x)) (he : e = x ∨ H e = some (.own x)) (k : ∀ b u, b ≠ e → h.get? b = some u → h'.get? b = some u) (heo : ∃ u, h'.get? e = some u)
    (new : ObjOk P w (upd H x o') h' x o') : HOk P w (upd H x o') h' := fun b u q => by
  have nown : ∀ c y, H c = some (.own y) → c ≠ x := fun c y r z => by subst z; rw [r] at mu; exact mu
  have ntup : ∀ c xs, H c = some (.tup xs) → c ≠ x := fun c xs r z => by subst z; rw [r] at mu; exact mu
  by_cases hb : b = x
  · subst hb; rw [upd_same] at q; cases q; exact new
  · rw [upd_ne hb] at q
    by_cases hbe : b = e
    · have q' : H b = some (.own x) := by
        rcases he with z | z
        · exact absurd (hbe.trans z) hb
        · rw [hbe]; exact z
      rw [q] at q'; cases q'
      obtain ⟨v, hv⟩ := heo
      exact ⟨v, by rw [hbe]; exact hv⟩
    · refine (ok b u q).stay (fun c v hc r => k c v ?_ r) (fun c r => by rw [upd_ne (nown c b r)]; exact r) fun c xs r => by rw [upd_ne (ntup c xs r)]; exact r
      rcases hc with rfl | hc
      · exact hbe
      · rintro rfl
        rcases he with z | z
        · exact nown c b hc z
        · rw [hc] at z; cases z; exact hb rfl
end

/-! ### kept unless tracked; of the frames at fs (the callers') the slots may change (an exception that passes writes there); of the records at ex (iterators) nothing is said -/
structure Un (fs ex : List Addr) (H H' : Hp) (h h' : Heap) : Prop where
  keep : ∀ b o, h.get? b = some o → H b = none → b ∉ fs → b ∉ ex → h'.get? b = some o
  slot : ∀ b o, h.get? b = some o → H b = none → b ∈ fs → b ∉ ex → ∃ sl, h'.get? b = some { o with slots := sl }
  free : ∀ b o, h.get? b = some o → H b = none → b ∉ ex → H' b = none
  there : ∀ b o, h.get? b = some o → b ∉ ex → ∃ o', h'.get? b = some o'
  tups : ∀ b xs, H b = some (.tup xs) → H' b = some (.tup xs)
  frzs : ∀ b o u, H b = some (.frz o u) → H' b = some (.frz o u)
  tbls : ∀ b ps, H b = some (.tbl ps) → ∃ more, H' b = some (.tbl (ps ++ more))
section
variable {fs fs' ex ex' : List Addr} {H H1 H2 : Hp} {h h1 h2 h' : Heap} {a x e : Addr} {o : HO}
theorem Un.any (u : Un fs ex H H1 h h1) {b : Addr} {ob : Obj} (q : h.get? b = some ob) (n : H b = none) (hx : b ∉ ex) : ∃ sl, h1.get? b = some { ob with slots := sl } := by
  by_cases hb : b ∈ fs
  · exact u.slot b ob q n hb hx
  · exact ⟨ob.slots, u.keep b ob q n hb hx⟩
theorem Un.trans (a : Un fs ex H H1 h h1) (b : Un fs ex H1 H2 h1 h2) : Un fs ex H H2 h h2 where
  keep := fun c ob q n hc hx => b.keep c ob (a.keep c ob q n hc hx) (a.free c ob q n hx) hc hx
  slot := fun c ob q n hc hx => by
    obtain ⟨sl, e1⟩ := a.slot c ob q n hc hx
    obtain ⟨sl', e2⟩ := b.slot c _ e1 (a.free c ob q n hx) hc hx
    exact ⟨sl', e2⟩
  free := fun c ob q n hx => by
    obtain ⟨o', e1⟩ := a.there c ob q hx
    exact b.free c o' e1 (a.free c ob q n hx) hx
  there := fun c ob q hx => by
    obtain ⟨o', e1⟩ := a.there c ob q hx
    exact b.there c o' e1 hx
  tups := fun c xs q => b.tups c xs (a.tups c xs q)
  frzs := fun c ob xs q => b.frzs c ob xs (a.frzs c ob xs q)
  tbls := fun c ps q => by
    obtain ⟨m1, e1⟩ := a.tbls c ps q
    obtain ⟨m2, e2⟩ := b.tbls c _ e1
    exact ⟨m1 ++ m2, by rw [e2, Array.append_assoc]⟩
theorem Un.kept (k : ∀ b u, h.get? b = some u → h'.get? b = some u) : Un fs ex H H h h' :=
  ⟨fun b ob q _ _ _ => k b ob q, fun b ob q _ _ _ => ⟨ob.slots, k b ob q⟩, fun _ _ _ n _ => n, fun b ob q _ => ⟨ob, k b ob q⟩, fun _ _ q => q, fun _ _ _ q => q, fun _ ps q => ⟨#[], by rw [q]; simp⟩⟩
theorem Un.refl : Un fs ex H H h h := Un.kept fun _ _ q => q
theorem Un.laid (k : ∀ b u, h.get? b = some u → h'.get? b = some u) (hp : h.objs.size ≤ a) (hn : H a = none) : Un fs ex H (upd H a o) h h' where
  keep := fun b u q _ _ _ => k b u q
  slot := fun b u q _ _ _ => ⟨u.slots, k b u q⟩
  free := fun b u q n _ => by rw [upd_ne (Nat.ne_of_lt (Nat.lt_of_lt_of_le (Heap.lt_size q) hp))]; exact n
  there := fun b u q _ => ⟨u, k b u q⟩
  tups := fun b xs q => by rw [upd_ne (ne_of_none q hn)]; exact q
  frzs := fun b u xs q => by rw [upd_ne (ne_of_none q hn)]; exact q
  tbls := fun b ps q => ⟨#[], by rw [upd_ne (ne_of_none q hn), q]; simp⟩
theorem Un.write (mu : Mut (H x)) (he : e = x ∨ H e = some (.own x)) (k : ∀ b u, b ≠ e → h.get? b = some u → h'.get? b = some u) (heo : ∃ u, h'.get? e = some u) : Un fs ex H (upd H x o) h h' := by
  have hx : ∀ b, H b = none → b ≠ x := fun b n z => by subst z; rw [n] at mu; exact mu
  have hb : ∀ b, H b = none → b ≠ e := fun b n z => by
    subst z
    rcases he with r | r
    · exact hx b n r
    · rw [n] at r; cases r
  have hm : ∀ b u, H b = some u → ¬ Mut (some u) → b ≠ x := fun b u q nm z => by subst z; rw [q] at mu; exact nm mu
  refine ⟨fun b u q n _ _ => k b u (hb b n) q, fun b u q n _ _ => ⟨u.slots, k b u (hb b n) q⟩, fun b u q n _ => by rw [upd_ne (hx b n)]; exact n, fun b u q _ => ?_,
    fun b xs q => by rw [upd_ne (hm b _ q fun z => z)]; exact q, fun b u xs q => by rw [upd_ne (hm b _ q fun z => z)]; exact q, fun b ps q => ⟨#[], by rw [upd_ne (hm b _ q fun z => z), q]; simp⟩⟩
  by_cases hbe : b = e
  · subst hbe; exact heo
  · exact ⟨u, k b u hbe q⟩
theorem Un.mono (u : Un fs ex H H1 h h1) (hs : ∀ b ∈ fs, b ∈ fs') (hx : ∀ b ∈ ex, b ∈ ex') : Un fs' ex' H H1 h h1 :=
  ⟨fun b ob q n hb he => u.keep b ob q n (fun z => hb (hs b z)) fun z => he (hx b z), fun _ _ q n _ he => u.any q n fun z => he (hx _ z), fun b ob q n he => u.free b ob q n fun z => he (hx b z), fun b ob q he => u.there b ob q fun z => he (hx b z), u.tups, u.frzs, u.tbls⟩
end

/-! ### the heap without what is tracked -/
def trk (h : Heap) (H : Hp) : List Addr := (List.range h.objs.size).filter fun a => (H a).isSome
def hidT (h : Heap) (H : Hp) : Heap := PySem.W.hideAll h (trk h H)
theorem hidT_size (h : Heap) (H : Hp) : (hidT h H).objs.size = h.objs.size := PySem.W.hideAll_size _ _
theorem hidT_get {h : Heap} {H : Hp} {b : Addr} {o : Obj} (e : h.get? b = some o) (n : H b = none) : (hidT h H).get? b = some o :=
  PySem.W.hideAll_get _ e fun hm => by
    have q : (H b).isSome = true := (List.mem_filter.mp hm).2
    rw [n] at q; simp at q
theorem of_hidT {h : Heap} {H : Hp} {b : Addr} {o : Obj} (e : (hidT h H).get? b = some o) : h.get? b = some o ∧ H b = none := by
  have e' : h.get? b = some o := PySem.W.of_hideAll (trk h H) e
  refine ⟨e', ?_⟩
  cases q : H b with
  | none => rfl
  | some x =>
    have hm : b ∈ trk h H := List.mem_filter.mpr ⟨List.mem_range.mpr (Heap.lt_size e'), by simp [q]⟩
    have z : (hidT h H).get? b = none := PySem.W.hideAll_none (trk h H) hm
    rw [z] at e; cases e

/-! ### OpenK's ledger, filled with every new object but one -/
def allNews (g h : Heap) (L : Addr) : List (Addr × Obj) := (List.range h.objs.size).filterMap fun a => if a = L ∨ (g.get? a).isSome = true then none else (h.get? a).map fun o => (a, o)
theorem mem_allNews {g h : Heap} {L a : Addr} {o : Obj} (h1 : a ≠ L) (h2 : g.get? a = none) (h3 : h.get? a = some o) : (a, o) ∈ allNews g h L :=
  List.mem_filterMap.mpr ⟨a, List.mem_range.mpr (Heap.lt_size h3), by simp [h1, h2, h3]⟩
theorem of_mem_allNews {g h : Heap} {L : Addr} {p : Addr × Obj} (hp : p ∈ allNews g h L) : p.1 ≠ L ∧ g.get? p.1 = none ∧ h.get? p.1 = some p.2 := by
  obtain ⟨b, _, e⟩ := List.mem_filterMap.mp hp
  split at e
  · cases e
  · rename_i hn
    cases q : h.get? b with
    | none => rw [q] at e; simp at e
    | some u =>
      rw [q] at e
      simp only [Option.map_some, Option.some.injEq] at e
      subst e
      refine ⟨fun z => hn (.inl z), ?_, q⟩
      show g.get? b = none
      cases r : g.get? b with
      | none => rfl
      | some v => exact (hn (.inr (by simp [r]))).elim
def rest (g h : Heap) (L d : Addr) : List (Addr × Obj) := (allNews g h L).filter fun p => decide (p.1 ≠ d)
theorem rest_ne {g h : Heap} {L d : Addr} : ∀ p ∈ rest g h L d, p.1 ≠ d := fun p hp => of_decide_eq_true (List.mem_filter.mp hp).2
theorem mem_rest {g h : Heap} {L d a : Addr} {o : Obj} (h1 : a ≠ L) (h2 : g.get? a = none) (h3 : h.get? a = some o) (h4 : a ≠ d) : (a, o) ∈ rest g h L d :=
  List.mem_filter.mpr ⟨mem_allNews h1 h2 h3, decide_eq_true h4⟩
theorem news_all {g h : Heap} {L : Addr} : News g L h (allNews g h L) := fun p hp => let ⟨a, b, c⟩ := of_mem_allNews hp; ⟨c, a, b⟩
theorem news_at {g h : Heap} {L d : Addr} {o : Obj} (h1 : d ≠ L) (h2 : g.get? d = none) (h3 : h.get? d = some o) : News g L h ((d, o) :: rest g h L d) := fun p hp => by
  rcases List.mem_cons.mp hp with rfl | hp
  · exact ⟨h3, h1, h2⟩
  · exact news_all p (List.mem_filter.mp hp).1
/-- behind a rule that changed d alone: all else but the frame is kept -/
theorem kept_of_news {g h h' : Heap} {L d : Addr} {m : Str → Option Value} (k : ∀ b o, g.get? b = some o → h.get? b = some o) (F : Fr g L h' m) (N : News g L h' (rest g h L d)) :
    ∀ b o, b ≠ L → b ≠ d → h.get? b = some o → h'.get? b = some o := fun b o h1 h2 e => by
  cases q : g.get? b with
  | some u =>
    have := k b u q
    rw [e] at this; cases this
    exact F.keep b _ q
  | none => exact (N (b, o) (mem_rest h1 q e h2)).1
end L2

namespace L2
open PySem PySem.Spec PyProof.Rows

/-- the module's facts, over the base: the heap at the law's entry without what is tracked there -/
structure Mod (K : PySem.W.Frag) (mg : Str → Option Value) (base : Heap) : Prop where
  kin : K.In base
  glob : base.Ns mainGlobals mg
  blt : ∃ mb, base.Ns builtinsNs mb ∧ ∀ x : Str, x ≠ "__name__" → mb x = bootBuiltins x
  nolimit : base.NoLimit

/-- the context: a def's body (or a comprehension's block) running. base: fixed through the whole law; s₀, H₀: the entry; outer: the frames whose slots others may change (a def's callers); stack: all frames that run;
   ex: iterators that were made ahead of the entry and are walked here (a comprehension's); fn: the names whose cells were made at the entry (a def: all; a comprehension's block: its own); calm: not within an except suite; pn: pins that every state bears; xe: what is wanted of an exception that leaves the code -/
structure Cx where
  prog : Program
  w : World
  K : PySem.W.Frag
  mg : Str → Option Value
  base : Heap
  A : Around
  N : List Str
  s₀ : Shared
  H₀ : Hp
  env : Env
  outer : List Env
  stack : List Env
  ex : List Addr
  fn : Str → Bool
  calm : Bool
  pn : List (Addr × Obj)
  xe : Value → Shared → Prop
/-- the callers' frames -/
def frs (l : List Env) : List Addr := l.filterMap (·.frame)
abbrev Cx.fs (X : Cx) : List Addr := frs X.outer

def Vis (sc : Scope) (x : Str) : Prop := sc.names.lookup x = some .local ∨ sc.names.lookup x = some .cell ∨ sc.names.lookup x = some .free
def Loc (sc : Scope) (x : Str) : Prop := sc.names.lookup x = some .local ∨ sc.names.lookup x = some .cell
def Look (env : Env) (h : Heap) (m : Str → Option Value) (x : Str) (u : Value) : Prop :=
  (env.kindOf x = some .local ∧ m x = some u) ∨ ((env.kindOf x = some .cell ∨ env.kindOf x = some .free) ∧ ∃ c, env.cells.lookup x = some c ∧ h.IsCell c (some u))

structure Cx.Ok (X : Cx) : Prop where
  mod : Mod X.K X.mg X.base
  kind : X.env.scope.kind = .function
  glob : X.env.globals = mainGlobals
  blt : X.env.builtins = builtinsNs
  above : X.s₀.heap.objs.size ≤ X.env.locals
  inj : ∀ x y c, X.env.cells.lookup x = some c → X.env.cells.lookup y = some c → x = y
  has : ∀ x, (X.env.kindOf x = some .cell ∨ X.env.kindOf x = some .free) → ∃ c, X.env.cells.lookup x = some c
  cab : ∀ x c, X.fn x = true → X.env.cells.lookup x = some c → X.s₀.heap.objs.size ≤ c
  hd : X.calm = true → X.A.handled = none
  frames : X.A.frames = some X.stack
  stk : X.stack = X.outer ∨ (X.stack = X.env :: X.outer ∧ X.env.frame = some X.env.locals)
  exf : ∀ b ∈ X.ex, b ≠ X.env.locals ∧ ∀ x c, X.env.cells.lookup x = some c → c ≠ b
  bs : ∀ b o, X.base.get? b = some o → X.s₀.heap.get? b = some o ∧ X.H₀ b = none
  bsz : X.base.objs.size ≤ X.s₀.heap.objs.size
  noex : ∀ b o, X.base.get? b = some o → b ∉ X.ex
  exfs : ∀ b ∈ X.ex, b ∉ X.fs
  funs : X.s₀.heap.FunFrames X.base X.outer
  frf : ∀ b ∈ X.fs, X.H₀ b = none

structure Inv (X : Cx) (pins : List (Addr × Obj)) (σ : List (Option V)) (H : Hp) (s : Shared) : Prop where
  ok : X.Ok
  os : s.os = X.s₀.os
  bare : AllBare s.gens
  base : Un X.fs X.ex X.H₀ H X.s₀.heap s.heap
  loc : ∃ m, s.heap.Ns X.env.locals m ∧ ∀ (i : Nat) (x : Str) (v : V), X.N[i]? = some x → σ[i]? = some (some v) → Vis X.env.scope x → ∃ u, RelV v u ∧ Look X.env s.heap m x u
  cell : ∀ x c, X.env.cells.lookup x = some c → ∃ v, s.heap.IsCell c v
  free : H X.env.locals = none
  freeC : ∀ x c, X.env.cells.lookup x = some c → H c = none
  pin : ∀ p ∈ X.pn ++ pins, s.heap.get? p.1 = some p.2 ∧ H p.1 = none ∧ p.1 ≠ X.env.locals ∧ p.1 ∉ X.fs ∧ ∀ v, p.2.data ≠ .cell v
  hok : HOk X.prog X.w H s.heap
  len : σ.length = X.N.length

section
variable {X : Cx} {pins : List (Addr × Obj)} {σ : List (Option V)} {H H' : Hp} {s : Shared} {h' : Heap}

theorem Cx.Ok.nofr (ok : X.Ok) {b : Addr} {o : Obj} (e : X.base.get? b = some o) : b ∉ X.fs := fun hb => by
  have := (ok.funs.mem hb).1
  rw [e] at this; cases this
theorem Inv.bs (I : Inv X pins σ H s) : ∀ b o, X.base.get? b = some o → s.heap.get? b = some o ∧ H b = none := fun b o e =>
  ⟨I.base.keep b o (I.ok.bs b o e).1 (I.ok.bs b o e).2 (I.ok.nofr e) (I.ok.noex b o e), I.base.free b o (I.ok.bs b o e).1 (I.ok.bs b o e).2 (I.ok.noex b o e)⟩
theorem Inv.bk (I : Inv X pins σ H s) : ∀ b o, X.base.get? b = some o → s.heap.get? b = some o := fun b o e => (I.bs b o e).1
theorem Inv.mod (I : Inv X pins σ H s) : Mod X.K X.mg X.base := I.ok.mod
theorem Inv.kIn (I : Inv X pins σ H s) : X.K.In s.heap := I.ok.mod.kin.keeps I.bk
theorem Inv.nolimit (I : Inv X pins σ H s) : s.heap.NoLimit := I.ok.mod.nolimit.keeps I.bk
/-- the frame over the base: for OpenK's rules (K.In X.base is I.mod.kin) -/
theorem Inv.fr (I : Inv X pins σ H s) : ∃ m, Fr X.base X.env.locals s.heap m :=
  let ⟨m, hn, _⟩ := I.loc
  ⟨m, hn, I.bk, Nat.le_trans I.ok.bsz I.ok.above⟩
theorem Inv.lt (I : Inv X pins σ H s) : X.env.locals < s.heap.objs.size := let ⟨_, hn, _⟩ := I.loc; hn.lt
theorem Inv.sz (I : Inv X pins σ H s) : X.s₀.heap.objs.size ≤ s.heap.objs.size := Nat.le_trans I.ok.above (Nat.le_of_lt I.lt)
theorem Inv.nofs (I : Inv X pins σ H s) {a : Addr} (h : s.heap.objs.size ≤ a) : a ∉ X.fs := fun hb => by
  obtain ⟨_, o, ho, _⟩ := I.ok.funs.mem hb
  exact absurd (Nat.lt_of_lt_of_le (Heap.lt_size ho) (Nat.le_trans I.sz h)) (Nat.lt_irrefl _)
theorem Inv.cne (I : Inv X pins σ H s) : ∀ x c, X.env.cells.lookup x = some c → c ≠ X.env.locals := fun x c e z => by
  obtain ⟨v, o, ho, hd⟩ := I.cell x c e
  obtain ⟨m, ⟨o', es, ep, ho', hd', _⟩, _⟩ := I.loc
  rw [z, ho'] at ho; cases ho; rw [hd'] at hd; cases hd
theorem Inv.funs (I : Inv X pins σ H s) : s.heap.FunFrames X.base X.outer := by
  have all : ∀ (l : List Env), (∀ b ∈ frs l, b ∈ X.fs) → X.s₀.heap.FunFrames X.base l → s.heap.FunFrames X.base l := by
    intro l
    induction l with
    | nil => intro _ _; trivial
    | cons env r ih =>
      intro hs hl
      obtain ⟨hk, ⟨L, o, hf, hn, ho, hd⟩, hr⟩ := hl
      have hL : L ∈ X.fs := hs L (by unfold frs; rw [List.filterMap_cons, hf]; exact List.mem_cons_self)
      obtain ⟨sl, e⟩ := I.base.slot L o ho (I.ok.frf L hL) hL fun z => I.ok.exfs L z hL
      exact ⟨hk, ⟨L, _, hf, hn, e, hd⟩, ih (fun b hb => hs b (by unfold frs; rw [List.filterMap_cons, hf]; exact List.mem_cons_of_mem _ hb)) hr⟩
  exact all X.outer (fun _ hb => hb) I.ok.funs

/-- the frames that run, for a call -/
theorem Inv.stack (I : Inv X pins σ H s) : s.heap.FunFrames X.base X.stack := by
  rcases I.ok.stk with e | ⟨e, hf⟩
  · rw [e]; exact I.funs
  · rw [e]
    obtain ⟨m, hn, _⟩ := I.loc
    refine .cons (by rw [I.ok.kind]; decide) hf hn ?_ I.funs
    exact Heap.get?_none_of_le (Nat.le_trans I.ok.bsz I.ok.above)
theorem Inv.stkSub (I : Inv X pins σ H s) : ∀ b ∈ frs X.stack, b ∈ X.env.locals :: X.fs := fun b hb => by
  rcases I.ok.stk with e | ⟨e, hf⟩
  · rw [e] at hb; exact List.mem_cons_of_mem _ hb
  · rw [e] at hb
    unfold frs at hb
    rw [List.filterMap_cons, hf] at hb
    exact hb
theorem Inv.stkFree (I : Inv X pins σ H s) : ∀ b ∈ frs X.stack, H b = none := fun b hb => by
  rcases List.mem_cons.mp (I.stkSub b hb) with e | hb
  · rw [e]; exact I.free
  · obtain ⟨_, o, ho, _⟩ := I.ok.funs.mem hb
    exact I.base.free b o ho (I.ok.frf b hb) fun z => I.ok.exfs b z hb

/-- THE STEP: the untracked objects but the frame and the records at ch are kept (the callers' frames up to slots), the frame's map is kept, the new abstract heap is held -/
theorem Inv.step {g' : Array GenState} {t' : Nat} {d' : Drawn} {ch : List Addr} (I : Inv X pins σ H s)
    (hch : ∀ b ∈ ch, (b ∈ X.ex ∨ X.s₀.heap.objs.size ≤ b) ∧ b ≠ X.env.locals ∧ (∀ x c, X.env.cells.lookup x = some c → c ≠ b) ∧ ∀ p ∈ X.pn ++ pins, p.1 ≠ b)
    (keep : ∀ b o, b ≠ X.env.locals → b ∉ X.fs → b ∉ ch → s.heap.get? b = some o → H b = none → h'.get? b = some o)
    (slot : ∀ b o, b ≠ X.env.locals → b ∈ X.fs → b ∉ ch → s.heap.get? b = some o → H b = none → ∃ sl, h'.get? b = some { o with slots := sl }) (free : ∀ b o, b ∉ ch → s.heap.get? b = some o → H b = none → H' b = none)
    (there : ∀ b o, b ∉ ch → s.heap.get? b = some o → ∃ o', h'.get? b = some o')
    (tups : ∀ b xs, H b = some (.tup xs) → H' b = some (.tup xs)) (frzs : ∀ b o u, H b = some (.frz o u) → H' b = some (.frz o u)) (tbls : ∀ b ps, H b = some (.tbl ps) → ∃ more, H' b = some (.tbl (ps ++ more)))
    (ns : ∀ m, s.heap.Ns X.env.locals m → h'.Ns X.env.locals m) (hok : HOk X.prog X.w H' h') (hg : AllBare g') :
    Inv X pins σ H' { s with heap := h', gens := g', drawn := d', toks := t' } := by
  have neL : ∀ b o, X.s₀.heap.get? b = some o → b ≠ X.env.locals := fun b o e => Nat.ne_of_lt (Nat.lt_of_lt_of_le (Heap.lt_size e) I.ok.above)
  have neC : ∀ b o, X.s₀.heap.get? b = some o → b ∉ X.ex → b ∉ ch := fun b o e hx hb => by
    rcases (hch b hb).1 with z | z
    · exact hx z
    · exact absurd (Nat.lt_of_lt_of_le (Heap.lt_size e) z) (Nat.lt_irrefl _)
  have cellK : ∀ x c, X.env.cells.lookup x = some c → ∀ v, s.heap.IsCell c v → h'.IsCell c v := fun x c e v ⟨o, ho, hd⟩ => by
    have nch : c ∉ ch := fun z => (hch c z).2.2.1 x c e rfl
    by_cases hc : c ∈ X.fs
    · obtain ⟨sl, q⟩ := slot c o (I.cne x c e) hc nch ho (I.freeC x c e)
      exact ⟨_, q, hd⟩
    · exact ⟨o, keep c o (I.cne x c e) hc nch ho (I.freeC x c e), hd⟩
  refine ⟨I.ok, I.os, hg, ⟨fun b o e n hb hx => ?_, fun b o e n hb hx => ?_, fun b o e n hx => ?_, fun b o e hx => ?_, fun b xs e => tups b xs (I.base.tups b xs e), fun b o xs e => frzs b o xs (I.base.frzs b o xs e), fun b ps e => ?_⟩, ?_, fun x c e => ?_, ?_, fun x c e => ?_, fun p hp => ?_, hok, I.len⟩
  · exact keep b o (neL b o e) hb (neC b o e hx) (I.base.keep b o e n hb hx) (I.base.free b o e n hx)
  · obtain ⟨sl, e1⟩ := I.base.slot b o e n hb hx
    obtain ⟨sl', e2⟩ := slot b _ (neL b o e) hb (neC b o e hx) e1 (I.base.free b o e n hx)
    exact ⟨sl', e2⟩
  · obtain ⟨o', e1⟩ := I.base.there b o e hx
    exact free b o' (neC b o e hx) e1 (I.base.free b o e n hx)
  · obtain ⟨o', e1⟩ := I.base.there b o e hx
    exact there b o' (neC b o e hx) e1
  · obtain ⟨m1, e1⟩ := I.base.tbls b ps e
    obtain ⟨m2, e2⟩ := tbls b _ e1
    exact ⟨m1 ++ m2, by rw [e2, Array.append_assoc]⟩
  · obtain ⟨m, hn, hl⟩ := I.loc
    refine ⟨m, ns m hn, fun i x v e1 e2 e3 => ?_⟩
    obtain ⟨u, r, l⟩ := hl i x v e1 e2 e3
    refine ⟨u, r, ?_⟩
    rcases l with l | ⟨k, c, e, z⟩
    · exact .inl l
    · exact .inr ⟨k, c, e, cellK x c e _ z⟩
  · obtain ⟨v, z⟩ := I.cell x c e
    exact ⟨v, cellK x c e v z⟩
  · obtain ⟨m, ⟨o, _, _, ho, _⟩, _⟩ := I.loc
    exact free _ o (fun z => (hch _ z).2.1 rfl) ho I.free
  · obtain ⟨v, o, ho, hd⟩ := I.cell x c e
    exact free c o (fun z => (hch c z).2.2.1 x c e rfl) ho (I.freeC x c e)
  · obtain ⟨e, n, ne, nf, d⟩ := I.pin p hp
    have nch : p.1 ∉ ch := fun z => (hch p.1 z).2.2.2 p hp rfl
    exact ⟨keep p.1 p.2 ne nf nch e n, free p.1 p.2 nch e n, ne, nf, d⟩
/-- .. where the frame's own object is kept too -/
theorem Inv.un {t' : Nat} (I : Inv X pins σ H s) (u : Un X.fs [] H H' s.heap h') (hok : HOk X.prog X.w H' h') : Inv X pins σ H' { s with heap := h', toks := t' } := by
  obtain ⟨m, ⟨o, es, ep, ho, r⟩, _⟩ := id I.loc
  obtain ⟨sl, hL⟩ := u.any ho I.free (by simp)
  exact I.step (g' := s.gens) (d' := s.drawn) (ch := []) (fun _ z => nomatch z) (fun b o _ hb _ e n => u.keep b o e n hb (by simp)) (fun b o _ hb _ e n => u.slot b o e n hb (by simp)) (fun b o _ e n => u.free b o e n (by simp)) (fun b o _ e => u.there b o e (by simp)) u.tups u.frzs u.tbls (fun m' hm => by
    obtain ⟨o', es', ep', ho', r'⟩ := hm
    rw [ho] at ho'; cases ho'
    exact ⟨_, es', ep', hL, r'⟩) hok I.bare
/-- behind a call (or a comprehension's block): the slots of this frame may have changed too, the records at ch may have turned -/
theorem Inv.call {g' : Array GenState} {t' : Nat} {d' : Drawn} {ch : List Addr} (I : Inv X pins σ H s) (u : Un (frs X.stack) ch H H' s.heap h') (hok : HOk X.prog X.w H' h') (hg : AllBare g')
    (hch : ∀ b ∈ ch, (b ∈ X.ex ∨ X.s₀.heap.objs.size ≤ b) ∧ b ≠ X.env.locals ∧ (∀ x c, X.env.cells.lookup x = some c → c ≠ b) ∧ ∀ p ∈ X.pn ++ pins, p.1 ≠ b) :
    Inv X pins σ H' { s with heap := h', gens := g', drawn := d', toks := t' } := by
  obtain ⟨m, ⟨o, es, ep, ho, r⟩, _⟩ := id I.loc
  obtain ⟨sl, hL⟩ := u.any ho I.free fun z => (hch _ z).2.1 rfl
  exact I.step (ch := ch) hch (fun b o hL hb hc e n => u.keep b o e n (fun z => (List.mem_cons.mp (I.stkSub b z)).elim hL hb) hc) (fun b o _ _ hc e n => u.any e n hc) (fun b o hc e n => u.free b o e n hc) (fun b o hc e => u.there b o e hc) u.tups u.frzs u.tbls (fun m' hm => by
    obtain ⟨o', es', ep', ho', r'⟩ := hm
    rw [ho] at ho'; cases ho'
    exact ⟨_, es', ep', hL, r'⟩) hok hg
/-- an untracked record of ours (an iterator) has turned -/
theorem Inv.turned {t' : Nat} {it : Addr} (I : Inv X pins σ H s) (k : ∀ b o, b ≠ it → s.heap.get? b = some o → h'.get? b = some o) (hn : H it = none) (hL : it ≠ X.env.locals)
    (h1 : it ∈ X.ex ∨ X.s₀.heap.objs.size ≤ it) (h2 : ∀ x c, X.env.cells.lookup x = some c → c ≠ it) (h3 : ∀ p ∈ X.pn ++ pins, p.1 ≠ it) : Inv X pins σ H { s with heap := h', toks := t' } := by
  have nit : ∀ b u, H b = some u → b ≠ it := fun b u e z => by rw [z, hn] at e; cases e
  refine I.step (g' := s.gens) (d' := s.drawn) (ch := [it]) (fun b hb => ?_) (fun b o _ _ hc e _ => k b o (fun z => hc (by simp [z])) e) (fun b o _ _ hc e _ => ⟨o.slots, k b o (fun z => hc (by simp [z])) e⟩) (fun _ _ _ _ n => n)
    (fun b o hc e => ⟨o, k b o (fun z => hc (by simp [z])) e⟩) (fun _ _ e => e) (fun _ _ _ e => e) (fun b ps e => ⟨#[], by rw [e]; simp⟩) (fun m hm => ?_) (fun b u e => ?_) I.bare
  · have e : b = it := by simpa using hb
    subst e
    exact ⟨h1, hL, h2, h3⟩
  · obtain ⟨o, es, ep, ho, r⟩ := hm
    exact ⟨o, es, ep, k _ o (Ne.symm hL) ho, r⟩
  · refine (I.hok b u e).stay (fun c v hc q => k c v ?_ q) (fun _ q => q) fun _ _ q => q
    rcases hc with z | z
    · rw [z]; exact nit b u e
    · exact nit c _ z
theorem Inv.tok (I : Inv X pins σ H s) (t : Nat) : Inv X pins σ H { s with toks := t } := I.un (h' := s.heap) (t' := t) Un.refl I.hok
/-- all objects kept -/
theorem Inv.kept {t' : Nat} (I : Inv X pins σ H s) (k : ∀ b u, s.heap.get? b = some u → h'.get? b = some u) : Inv X pins σ H { s with heap := h', toks := t' } := I.un (Un.kept k) (I.hok.kept k)
/-- a new object laid and tracked -/
theorem Inv.laid {a : Addr} {o : HO} {t' : Nat} (I : Inv X pins σ H s) (k : ∀ b u, s.heap.get? b = some u → h'.get? b = some u) (hp : s.heap.objs.size ≤ a) (new : ObjOk X.prog X.w (upd H a o) h' a o) :
    Inv X pins σ (upd H a o) { s with heap := h', toks := t' } := I.un (Un.laid k hp (I.hok.fresh hp)) (I.hok.laid k hp new)
/-- an object written -/
theorem Inv.write {x e : Addr} {o : HO} {t' : Nat} (I : Inv X pins σ H s) (mu : Mut (H x)) (he : e = x ∨ H e = some (.own x)) (k : ∀ b u, b ≠ e → s.heap.get? b = some u → h'.get? b = some u) (heo : ∃ u, h'.get? e = some u)
    (new : ObjOk X.prog X.w (upd H x o) h' x o) : Inv X pins σ (upd H x o) { s with heap := h', toks := t' } := I.un (Un.write mu he k heo) (I.hok.write mu he k heo new)
/-- forgetting slots, pins -/
theorem Inv.weak {σ' : List (Option V)} (I : Inv X pins σ H s) (hl : σ'.length = σ.length) (w : ∀ (i : Nat) v, σ'[i]? = some (some v) → σ[i]? = some (some v)) : Inv X pins σ' H s :=
  ⟨I.ok, I.os, I.bare, I.base, let ⟨m, hn, hl'⟩ := I.loc; ⟨m, hn, fun i x v e1 e2 e3 => hl' i x v e1 (w i v e2) e3⟩, I.cell, I.free, I.freeC, I.pin, I.hok, hl.trans I.len⟩
theorem Inv.pins_of {pins' : List (Addr × Obj)} (I : Inv X pins σ H s) (h : ∀ p ∈ pins', s.heap.get? p.1 = some p.2 ∧ H p.1 = none ∧ p.1 ≠ X.env.locals ∧ p.1 ∉ X.fs ∧ ∀ v, p.2.data ≠ .cell v) : Inv X pins' σ H s :=
  ⟨I.ok, I.os, I.bare, I.base, I.loc, I.cell, I.free, I.freeC, fun p hp => (List.mem_append.mp hp).elim (fun z => I.pin p (List.mem_append_left _ z)) (h p), I.hok, I.len⟩

theorem nodup_ix {N : List Str} (hN : N.Nodup) {i j : Nat} {x : Str} (a : N[i]? = some x) (b : N[j]? = some x) : i = j := by
  obtain ⟨h1, e1⟩ := List.getElem?_eq_some_iff.mp a
  obtain ⟨h2, e2⟩ := List.getElem?_eq_some_iff.mp b
  exact (List.getElem_inj hN).mp (e1.trans e2.symm)

/-- a name is stored; what changed -/
theorem store_ok2 {M : Model} {A : Around} {E : Value → Shared → Prop} {i : Nat} {x : Str} {v : V} {u : Value} {Q : Unit → Shared → Prop} (I : Inv X pins σ H s) (hN : X.N.Nodup) (hi : X.N[i]? = some x) (hx : Loc X.env.scope x) (r : RelV v u)
    (h : ∀ s', Inv X pins (σ.set i (some v)) H s' → (∃ a, Heap.SameBut a s.heap s'.heap ∧ (a = X.env.locals ∨ X.env.cells.lookup x = some a)) → Q () s') (hf : X.fn x = true ∨ X.env.scope.names.lookup x = some .local := by first | exact .inl rfl | exact .inr rfl | assumption) : wpAny M A (storeName X.env x u) Q E s := by
  obtain ⟨m, hn, hl⟩ := id I.loc
  have hcls : (X.env.scope.kind == .class || (X.env.scope.kind == .module && X.env.locals != X.env.globals)) = false := by rw [I.ok.kind]; rfl
  have hiσ : i < σ.length := by rw [I.len]; exact (List.getElem?_eq_some_iff.mp hi).1
  have cne := I.cne
  have tracked : ∀ {a : Addr} {h' : Heap}, (∃ o, s.heap.get? a = some o ∧ H a = none) → Heap.SameBut a s.heap h' → HOk X.prog X.w H h' := fun {a h'} ha hs b ob e => by
    obtain ⟨_, _, hfree⟩ := ha
    refine (I.hok b ob e).stay (fun c w' hc q => (hs.2 c ?_).trans q) (fun _ q => q) fun _ _ q => q
    rintro rfl
    rcases hc with rfl | hc
    · rw [hfree] at e; cases e
    · rw [hfree] at hc; cases hc
  rcases hx with hk | hk
  · refine wpAny_storeName_local hk hn (fun h' hn' hs => ?_) hcls
    obtain ⟨oL, _, _, hoL, _⟩ := id hn
    refine h _ ⟨I.ok, I.os, I.bare, ⟨fun b o e n hb hx => ?_, fun b o e n hb hx => ?_, I.base.free, fun b o e hx => ?_, I.base.tups, I.base.frzs, I.base.tbls⟩, ⟨_, hn', fun j y v' e1 e2 e3 => ?_⟩, fun y c e => ?_, I.free, I.freeC, fun p hp => ?_, tracked ⟨oL, hoL, I.free⟩ hs, by simpa using I.len⟩ ⟨_, hs, .inl rfl⟩
    · exact (hs.2 b (Nat.ne_of_lt (Nat.lt_of_lt_of_le (Heap.lt_size e) I.ok.above))).trans (I.base.keep b o e n hb hx)
    · obtain ⟨sl, e1⟩ := I.base.slot b o e n hb hx
      exact ⟨sl, (hs.2 b (Nat.ne_of_lt (Nat.lt_of_lt_of_le (Heap.lt_size e) I.ok.above))).trans e1⟩
    · obtain ⟨o', e1⟩ := I.base.there b o e hx
      exact ⟨o', (hs.2 b (Nat.ne_of_lt (Nat.lt_of_lt_of_le (Heap.lt_size e) I.ok.above))).trans e1⟩
    · by_cases hj : j = i
      · subst hj
        rw [hi] at e1; cases e1
        rw [List.getElem?_set_self hiσ] at e2
        cases e2
        exact ⟨u, r, .inl ⟨hk, by simp⟩⟩
      · rw [List.getElem?_set_ne (Ne.symm hj)] at e2
        obtain ⟨u', r', q⟩ := hl j y v' e1 e2 e3
        refine ⟨u', r', ?_⟩
        rcases q with ⟨k, e⟩ | ⟨k, c, e, z⟩
        · refine .inl ⟨k, ?_⟩
          have : y ≠ x := fun e => hj (nodup_ix hN e1 (e ▸ hi))
          simp [this, e]
        · exact .inr ⟨k, c, e, z.sameBut hs (cne y c e)⟩
    · obtain ⟨w', z⟩ := I.cell y c e
      exact ⟨w', z.sameBut hs (cne y c e)⟩
    · obtain ⟨e, n, ne, nf, d⟩ := I.pin p hp
      exact ⟨(hs.2 p.1 ne).trans e, n, ne, nf, d⟩
  · have hfn : X.fn x = true := by
      rcases hf with z | z
      · exact z
      · rw [z] at hk; cases hk
    obtain ⟨c, hc⟩ := I.ok.has x (.inl hk)
    obtain ⟨w', z⟩ := I.cell x c hc
    refine wpAny_storeName_cell I.ok.kind hk hc z (fun h' hc' hs => ?_)
    obtain ⟨oc, hoc, hocd⟩ := id z
    refine h { s with heap := h' } ⟨I.ok, I.os, I.bare, ⟨fun b o e n hb hx => ?_, fun b o e n hb hx => ?_, I.base.free, fun b o e hx => ?_, I.base.tups, I.base.frzs, I.base.tbls⟩, ⟨m, hn.sameBut hs (Ne.symm (cne x c hc)), fun j y v' e1 e2 e3 => ?_⟩, fun y c' e => ?_, I.free, I.freeC, fun p hp => ?_, tracked ⟨oc, hoc, I.freeC x c hc⟩ hs, by simpa using I.len⟩ ⟨c, hs, .inr hc⟩
    · exact (hs.2 b (Nat.ne_of_lt (Nat.lt_of_lt_of_le (Heap.lt_size e) (I.ok.cab x c hfn hc)))).trans (I.base.keep b o e n hb hx)
    · obtain ⟨sl, e1⟩ := I.base.slot b o e n hb hx
      exact ⟨sl, (hs.2 b (Nat.ne_of_lt (Nat.lt_of_lt_of_le (Heap.lt_size e) (I.ok.cab x c hfn hc)))).trans e1⟩
    · obtain ⟨o', e1⟩ := I.base.there b o e hx
      exact ⟨o', (hs.2 b (Nat.ne_of_lt (Nat.lt_of_lt_of_le (Heap.lt_size e) (I.ok.cab x c hfn hc)))).trans e1⟩
    · by_cases hj : j = i
      · subst hj
        rw [hi] at e1; cases e1
        rw [List.getElem?_set_self hiσ] at e2
        cases e2
        exact ⟨u, r, .inr ⟨.inl hk, c, hc, hc'⟩⟩
      · rw [List.getElem?_set_ne (Ne.symm hj)] at e2
        obtain ⟨u', r', q⟩ := hl j y v' e1 e2 e3
        refine ⟨u', r', ?_⟩
        rcases q with q | ⟨k, c', e, z'⟩
        · exact .inl q
        · refine .inr ⟨k, c', e, z'.sameBut hs ?_⟩
          rintro rfl
          exact hj (nodup_ix hN e1 (I.ok.inj _ _ _ e hc ▸ hi))
    · by_cases hcc : c' = c
      · subst hcc; exact ⟨_, hc'⟩
      · obtain ⟨w2, z2⟩ := I.cell y c' e
        exact ⟨w2, z2.sameBut hs hcc⟩
    · obtain ⟨e, n, ne, nf, d⟩ := I.pin p hp
      refine ⟨(hs.2 p.1 ?_).trans e, n, ne, nf, d⟩
      intro q
      rw [q, hoc] at e
      have q' : oc = p.2 := Option.some.inj e
      exact d w' (by rw [← q']; exact hocd)
theorem store_ok {M : Model} {A : Around} {E : Value → Shared → Prop} {i : Nat} {x : Str} {v : V} {u : Value} {Q : Unit → Shared → Prop} (I : Inv X pins σ H s) (hN : X.N.Nodup) (hi : X.N[i]? = some x) (hx : Loc X.env.scope x) (r : RelV v u)
    (h : ∀ s', Inv X pins (σ.set i (some v)) H s' → Q () s') (hf : X.fn x = true ∨ X.env.scope.names.lookup x = some .local := by first | exact .inl rfl | exact .inr rfl | assumption) : wpAny M A (storeName X.env x u) Q E s :=
  store_ok2 I hN hi hx r (fun s' I' _ => h s' I') hf
/-- behind a call or a block, the state as it is -/
theorem Inv.call' {s' : Shared} {ch : List Addr} (I : Inv X pins σ H s) (ho : s'.os = s.os) (u : Un (frs X.stack) ch H H' s.heap s'.heap) (hok : HOk X.prog X.w H' s'.heap) (hg : AllBare s'.gens)
    (hch : ∀ b ∈ ch, (b ∈ X.ex ∨ X.s₀.heap.objs.size ≤ b) ∧ b ≠ X.env.locals ∧ (∀ x c, X.env.cells.lookup x = some c → c ≠ b) ∧ ∀ p ∈ X.pn ++ pins, p.1 ≠ b) : Inv X pins σ H' s' := by
  obtain ⟨h', g', d', t', o'⟩ := s'
  have e : o' = s.os := ho
  subst e
  exact I.call (g' := g') (t' := t') (d' := d') u hok hg hch
end

/-! ### the judgements -/
/-- an exception: its class, its own dict's address (where it has one), the abstract heap behind it -/
abbrev XK := Value → Option Addr → Hp → Prop
abbrev St := List (Option V)
abbrev VK := V → Hp → Prop
/-- an expression's reading; a test's; an argument list's -/
abbrev TE := St → Hp → VK → Prop
abbrev TT := St → Hp → (Bool → Hp → Prop) → Prop
abbrev TA := St → Hp → (List V → Hp → Prop) → Prop
/-- what is wanted behind a statement -/
structure Ends where
  nx : St → Hp → Prop
  rt : VK
  bk : St → Hp → Prop := fun _ _ => False
  ct : St → Hp → Prop := fun _ _ => False
abbrev TS := Ends → St → Hp → Prop

def EP (X : Cx) (pins : List (Addr × Obj)) (σ : St) (Q : VK) (u : Value) (s' : Shared) : Prop := ∃ v H', Inv X pins σ H' s' ∧ RelV v u ∧ Q v H'
def TP (X : Cx) (pins : List (Addr × Obj)) (σ : St) (Q : Bool → Hp → Prop) (b : Bool) (s' : Shared) : Prop := ∃ H', Inv X pins σ H' s' ∧ Q b H'
def AP (X : Cx) (pins : List (Addr × Obj)) (σ : St) (Q : List V → Hp → Prop) (us : List Value) (s' : Shared) : Prop := ∃ vs H', Inv X pins σ H' s' ∧ Vals vs us ∧ Q vs H'
def SP (X : Cx) (pins : List (Addr × Obj)) (D : Ends) (f : Flow) (s' : Shared) : Prop :=
  match f with
  | .next => ∃ σ' H', Inv X pins σ' H' s' ∧ D.nx σ' H'
  | .brk => ∃ σ' H', Inv X pins σ' H' s' ∧ D.bk σ' H'
  | .cont => ∃ σ' H', Inv X pins σ' H' s' ∧ D.ct σ' H'
  | .ret u => ∃ v σ' H', Inv X pins σ' H' s' ∧ RelV v u ∧ D.rt v H'

structure Hold (p : Prop) : Prop where
  out : p
instance {α : Sort _} {β : α → Prop} : CoeFun (Hold (∀ a, β a)) (fun _ => ∀ a, β a) := ⟨Hold.out⟩
abbrev PE (X : Cx) (e : Expr) (t : TE) : Prop := Hold (
  ∀ (pins : List (Addr × Obj)) (s : Shared) (σ : St) (H : Hp) (Q : VK), Inv X pins σ H s → t σ H Q → wpAny (model X.prog X.w) X.A (eval e X.env) (EP X pins σ Q) X.xe s)
abbrev PT (X : Cx) (e : Expr) (t : TT) : Prop := Hold (
  ∀ (pins : List (Addr × Obj)) (s : Shared) (σ : St) (H : Hp) (Q : Bool → Hp → Prop), Inv X pins σ H s → t σ H Q → wpAny (model X.prog X.w) X.A (isTrue e X.env (eval e X.env)) (TP X pins σ Q) X.xe s)
/-- a test whatever its 'whole' is (and, or) -/
def PW (X : Cx) (e : Expr) (t : TT) : Prop :=
  ∀ (whole : Sem Value) (pins : List (Addr × Obj)) (s : Shared) (σ : St) (H : Hp) (Q : Bool → Hp → Prop), Inv X pins σ H s → t σ H Q → wpAny (model X.prog X.w) X.A (isTrue e X.env whole) (TP X pins σ Q) X.xe s
theorem PW.pt {X : Cx} {e : Expr} {t : TT} (h : PW X e t) : PT X e t := ⟨h _⟩
/-- an argument list (no star), from the left -/
abbrev PA (X : Cx) (es : List Expr) (t : TA) : Prop := Hold (
  ∀ (pos : Pos) (pins : List (Addr × Obj)) (s : Shared) (σ : St) (H : Hp) (Q : List V → Hp → Prop), Inv X pins σ H s → t σ H Q → wpAny (model X.prog X.w) X.A (spliced (backTo pos (starEach es X.env))) (AP X pins σ Q) X.xe s)
abbrev PS (X : Cx) (st : Stmt) (t : TS) : Prop := Hold (
  ∀ (pins : List (Addr × Obj)) (s : Shared) (σ : St) (H : Hp) (D : Ends), Inv X pins σ H s → t D σ H → wpAny (model X.prog X.w) X.A (exec st X.env) (SP X pins D) X.xe s)
abbrev PSs (X : Cx) (st : List Stmt) (t : TS) : Prop := Hold (
  ∀ (pins : List (Addr × Obj)) (s : Shared) (σ : St) (H : Hp) (D : Ends), Inv X pins σ H s → t D σ H → wpAny (model X.prog X.w) X.A (execs st X.env) (SP X pins D) X.xe s)
/-- weaken the end -/
theorem thn {α : Type} {t : Sem α} {Q Q' : α → Shared → Prop} {M : Model} {A : Around} {E : Value → Shared → Prop} {s : Shared} (h : wpAny M A t Q E s) (hQ : ∀ a s, Q a s → Q' a s) : wpAny M A t Q' E s := wpAny_mono h hQ fun _ _ x => x
end L2

namespace L2
open PySem PySem.Spec PyProof.Rows
section
variable {X : Cx}

/-- two expressions in a row -/
theorem bin {a b : Expr} {ta tb : TE} (ha : PE X a ta) (hb : PE X b tb) {pins : List (Addr × Obj)} {s : Shared} {σ : St} {H : Hp} {R : V → V → Hp → Prop} (I : Inv X pins σ H s) (h : ta σ H fun x H1 => tb σ H1 fun y H2 => R x y H2)
    {α : Type} {Q : α → Shared → Prop} {f : Value → Value → Sem α}
    (hf : ∀ v u s2 x y H2, Inv X pins σ H2 s2 → RelV x v → RelV y u → R x y H2 → wpAny (model X.prog X.w) X.A (f v u) Q X.xe s2) :
    wpAny (model X.prog X.w) X.A (eval a X.env) (fun v s₁ => wpAny (model X.prog X.w) X.A (eval b X.env) (fun u s₂ => wpAny (model X.prog X.w) X.A (f v u) Q X.xe s₂) X.xe s₁) X.xe s := by
  refine thn (ha pins s σ H _ I h) fun v s1 ⟨x, H1, I1, r1, q1⟩ => ?_
  refine thn (hb pins s1 σ H1 _ I1 q1) fun u s2 ⟨y, H2, I2, r2, q2⟩ => ?_
  exact hf v u s2 x y H2 I2 r1 r2 q2

/-! ### names and constants -/
def tVar (i : Nat) : TE := fun σ H Q => ∃ v, σ[i]? = some (some v) ∧ Q v H
def tC (v : V) : TE := fun _ H Q => Q v H
theorem pe_var {i : Nat} {x : Str} {pos : Pos} (hN : X.N[i]? = some x) (hv : Vis X.env.scope x) (hd : (x == ("__debug__" : Str)) = false := by decide) (hcd : (x == ("__classdict__" : Str)) = false := by decide) : PE X (.Name x pos) (tVar i) := by
  refine ⟨?_⟩
  intro pins s σ H Q I h
  obtain ⟨v, e, h⟩ := h
  obtain ⟨m, hn, hl⟩ := I.loc
  obtain ⟨u, r, l⟩ := hl i x v hN e hv
  have fin : EP X pins σ Q u s := ⟨v, H, I, r, h⟩
  rcases l with ⟨hk, hm⟩ | ⟨hk, c, hc, hcell⟩
  · exact wpAny_Name (wpAny_loadName_local I.ok.kind hk hn hm fin) hd
  · rcases hk with hk | hk
    · exact wpAny_Name (wpAny_loadName_cell I.ok.kind hk hc hcell fin) hd
    · exact wpAny_Name (wpAny_loadName_free I.ok.kind hk hc hcell fin hcd) hd
theorem pe_int {i j pos} : PE X (.Constant (.int i) j pos) (tC (.int i)) := ⟨fun _ _ _ H _ I h => wpAny_Constant_int ⟨.int i, H, I.tok _, ⟨_, rfl⟩, h⟩⟩
theorem pe_bl {b j pos} : PE X (.Constant (.bool b) j pos) (tC (.bl b)) := ⟨fun _ _ _ H _ I h => Constant_bool ⟨.bl b, H, I, rfl, h⟩⟩
theorem pe_non {j pos} : PE X (.Constant .none j pos) (tC .non) := ⟨fun _ _ _ H _ I h => Constant_none ⟨.non, H, I, rfl, h⟩⟩
theorem pe_str {x j pos} : PE X (.Constant (.str x) j pos) (tC (.str x)) := ⟨fun _ _ _ H _ I h => Calls.Constant_str ⟨.str x, H, I.tok _, ⟨_, rfl⟩, h⟩⟩

/-- a global name of the def -/
def Gl (X : Cx) (x : Str) : Prop := X.env.kindOf x = some .globalImplicit
theorem ld_glob {E : Value → Shared → Prop} {pins : List (Addr × Obj)} {s : Shared} {σ : St} {H : Hp} {x : Str} {u : Value} {pos : Pos} {Q : Value → Shared → Prop} (I : Inv X pins σ H s) (hg : Gl X x) (hm : X.mg x = some u) (h : Q u s)
    (hd : (x == ("__debug__" : Str)) = false := by decide) : wpAny (model X.prog X.w) X.A (eval (.Name x pos) X.env) Q E s :=
  Calls.Name_function_global I.ok.kind hg (Calls.loadGlobal_global (by rw [I.ok.glob]; exact I.mod.glob.keeps I.bk) hm h) hd
theorem ld_blt {E : Value → Shared → Prop} {pins : List (Addr × Obj)} {s : Shared} {σ : St} {H : Hp} {x : Str} {u : Value} {pos : Pos} {Q : Value → Shared → Prop} (I : Inv X pins σ H s) (hg : Gl X x) (hm : X.mg x = none) (hv : bootBuiltins x = some u) (h : Q u s)
    (hn : x ≠ "__name__" := by decide) (hd : (x == ("__debug__" : Str)) = false := by decide) : wpAny (model X.prog X.w) X.A (eval (.Name x pos) X.env) Q E s := by
  obtain ⟨mb, h1, h2⟩ := I.mod.blt
  exact Calls.Name_function_global I.ok.kind hg (Calls.loadGlobal_builtin (by rw [I.ok.glob]; exact I.mod.glob.keeps I.bk) hm (by rw [I.ok.blt]; exact h1.keeps I.bk) ((h2 x hn).trans hv) h) hd
/-- a module's constant, a class, a function, as a value -/
theorem pe_glob {x : Str} {v : V} {u : Value} {pos : Pos} (hg : Gl X x) (hm : X.mg x = some u) (r : RelV v u) (hd : (x == ("__debug__" : Str)) = false := by decide) : PE X (.Name x pos) (tC v) :=
  ⟨fun _ _ _ H _ I h => ld_glob I hg hm ⟨v, H, I, r, h⟩ hd⟩
theorem pe_bltn {x : Str} {v : V} {u : Value} {pos : Pos} (hg : Gl X x) (hm : X.mg x = none) (hv : bootBuiltins x = some u) (r : RelV v u) (hn : x ≠ "__name__" := by decide) (hd : (x == ("__debug__" : Str)) = false := by decide) : PE X (.Name x pos) (tC v) :=
  ⟨fun _ _ _ H _ I h => ld_blt I hg hm hv ⟨v, H, I, r, h⟩ hn hd⟩

/-! ### arithmetic -/
/-- two ints -/
def t2I (ta tb : TE) (k : Int → Int → Hp → Prop) : St → Hp → Prop := fun σ H => ta σ H fun x H1 => tb σ H1 fun y H2 => ∃ i j, x = .int i ∧ y = .int j ∧ k i j H2
def tAdd (ta tb : TE) : TE := fun σ H Q => t2I ta tb (fun i j H2 => Q (.int (i + j)) H2) σ H
def tSub (ta tb : TE) : TE := fun σ H Q => t2I ta tb (fun i j H2 => Q (.int (i - j)) H2) σ H
/-- the left factor below 2^64 -/
def tMul (ta tb : TE) : TE := fun σ H Q => t2I ta tb (fun i j H2 => (-(2 ^ 64) < i ∧ i < 2 ^ 64) ∧ Q (.int (i * j)) H2) σ H
variable {a b : Expr} {ta tb : TE} {pos : Pos}
theorem pe_add (ha : PE X a ta) (hb : PE X b tb) : PE X (.BinOp a .Add b pos) (tAdd ta tb) := by
  refine ⟨?_⟩
  intro pins s σ H Q I h
  refine wpAny_BinOp (bin ha hb I h fun v u s2 x y H2 I2 rx ry q => ?_)
  obtain ⟨i, j, rfl, rfl, q⟩ := q
  obtain ⟨t, rfl⟩ := rx
  obtain ⟨t', rfl⟩ := ry
  exact add_int ⟨.int _, H2, I2.tok _, ⟨_, rfl⟩, q⟩
theorem pe_sub (ha : PE X a ta) (hb : PE X b tb) : PE X (.BinOp a .Sub b pos) (tSub ta tb) := by
  refine ⟨?_⟩
  intro pins s σ H Q I h
  refine wpAny_BinOp (bin ha hb I h fun v u s2 x y H2 I2 rx ry q => ?_)
  obtain ⟨i, j, rfl, rfl, q⟩ := q
  obtain ⟨t, rfl⟩ := rx
  obtain ⟨t', rfl⟩ := ry
  exact sub_int ⟨.int _, H2, I2.tok _, ⟨_, rfl⟩, q⟩
theorem pe_mul (ha : PE X a ta) (hb : PE X b tb) : PE X (.BinOp a .Mult b pos) (tMul ta tb) := by
  refine ⟨?_⟩
  intro pins s σ H Q I h
  refine wpAny_BinOp (bin ha hb I h fun v u s2 x y H2 I2 rx ry q => ?_)
  obtain ⟨i, j, rfl, rfl, ⟨q1, q2⟩, q⟩ := q
  obtain ⟨t, rfl⟩ := rx
  obtain ⟨t', rfl⟩ := ry
  exact mul_int ⟨.int _, H2, I2.tok _, ⟨_, rfl⟩, q⟩ (.of_left (intBits_le_64 q1 q2))

/-! ### comparisons -/
def PC (X : Cx) (op : CmpOp) (a b : Expr) (t : TE) : Prop :=
  ∀ (pins : List (Addr × Obj)) (s : Shared) (σ : St) (H : Hp) (Q : VK), Inv X pins σ H s → t σ H Q →
    wpAny (model X.prog X.w) X.A (eval a X.env) (fun v s₁ => wpAny (model X.prog X.w) X.A (eval b X.env) (fun u s₂ => wpAny (model X.prog X.w) X.A (compareOp op v u) (EP X pins σ Q) X.xe s₂) X.xe s₁) X.xe s
theorem nobehind (b : Expr) {op : CmpOp} (h : op ≠ .In) (h2 : op ≠ .NotIn) : behindInMarks op b = false := by
  have e1 : (op == CmpOp.In) = false := by cases op <;> first | rfl | exact absurd rfl h
  have e2 : (op == CmpOp.NotIn) = false := by cases op <;> first | rfl | exact absurd rfl h2
  cases b <;> simp [behindInMarks, e1, e2]
def tCmp (p : Int → Int → Bool) (ta tb : TE) : TE := fun σ H Q => t2I ta tb (fun i j H2 => Q (.bl (p i j)) H2) σ H
abbrev tLt : TE → TE → TE := tCmp fun i j => decide (i < j)
abbrev tLe : TE → TE → TE := tCmp fun i j => decide (i ≤ j)
abbrev tGt : TE → TE → TE := tCmp fun i j => decide (j < i)
abbrev tGe : TE → TE → TE := tCmp fun i j => decide (j ≤ i)
abbrev tEqI : TE → TE → TE := tCmp fun i j => decide (i = j)
abbrev tNeI : TE → TE → TE := tCmp fun i j => !decide (i = j)
/-- a comparison of two ints, by its rule -/
theorem pc_int {op : CmpOp} {p : Int → Int → Bool} (ha : PE X a ta) (hb : PE X b tb)
    (rule : ∀ (i j : Int) (t u : Tok) (Q : Value → Shared → Prop) (s : Shared), Q (.bool (p i j)) s → wpAny (model X.prog X.w) X.A (compareOp op (.int i t) (.int j u)) Q X.xe s) : PC X op a b (tCmp p ta tb) := by
  intro pins s σ H Q I h
  refine bin ha hb I h fun v u s2 x y H2 I2 rx ry q => ?_
  obtain ⟨i, j, rfl, rfl, q⟩ := q
  obtain ⟨t, rfl⟩ := rx
  obtain ⟨t', rfl⟩ := ry
  exact rule i j t t' _ s2 ⟨.bl _, H2, I2, rfl, q⟩
theorem pc_lt (ha : PE X a ta) (hb : PE X b tb) : PC X .Lt a b (tLt ta tb) := pc_int ha hb fun _ _ _ _ _ _ h => lt_int h
theorem pc_le (ha : PE X a ta) (hb : PE X b tb) : PC X .LtE a b (tLe ta tb) := pc_int ha hb fun _ _ _ _ _ _ h => le_int h
theorem pc_gt (ha : PE X a ta) (hb : PE X b tb) : PC X .Gt a b (tGt ta tb) := pc_int ha hb fun _ _ _ _ _ _ h => gt_int h
theorem pc_ge (ha : PE X a ta) (hb : PE X b tb) : PC X .GtE a b (tGe ta tb) := pc_int ha hb fun _ _ _ _ _ _ h => ge_int h
theorem pc_eqI (ha : PE X a ta) (hb : PE X b tb) : PC X .Eq a b (tEqI ta tb) := pc_int ha hb fun _ _ _ _ _ _ h => eq_int (by rw [Bool.beq_eq_decide_eq]; exact h)
theorem pc_neI (ha : PE X a ta) (hb : PE X b tb) : PC X .NotEq a b (tNeI ta tb) := pc_int ha hb fun _ _ _ _ _ _ h => ne_int (by rw [bne, Bool.beq_eq_decide_eq]; exact h)
/-- is None -/
def tIsN (ta : TE) : TE := fun σ H Q => ta σ H fun x H1 => Q (.bl (decide (x = .non))) H1
def tNotN (ta : TE) : TE := fun σ H Q => ta σ H fun x H1 => Q (.bl (!decide (x = .non))) H1
theorem RelV.none_iff {x : V} {v : Value} (r : RelV x v) : (v == Value.none) = decide (x = .non) := by
  cases x with
  | non => cases r; rfl
  | bl _ => cases r; rfl
  | int _ => obtain ⟨t, rfl⟩ := r; rfl
  | str _ => obtain ⟨t, rfl⟩ := r; rfl
  | byt _ => obtain ⟨t, rfl⟩ := r; rfl
  | flt _ => obtain ⟨t, rfl⟩ := r; rfl
  | ref _ => cases r; rfl
  | ty _ => cases r; rfl
theorem pc_isN {j pos'} (ha : PE X a ta) : PC X .Is a (.Constant .none j pos') (tIsN ta) := by
  intro pins s σ H Q I h
  refine thn (ha pins s σ H _ I h) fun v s1 ⟨x, H1, I1, r1, q1⟩ => ?_
  exact Constant_none (is_none_gen ⟨.bl _, H1, I1, by rw [r1.none_iff]; rfl, q1⟩)
theorem pc_notN {j pos'} (ha : PE X a ta) : PC X .IsNot a (.Constant .none j pos') (tNotN ta) := by
  intro pins s σ H Q I h
  refine thn (ha pins s σ H _ I h) fun v s1 ⟨x, H1, I1, r1, q1⟩ => ?_
  exact Constant_none (isnot_none_gen ⟨.bl _, H1, I1, by rw [r1.none_iff]; rfl, q1⟩)
/-- a comparison as a value, as a test -/
def tB (t : TE) : TT := fun σ H Q => t σ H fun x H1 => ∃ c, x = .bl c ∧ Q c H1
theorem pe_cmp {op : CmpOp} {t : TE} (h : PC X op a b t) (h1 : behindInMarks op b = false := by first | exact nobehind _ (by decide) (by decide) | rfl) : PE X (.Compare a [op] [b] pos) t := ⟨fun pins s σ H Q I hw => wpAny_Compare1 (h pins s σ H Q I hw) h1⟩
theorem pt_cmp {op : CmpOp} {t : TE} (h : PC X op a b t) (h1 : behindInMarks op b = false := by first | exact nobehind _ (by decide) (by decide) | rfl) : PT X (.Compare a [op] [b] pos) (tB t) := by
  refine ⟨?_⟩
  intro pins s σ H Q I hw
  refine wpAny_isTrue_Compare1 (thn (h pins s σ H _ I hw) fun v s1 h1 => thn h1 fun u s2 h2 => thn h2 fun c s3 ⟨x, H1, I1, r1, q1⟩ => ?_) h1
  obtain ⟨d, rfl, q⟩ := q1
  cases r1
  exact wpAny_truthy_bool ⟨H1, I1, q⟩
/-- an expression whose value is a bool, as a test -/
theorem pt_val {e : Expr} {t : TE} (h : PE X e t) (he : ∀ whole, isTrue e X.env whole = (do let v ← whole; standAt e.pos; holding [v] (truthy v)) := by intro _; rfl) : PT X e (tB t) := by
  refine ⟨?_⟩
  intro pins s σ H Q I hw
  refine isTrue_plain (thn (h pins s σ H _ I hw) fun v s1 ⟨x, H1, I1, r1, q1⟩ => ?_) (he _)
  obtain ⟨d, rfl, q⟩ := q1
  cases r1
  exact wpAny_truthy_bool ⟨H1, I1, q⟩

/-! ### and, or, not -/
variable {tA tB' : TT} {rest : List Expr}
def tAnd (t u : TT) : TT := fun σ H Q => t σ H fun c H1 => if c = true then u σ H1 Q else Q false H1
def tOr (t u : TT) : TT := fun σ H Q => t σ H fun c H1 => if c = true then Q true H1 else u σ H1 Q
def tNot (t : TT) : TT := fun σ H Q => t σ H fun c H1 => Q (!c) H1
theorem pw_and1 (ha : PT X a tA) : PW X (.BoolOp .And [a] pos) tA := by
  intro wh pins s σ H Q I h
  refine isTrue_and (thn (ha pins s σ H Q I h) fun c s1 e => ?_)
  cases c with
  | true => exact isTrue_and_nil e
  | false => exact e
theorem pw_or1 (ha : PT X a tA) : PW X (.BoolOp .Or [a] pos) tA := by
  intro wh pins s σ H Q I h
  refine isTrue_or (thn (ha pins s σ H Q I h) fun c s1 e => ?_)
  cases c with
  | false => exact isTrue_or_nil e
  | true => exact e
theorem pw_and (ha : PT X a tA) (hb : PW X (.BoolOp .And (b :: rest) pos) tB') : PW X (.BoolOp .And (a :: b :: rest) pos) (tAnd tA tB') := by
  intro wh pins s σ H Q I h
  refine isTrue_and (thn (ha pins s σ H _ I h) fun c s1 ⟨H1, I1, q1⟩ => ?_)
  cases c with
  | true => exact hb wh pins s1 σ H1 Q I1 q1
  | false => exact ⟨H1, I1, q1⟩
theorem pw_or (ha : PT X a tA) (hb : PW X (.BoolOp .Or (b :: rest) pos) tB') : PW X (.BoolOp .Or (a :: b :: rest) pos) (tOr tA tB') := by
  intro wh pins s σ H Q I h
  refine isTrue_or (thn (ha pins s σ H _ I h) fun c s1 ⟨H1, I1, q1⟩ => ?_)
  cases c with
  | true => exact ⟨H1, I1, q1⟩
  | false => exact hb wh pins s1 σ H1 Q I1 q1
theorem pt_not (ha : PT X a tA) : PT X (.UnaryOp .Not a pos) (tNot tA) := by
  refine ⟨?_⟩
  intro pins s σ H Q I h
  exact isTrue_not (ha pins s σ H (fun c H1 => Q (!c) H1) I h)
/-- .. as values (bools) -/
def tAndV (ta tb : TE) : TE := fun σ H Q => ta σ H fun x H1 => ∃ c, x = .bl c ∧ if c = true then tb σ H1 Q else Q (.bl false) H1
def tOrV (ta tb : TE) : TE := fun σ H Q => ta σ H fun x H1 => ∃ c, x = .bl c ∧ if c = true then Q (.bl true) H1 else tb σ H1 Q
def tNotV (ta : TE) : TE := fun σ H Q => ta σ H fun x H1 => ∃ c, x = .bl c ∧ Q (.bl (!c)) H1
theorem pe_one {op} {t : TE} (h : PE X a t) : PE X (.BoolOp op [a] pos) t := ⟨fun pins s σ H Q I hw => BoolOp_one (h pins s σ H Q I hw)⟩
theorem pe_and (ha : PE X a ta) (hb : PE X (.BoolOp .And (b :: rest) pos) tb) : PE X (.BoolOp .And (a :: b :: rest) pos) (tAndV ta tb) := by
  refine ⟨?_⟩
  intro pins s σ H Q I h
  refine BoolOp_and (thn (ha pins s σ H _ I h) fun v s1 ⟨x, H1, I1, r1, q1⟩ => ?_)
  obtain ⟨c, rfl, q1⟩ := q1
  cases r1
  refine wpAny_truthy_bool ?_
  cases c with
  | true => exact hb pins s1 σ H1 Q I1 q1
  | false => exact ⟨.bl false, H1, I1, rfl, q1⟩
theorem pe_or (ha : PE X a ta) (hb : PE X (.BoolOp .Or (b :: rest) pos) tb) : PE X (.BoolOp .Or (a :: b :: rest) pos) (tOrV ta tb) := by
  refine ⟨?_⟩
  intro pins s σ H Q I h
  refine BoolOp_or (thn (ha pins s σ H _ I h) fun v s1 ⟨x, H1, I1, r1, q1⟩ => ?_)
  obtain ⟨c, rfl, q1⟩ := q1
  cases r1
  refine wpAny_truthy_bool ?_
  cases c with
  | false => exact hb pins s1 σ H1 Q I1 q1
  | true => exact ⟨.bl true, H1, I1, rfl, q1⟩
theorem pe_not (ha : PE X a ta) : PE X (.UnaryOp .Not a pos) (tNotV ta) := by
  refine ⟨?_⟩
  intro pins s σ H Q I h
  refine UnaryOp_ (thn (ha pins s σ H _ I h) fun v s1 ⟨x, H1, I1, r1, q1⟩ => ?_)
  obtain ⟨c, rfl, q1⟩ := q1
  cases r1
  exact not_of (wpAny_truthy_bool ⟨.bl (!c), H1, I1, rfl, q1⟩)
/-- a if t else b -/
def tIf (t : TT) (ta tb : TE) : TE := fun σ H Q => t σ H fun c H1 => if c = true then ta σ H1 Q else tb σ H1 Q
theorem pe_ifExp {c : Expr} (hc : PT X c tA) (ha : PE X a ta) (hb : PE X b tb) : PE X (.IfExp c a b pos) (tIf tA ta tb) := by
  refine ⟨?_⟩
  intro pins s σ H Q I h
  refine wpAny_IfExp (thn (hc pins s σ H _ I h) fun d s1 ⟨H1, I1, q1⟩ => ?_)
  cases d with
  | true => exact ha pins s1 σ H1 Q I1 q1
  | false => exact hb pins s1 σ H1 Q I1 q1
end
end L2

namespace L2
open PySem PySem.Spec PyProof.Rows

/-! ### a list, a tuple that is read: tracked, frozen, or an object of the module -/
def SqL (K : PySem.W.Frag) (H : Hp) (a : Addr) (xs : List V) : Prop :=
  Rd H a (.lst xs) ∨
    ∃ (o : Obj) (its : Array Value) (n : Nat), K.lookup a = some o ∧ o.cls = .type "list" ∧ o.dict = none ∧ o.data = .seq its n ∧ its.size ≤ sizeLine ∧ Vals xs its.toList
def SqT (K : PySem.W.Frag) (H : Hp) (a : Addr) (xs : List V) : Prop :=
  Rd H a (.tup xs) ∨
    ∃ (o : Obj) (its : Array Value) (n : Nat), K.lookup a = some o ∧ o.cls = .type "tuple" ∧ o.data = .seq its n ∧ its.size ≤ sizeLine ∧ Vals xs its.toList
def absV : Value → Option V
  | .none => some .non
  | .bool b => some (.bl b)
  | .int i _ => some (.int i)
  | .str x _ => some (.str x)
  | .bytes b _ => some (.byt b)
  | .float b _ => some (.flt b)
  | .ref a => some (.ref a)
  | .type n => some (.ty n)
  | _ => none
theorem RelV.abs {x : V} {u : Value} (r : RelV x u) : absV u = some x := by
  cases x with
  | non => cases r; rfl
  | bl _ => cases r; rfl
  | int _ => obtain ⟨t, rfl⟩ := r; rfl
  | str _ => obtain ⟨t, rfl⟩ := r; rfl
  | byt _ => obtain ⟨t, rfl⟩ := r; rfl
  | flt _ => obtain ⟨t, rfl⟩ := r; rfl
  | ref _ => cases r; rfl
  | ty _ => cases r; rfl
theorem RelV.inj {x y : V} {u : Value} (r : RelV x u) (q : RelV y u) : x = y := Option.some.inj (r.abs.symm.trans q.abs)
theorem Vals.inj : ∀ {xs ys : List V} {us : List Value}, Vals xs us → Vals ys us → xs = ys
  | _, _, _, .nil, .nil => rfl
  | _, _, _, .cons r t, .cons r' t' => by rw [r.inj r', Vals.inj t t']
section
variable {X : Cx} {pins : List (Addr × Obj)} {σ : St} {H : Hp} {s : Shared} {a : Addr} {xs ys : List V}
theorem SqL.of {K : PySem.W.Frag} (h : H a = some (.lst xs)) : SqL K H a xs := .inl (.inl h)
theorem SqT.of {K : PySem.W.Frag} (h : H a = some (.tup xs)) : SqT K H a xs := .inl (.inl h)
theorem Inv.list (I : Inv X pins σ H s) (h : SqL X.K H a xs) : ∃ its : List Value, Vals xs its ∧ PlainL s.heap a its.toArray ∧ xs.length ≤ sizeLine := by
  rcases h with h | ⟨o, its, n, hk, hc, hd, hs, hz, r⟩
  · obtain ⟨z, its, n, r, e⟩ := h.ok I.hok
    exact ⟨its, r, ⟨_, n, e, rfl, rfl, rfl⟩, z⟩
  · refine ⟨its.toList, r, ⟨o, n, I.kIn a o hk, hc, hd, by simpa using hs⟩, ?_⟩
    have e := r.length
    simp only [Array.length_toList] at e
    omega
theorem Inv.tuple (I : Inv X pins σ H s) (h : SqT X.K H a xs) : ∃ its : List Value, Vals xs its ∧ IsTup s.heap a its.toArray ∧ xs.length ≤ sizeLine := by
  rcases h with h | ⟨o, its, n, hk, hc, hs, hz, r⟩
  · obtain ⟨z, its, r, p⟩ := h.ok I.hok
    exact ⟨its, r, p, z⟩
  · refine ⟨its.toList, r, ⟨o, I.kIn a o hk, hc, n, by simpa using hs⟩, ?_⟩
    have e := r.length
    simp only [Array.length_toList] at e
    omega
theorem Inv.list_inj (I : Inv X pins σ H s) (h : SqL X.K H a xs) (h' : SqL X.K H a ys) : xs = ys := by
  obtain ⟨its, r, ⟨o, n, e, _, _, d⟩, _⟩ := I.list h
  obtain ⟨its', r', ⟨o', n', e', _, _, d'⟩, _⟩ := I.list h'
  rw [e] at e'; cases e'
  rw [d] at d'
  injection d' with d1 _
  have : its = its' := by simpa using congrArg Array.toList d1
  subst this
  exact r.inj r'
theorem Inv.tuple_inj (I : Inv X pins σ H s) (h : SqT X.K H a xs) (h' : SqT X.K H a ys) : xs = ys := by
  obtain ⟨its, r, ⟨o, e, _, n, d⟩, _⟩ := I.tuple h
  obtain ⟨its', r', ⟨o', e', _, n', d'⟩, _⟩ := I.tuple h'
  rw [e] at e'; cases e'
  rw [d] at d'
  injection d' with d1 _
  have : its = its' := by simpa using congrArg Array.toList d1
  subst this
  exact r.inj r'
end

/-! ### another wish about exceptions -/
abbrev Cx.wish (X : Cx) (E : Value → Shared → Prop) : Cx := { X with xe := E }
/-- no exception leaves -/
abbrev Cx.nox (X : Cx) : Cx := X.wish fun _ _ => False
theorem Cx.Ok.wish {X : Cx} (ok : X.Ok) (E : Value → Shared → Prop) : (X.wish E).Ok :=
  ⟨ok.mod, ok.kind, ok.glob, ok.blt, ok.above, ok.inj, ok.has, ok.cab, ok.hd, ok.frames, ok.stk, ok.exf, ok.bs, ok.bsz, ok.noex, ok.exfs, ok.funs, ok.frf⟩
theorem Cx.Ok.unwish {X : Cx} {E : Value → Shared → Prop} (ok : (X.wish E).Ok) : X.Ok :=
  ⟨ok.mod, ok.kind, ok.glob, ok.blt, ok.above, ok.inj, ok.has, ok.cab, ok.hd, ok.frames, ok.stk, ok.exf, ok.bs, ok.bsz, ok.noex, ok.exfs, ok.funs, ok.frf⟩
section
variable {X : Cx} {pins : List (Addr × Obj)} {σ : St} {H : Hp} {s : Shared} {E : Value → Shared → Prop}
theorem Inv.wish (I : Inv X pins σ H s) (E : Value → Shared → Prop) : Inv (X.wish E) pins σ H s := ⟨I.ok.wish E, I.os, I.bare, I.base, I.loc, I.cell, I.free, I.freeC, I.pin, I.hok, I.len⟩
theorem Inv.unwish (I : Inv (X.wish E) pins σ H s) : Inv X pins σ H s := ⟨I.ok.unwish, I.os, I.bare, I.base, I.loc, I.cell, I.free, I.freeC, I.pin, I.hok, I.len⟩
theorem SP.unwish {D : Ends} {f : Flow} {s' : Shared} (h : SP (X.wish E) pins D f s') : SP X pins D f s' := by
  cases f with
  | next => obtain ⟨σ', H', I, q⟩ := h; exact ⟨σ', H', I.unwish, q⟩
  | brk => obtain ⟨σ', H', I, q⟩ := h; exact ⟨σ', H', I.unwish, q⟩
  | cont => obtain ⟨σ', H', I, q⟩ := h; exact ⟨σ', H', I.unwish, q⟩
  | ret u => obtain ⟨v, σ', H', I, r, q⟩ := h; exact ⟨v, σ', H', I.unwish, r, q⟩
theorem PE.nox {e : Expr} {t : TE} (h : PE X.nox e t) : PE X e t := ⟨fun pins s σ H Q I hw =>
  wpAny_mono (h pins s σ H Q (I.wish _) hw) (fun _ _ ⟨v, H', I', r, q⟩ => ⟨v, H', I'.unwish, r, q⟩) fun _ _ z => False.elim z⟩
theorem PT.nox {e : Expr} {t : TT} (h : PT X.nox e t) : PT X e t := ⟨fun pins s σ H Q I hw =>
  wpAny_mono (h pins s σ H Q (I.wish _) hw) (fun _ _ ⟨H', I', q⟩ => ⟨H', I'.unwish, q⟩) fun _ _ z => False.elim z⟩
theorem PSs.nox {st : List Stmt} {t : TS} (h : PSs X.nox st t) : PSs X st t := ⟨fun pins s σ H D I hw =>
  wpAny_mono (h pins s σ H D (I.wish _) hw) (fun _ _ q => q.unwish) fun _ _ z => False.elim z⟩
end

/-! ### blocks and small statements -/
section
variable {X : Cx} {st : Stmt} {rest : List Stmt} {t u : TS} {e : Expr} {te : TE} {pos : Pos}
def tNext : TS := fun D σ H => D.nx σ H
def tSeq (t u : TS) : TS := fun D σ H => t { D with nx := u D } σ H
theorem pss_nil : PSs X [] tNext := ⟨fun _ _ σ H _ I h => wpAny_execs_nil ⟨σ, H, I, h⟩⟩
theorem pss_cons (h1 : PS X st t) (h2 : PSs X rest u) : PSs X (st :: rest) (tSeq t u) := by
  refine ⟨?_⟩
  intro pins s σ H D I h
  refine wpAny_execs_cons (thn (h1 pins s σ H { D with nx := u D } I h) fun f s1 q => ?_)
  cases f with
  | next =>
    obtain ⟨σ', H', I', q⟩ := q
    exact h2 pins s1 σ' H' D I' q
  | ret v => exact q
  | brk => exact q
  | cont => exact q
theorem pss_one (h1 : PS X st t) : PSs X [st] t := by
  refine ⟨?_⟩
  intro pins s σ H D I h
  refine wpAny_execs_cons (thn (h1 pins s σ H D I h) fun f s1 q => ?_)
  cases f with
  | next => exact wpAny_execs_nil q
  | ret v => exact q
  | brk => exact q
  | cont => exact q
def tBreak : TS := fun D σ H => D.bk σ H
def tCont : TS := fun D σ H => D.ct σ H
theorem ps_pass : PS X (.Pass pos) tNext := ⟨fun _ _ σ H _ I h => wpAny_Pass ⟨σ, H, I, h⟩⟩
theorem ps_break : PS X (.Break pos) tBreak := ⟨fun _ _ σ H _ I h => wpAny_Break ⟨σ, H, I, h⟩⟩
theorem ps_continue : PS X (.Continue pos) tCont := ⟨fun _ _ σ H _ I h => wpAny_Continue ⟨σ, H, I, h⟩⟩
/-- in a def's body nothing is shown -/
theorem Inv.quiet {pins : List (Addr × Obj)} {σ : St} {H : Hp} {s : Shared} (I : Inv X pins σ H s) : interactive X.env = false := by simp [interactive, I.ok.kind]
/-- a docstring -/
theorem ps_doc {x j pos pos'} : PS X (.Expr (.Constant (.str x) j pos) pos') tNext := ⟨fun _ s σ H _ I h => wpAny_Expr (Calls.Constant_str (show SP X _ _ .next { s with toks := s.toks + 1 } from ⟨σ, H, I.tok _, h⟩)) I.quiet⟩
/-- an expression whose value is dropped -/
def tDrop (te : TE) : TS := fun D σ H => te σ H fun _ H1 => D.nx σ H1
theorem ps_expr (he : PE X e te) (hs : swapsWith e none pos.line X.env = pure false := by rfl) : PS X (.Expr e pos) (tDrop te) := by
  refine ⟨?_⟩
  intro pins s σ H D I h
  exact wpAny_Expr_any (thn (he pins s σ H _ I h) fun v s1 ⟨x, H1, I1, r1, q1⟩ => ⟨σ, H1, I1, q1⟩) I.quiet hs
def tRet (te : TE) : TS := fun D σ H => te σ H D.rt
theorem ps_ret (he : PE X e te) : PS X (.Return (some e) pos) (tRet te) := by
  refine ⟨?_⟩
  intro pins s σ H D I h
  exact wpAny_Return_some (thn (he pins s σ H _ I h) fun v s1 ⟨x, H1, I1, r1, q1⟩ => ⟨x, σ, H1, I1, r1, q1⟩)
def tRetN : TS := fun D _ H => D.rt .non H
theorem ps_retN : PS X (.Return none pos) tRetN := ⟨fun _ _ σ H _ I h => wpAny_Return_none ⟨.non, σ, H, I, rfl, h⟩⟩
def tIfS (c : TT) (t u : TS) : TS := fun D σ H => c σ H fun b H1 => if b = true then t D σ H1 else u D σ H1
theorem ps_if {c : Expr} {a b : List Stmt} {tc : TT} (hc : PT X c tc) (ha : PSs X a t) (hb : PSs X b u) : PS X (.If c a b pos) (tIfS tc t u) := by
  refine ⟨?_⟩
  intro pins s σ H D I h
  refine wpAny_If (thn (hc pins s σ H _ I h) fun d s1 ⟨H1, I1, q1⟩ => ?_)
  cases d with
  | true => exact ha pins s1 σ H1 D I1 q1
  | false => exact hb pins s1 σ H1 D I1 q1
/-- code that the proof never comes to -/
def tNever : TS := fun _ _ _ => False
theorem ps_never : PS X st tNever := ⟨fun _ _ _ _ _ _ h => h.elim⟩
theorem pss_never {sts : List Stmt} : PSs X sts tNever := ⟨fun _ _ _ _ _ _ h => h.elim⟩
end

/-! ### targets -/
abbrev TG := V → St → Hp → (St → Hp → Prop) → Prop
abbrev TGs := List V → St → Hp → (St → Hp → Prop) → Prop
def PG (X : Cx) (target : Expr) (t : TG) : Prop :=
  ∀ (pins : List (Addr × Obj)) (s : Shared) (σ : St) (H : Hp) (v : V) (u : Value) (Q : St → Hp → Prop), Inv X pins σ H s → RelV v u → t v σ H Q →
    wpAny (model X.prog X.w) X.A (assign target X.env u) (fun _ s' => ∃ σ' H', Inv X pins σ' H' s' ∧ Q σ' H') X.xe s
/-- several targets, one after another -/
def PGs (X : Cx) (ts : List Expr) (t : TGs) : Prop :=
  ∀ (pins : List (Addr × Obj)) (s : Shared) (σ : St) (H : Hp) (vs : List V) (us : List Value) (Q : St → Hp → Prop), Inv X pins σ H s → Vals vs us → t vs σ H Q →
    wpAny (model X.prog X.w) X.A (assignInOrder ((assignEach ts X.env).map (·.2)) us) (fun _ s' => ∃ σ' H', Inv X pins σ' H' s' ∧ Q σ' H') X.xe s
/-- o[i] = v, by values -/
abbrev TSet := V → V → V → Hp → (Hp → Prop) → Prop
def PSet (X : Cx) (t : TSet) : Prop :=
  ∀ (pins : List (Addr × Obj)) (s : Shared) (σ : St) (H : Hp) (o i v : V) (ov iv u : Value) (Q : Hp → Prop), Inv X pins σ H s → RelV o ov → RelV i iv → RelV v u → t o i v H Q →
    wpAny (model X.prog X.w) X.A (setItem ov iv u) (fun _ s' => ∃ H', Inv X pins σ H' s' ∧ Q H') X.xe s
/-- a op= b, by values -/
abbrev TIp := V → V → Hp → VK → Prop
def PIp (X : Cx) (op : Operator) (t : TIp) : Prop :=
  ∀ (pins : List (Addr × Obj)) (s : Shared) (σ : St) (H : Hp) (x y : V) (v u : Value) (Q : VK), Inv X pins σ H s → RelV x v → RelV y u → t x y H Q →
    wpAny (model X.prog X.w) X.A (inplaceOp op v u) (EP X pins σ Q) X.xe s
section
variable {X : Cx} {pos : Pos}
def gName (i : Nat) : TG := fun v σ H Q => Q (σ.set i (some v)) H
theorem pg_name {i : Nat} {x : Str} (hN : X.N.Nodup) (hi : X.N[i]? = some x) (hx : Loc X.env.scope x) (hf : X.fn x = true ∨ X.env.scope.names.lookup x = some .local := by first | exact .inl rfl | exact .inr rfl | assumption) : PG X (.Name x pos) (gName i) := by
  intro pins s σ H v u Q I r h
  exact wpAny_assign_Name (store_ok I hN hi hx r (fun s' I' => ⟨_, H, I', h⟩) hf)
def gNil : TGs := fun vs σ H Q => vs = [] ∧ Q σ H
def gCons (t : TG) (u : TGs) : TGs := fun vs σ H Q => ∃ v r, vs = v :: r ∧ t v σ H fun σ' H' => u r σ' H' Q
theorem pgs_nil : PGs X [] gNil := by
  intro pins s σ H vs us Q I r h
  obtain ⟨e, h⟩ := h
  subst e
  cases r
  exact assignInOrder_nil ⟨σ, H, I, h⟩
theorem pgs_cons {e : Expr} {es : List Expr} {t : TG} {u : TGs} (h1 : PG X e t) (h2 : PGs X es u)
    (hs : (assignEach (e :: es) X.env).map (·.2) = assign e X.env :: (assignEach es X.env).map (·.2) := by rfl) : PGs X (e :: es) (gCons t u) := by
  intro pins s σ H vs us Q I r h
  obtain ⟨v, vr, e1, h⟩ := h
  subst e1
  cases r with
  | cons r rr =>
    rw [hs]
    refine assignInOrder_cons (thn (h1 pins s σ H _ _ _ I r h) fun _ s1 ⟨σ1, H1, I1, q1⟩ => ?_)
    exact h2 pins s1 σ1 H1 _ _ Q I1 rr q1
/-- (a, b, ..) = a tuple of that length -/
def gTup (K : PySem.W.Frag) (n : Nat) (t : TGs) : TG := fun v σ H Q => ∃ a xs, v = .ref a ∧ SqT K H a xs ∧ xs.length = n ∧ t xs σ H Q
theorem pg_tup {es : List Expr} {k : Nat} {t : TGs} {n : Nat} (hc : X.calm = true) (h : PGs X es t)
    (hn : (assignEach es X.env).length = n := by rfl) (hst : (assignEach es X.env).findIdx? (·.1) = none := by rfl) : PG X (.Tuple es k pos) (gTup X.K n t) := by
  intro pins s σ H v u Q I r hw
  obtain ⟨a, xs, e1, hq, hl, hw⟩ := hw
  subst e1
  cases r
  obtain ⟨its, rv, ht, hz⟩ := I.tuple hq
  refine assign_Tuple_tuple (I.ok.hd hc) ht (by simp [hn, ← hl, rv.length]) hst fun h' hx => ?_
  have I1 : Inv X pins σ H { s with heap := h' } := I.kept (t' := s.toks) fun b o e => hx b o (Nat.ne_of_lt (Heap.lt_size e)) e
  exact h pins _ σ H xs _ Q I1 (by simpa using rv) hw
/-- o[i] = .. -/
def gSub (to ti : TE) (t : TSet) : TG := fun v σ H Q => to σ H fun o H1 => ti σ H1 fun i H2 => t o i v H2 fun H3 => Q σ H3
theorem pg_sub {o i : Expr} {to ti : TE} {t : TSet} (ho : PE X o to) (hi : PE X i ti) (hs : PSet X t)
    (ha : ∀ v, assign (.Subscript o i pos) X.env v = (do
      let ov ← holding [v] (eval o X.env)
      let iv ← holding [v, ov] (eval i X.env)
      standAt pos
      holding [v, ov, iv] (setItem ov iv v)
      release [v, ov, iv] []) := by intro _; rfl) : PG X (.Subscript o i pos) (gSub to ti t) := by
  intro pins s σ H v u Q I r h
  rw [ha]
  refine wpAny_bind (wpAny_holding (thn (ho pins s σ H _ I h) fun ov s1 ⟨x, H1, I1, r1, q1⟩ => ?_))
  refine wpAny_bind (wpAny_holding (thn (hi pins s1 σ H1 _ I1 q1) fun iv s2 ⟨y, H2, I2, r2, q2⟩ => ?_))
  refine wpAny_bind (wpAny_standAt (wpAny_bind (wpAny_holding (thn (hs pins s2 σ H2 x y v ov iv u _ I2 r1 r2 r q2) fun _ s3 ⟨H3, I3, q3⟩ => ?_))))
  exact wpAny_release ⟨σ, H3, I3, q3⟩
/-- target = value -/
def tAsg (te : TE) (g : TG) : TS := fun D σ H => te σ H fun x H1 => g x σ H1 D.nx
theorem ps_asg {tg e : Expr} {te : TE} {g : TG} (he : PE X e te) (hg : PG X tg g) (hs : swapsWithSole [tg] e pos.line X.env = pure false := by rfl) (hw : swappedStores [tg] e X.env = pure none := by rfl)
    (h1 : (assignEach [tg] X.env).map (·.2) = [assign tg X.env] := by rfl) : PS X (.Assign [tg] e pos) (tAsg te g) := by
  refine ⟨?_⟩
  intro pins s σ H D I h
  refine wpAny_Assign_stores (thn (he pins s σ H _ I h) fun v s1 ⟨x, H1, I1, r1, q1⟩ => ?_) hs hw
  rw [h1]
  exact thn (hg pins s1 σ H1 x v _ I1 r1 q1) fun _ s2 q => q
/-- name = value -/
theorem ps_set {i : Nat} {x : Str} {e : Expr} {te : TE} {pos' : Pos} (hN : X.N.Nodup) (hi : X.N[i]? = some x) (hx : Loc X.env.scope x) (he : PE X e te) (hs : swapsWith e (some (.Name x pos')) pos.line X.env = pure false := by rfl) (hf : X.fn x = true ∨ X.env.scope.names.lookup x = some .local := by first | exact .inl rfl | exact .inr rfl | assumption) :
    PS X (.Assign [.Name x pos'] e pos) (tAsg te (gName i)) := by
  refine ⟨?_⟩
  intro pins s σ H D I h
  refine wpAny_Assign_Name (thn (he pins s σ H _ I h) fun v s1 ⟨y, H1, I1, r1, q1⟩ => ?_) hs
  exact store_ok I1 hN hi hx r1 (fun s2 I2 => ⟨_, H1, I2, q1⟩) hf
/-- a, b = x, y with plain local names: stored from the right; the pair itself is not tracked (the opening rows as in PyProof/Rows/TupAssign.lean:23) -/
def tPar (i j : Nat) (ta : TA) : TS := fun D σ H => ta σ H fun vs H1 => ∃ v w, vs = [v, w] ∧ D.nx ((σ.set i (some v)).set j (some w)) H1
theorem ps_par {i j : Nat} {x y : Str} {a b : Expr} {ta : TA} {px py pt : Pos} {kt k2 pt2} (hc : X.calm = true) (hN : X.N.Nodup) (hi : X.N[i]? = some x) (hj : X.N[j]? = some y) (hij : i ≠ j)
    (hx : X.env.scope.names.lookup x = some .local) (hy : X.env.scope.names.lookup y = some .local) (ha : PA X [a, b] ta)
    (hw : swappedStores [.Tuple [.Name x px, .Name y py] kt pt] (.Tuple [a, b] k2 pt2) X.env = pure (some [x, y]))
    (hs : swapsWithSole [.Tuple [.Name x px, .Name y py] kt pt] (.Tuple [a, b] k2 pt2) pos.line X.env = pure false := by rfl) :
    PS X (.Assign [.Tuple [.Name x px, .Name y py] kt pt] (.Tuple [a, b] k2 pt2) pos) (tPar i j ta) := by
  refine ⟨?_⟩
  intro pins s σ H D I h
  rw [exec_Assign_arm]
  refine wpAny_bind (wpAny_standAt ?_)
  rw [hs]
  refine wpAny_bind (wpAny_pure ?_)
  rw [if_neg (by decide)]
  refine wpAny_bind (Tuple_ (thn (ha _ pins s σ H _ I h) fun us s1 ⟨vs, H1, I1, r1, q1⟩ => ?_))
  obtain ⟨v, w, e1, q1⟩ := q1
  subst e1
  obtain ⟨u1, u2, rfl, rv, rw'⟩ : ∃ u1 u2, us = [u1, u2] ∧ RelV v u1 ∧ RelV w u2 := by
    cases r1 with
    | cons p q =>
      cases q with
      | cons p' q' =>
        cases q'
        exact ⟨_, _, rfl, p, p'⟩
  refine wpAny_newObj_type ?_ (by show 2 ≤ sizeLine; decide)
  have I2 : Inv X pins σ H1 { s1 with heap := s1.heap.push { cls := .type "tuple", data := .seq [u1, u2].toArray } } := I1.kept (t' := s1.toks) fun b o e => Heap.get?_push_of_some _ e
  rw [hw]
  refine wpAny_bind (wpAny_pure ?_)
  show wpAny (model X.prog X.w) X.A (do rule "assign.swapped-stores"; let items ← unpackItems (.ref s1.heap.objs.size) 2 none; assignInOrder [fun v => bindName X.env y v, fun v => bindName X.env x v] items.reverse; pure Flow.next) _ _ _
  refine wpAny_bind (wpAny_rule (wpAny_bind (unpackItems_tuple (items := #[u1, u2]) (I.ok.hd hc) (IsTup.new s1.heap _) fun h' hx' => ?_)))
  have I3 := I2.kept (h' := h') (t' := s1.toks) fun b o e => hx' b o (Nat.ne_of_lt (Heap.lt_size e)) e
  show wpAny _ _ (assignInOrder [fun v => bindName X.env y v, fun v => bindName X.env x v] [u2, u1] >>= fun _ => pure Flow.next) _ _ _
  refine wpAny_bind (assignInOrder_cons (wpAny_bindName (store_ok I3 hN hj (.inl hy) rw' (fun s2 I4 => ?_) (.inr hy))))
  refine assignInOrder_cons (wpAny_bindName (store_ok I4 hN hi (.inl hx) rv (fun s3 I5 => assignInOrder_nil (wpAny_pure ?_)) (.inr hx)))
  rw [List.set_comm _ _ (Ne.symm hij)] at I5
  exact ⟨_, H1, I5, q1⟩
/-- name op= e -/
def tAug (i : Nat) (te : TE) (ti : TIp) : TS := fun D σ H => ∃ x, σ[i]? = some (some x) ∧ te σ H fun y H1 => ti x y H1 fun z H2 => D.nx (σ.set i (some z)) H2
theorem ps_aug {i : Nat} {x : Str} {e : Expr} {te : TE} {op : Operator} {ti : TIp} {pos' : Pos} (hN : X.N.Nodup) (hi : X.N[i]? = some x) (hx : Loc X.env.scope x) (he : PE X e te) (ho : PIp X op ti) (hf : X.fn x = true ∨ X.env.scope.names.lookup x = some .local := by first | exact .inl rfl | exact .inr rfl | assumption) :
    PS X (.AugAssign (.Name x pos') op e pos) (tAug i te ti) := by
  refine ⟨?_⟩
  intro pins s σ H D I h
  obtain ⟨v, e1, h⟩ := h
  obtain ⟨m, hn, hl⟩ := I.loc
  have vis : Vis X.env.scope x := by rcases hx with k | k; exact .inl k; exact .inr (.inl k)
  obtain ⟨u, r, l⟩ := hl i x v hi e1 vis
  refine wpAny_AugAssign_Name ?_
  have go : wpAny (model X.prog X.w) X.A (eval e X.env) (fun w s₂ => wpAny (model X.prog X.w) X.A (inplaceOp op u w) (fun r s₃ => wpAny (model X.prog X.w) X.A (storeName X.env x r) (fun _ => SP X pins D .next) X.xe s₃) X.xe s₂) X.xe s := by
    refine thn (he pins s σ H _ I h) fun w s1 ⟨y, H1, I1, r1, q1⟩ => ?_
    refine thn (ho pins s1 σ H1 v y u w _ I1 r r1 q1) fun z s2 ⟨zv, H2, I2, r2, q2⟩ => ?_
    exact store_ok I2 hN hi hx r2 (fun s3 I3 => ⟨_, H2, I3, q2⟩) hf
  rcases l with ⟨hk, hm⟩ | ⟨hk, c, hc, hcell⟩
  · exact wpAny_loadName_local I.ok.kind hk hn hm go
  · rcases hk with hk | hk
    · exact wpAny_loadName_cell I.ok.kind hk hc hcell go
    · rcases hx with k | k
      · have : X.env.scope.names.lookup x = some .free := hk
        rw [k] at this; cases this
      · have : X.env.scope.names.lookup x = some .free := hk
        rw [k] at this; cases this
/-- o[i] op= e -/
def tAugS (to ti te : TE) (tget : V → V → Hp → VK → Prop) (tip : TIp) (tset : TSet) : TS := fun D σ H => to σ H fun o H1 => ti σ H1 fun i H2 => tget o i H2 fun x H3 => te σ H3 fun y H4 => tip x y H4 fun z H5 => tset o i z H5 fun H6 => D.nx σ H6
/-- o[i], by values -/
def PGet (X : Cx) (t : V → V → Hp → VK → Prop) : Prop :=
  ∀ (pins : List (Addr × Obj)) (s : Shared) (σ : St) (H : Hp) (o i : V) (ov iv : Value) (Q : VK), Inv X pins σ H s → RelV o ov → RelV i iv → t o i H Q →
    wpAny (model X.prog X.w) X.A (getItem ov iv) (EP X pins σ Q) X.xe s
theorem ps_augS {o i e : Expr} {to ti te : TE} {tget : V → V → Hp → VK → Prop} {tip : TIp} {tset : TSet} {op : Operator} {tpos : Pos} (ho : PE X o to) (hi : PE X i ti) (hg : PGet X tget) (he : PE X e te) (hp : PIp X op tip) (hs : PSet X tset)
    (ha : ∀ ov iv new, augStore i ov iv new = (do holding [new, ov, iv] (setItem ov iv new); release [new, ov, iv] []; pure .next) := by intros; rfl) : PS X (.AugAssign (.Subscript o i tpos) op e pos) (tAugS to ti te tget tip tset) := by
  refine ⟨?_⟩
  intro pins s σ H D I h
  refine wpAny_AugAssign_SubscriptAny (thn (ho pins s σ H _ I h) fun ov s1 ⟨x1, H1, I1, r1, q1⟩ => ?_) ha
  refine thn (hi pins s1 σ H1 _ I1 q1) fun iv s2 ⟨x2, H2, I2, r2, q2⟩ => ?_
  refine thn (hg pins s2 σ H2 x1 x2 ov iv _ I2 r1 r2 q2) fun old s3 ⟨x3, H3, I3, r3, q3⟩ => ?_
  refine thn (he pins s3 σ H3 _ I3 q3) fun v s4 ⟨x4, H4, I4, r4, q4⟩ => ?_
  refine thn (hp pins s4 σ H4 x3 x4 old v _ I4 r3 r4 q4) fun new s5 ⟨x5, H5, I5, r5, q5⟩ => ?_
  exact thn (hs pins s5 σ H5 x1 x2 x5 ov iv new _ I5 r1 r2 r5 q5) fun _ s6 ⟨H6, I6, q6⟩ => ⟨σ, H6, I6, q6⟩
/-- ints -/
def ipI (f : Int → Int → Int) : TIp := fun x y H Q => ∃ i j, x = .int i ∧ y = .int j ∧ Q (.int (f i j)) H
theorem ip_add : PIp X .Add (ipI fun i j => i + j) := by
  intro pins s σ H x y v u Q I r1 r2 h
  obtain ⟨i, j, e1, e2, q⟩ := h
  subst e1; subst e2
  obtain ⟨t, rfl⟩ := r1
  obtain ⟨t', rfl⟩ := r2
  exact iadd_int ⟨.int _, H, I.tok _, ⟨_, rfl⟩, q⟩
theorem ip_sub : PIp X .Sub (ipI fun i j => i - j) := by
  intro pins s σ H x y v u Q I r1 r2 h
  obtain ⟨i, j, e1, e2, q⟩ := h
  subst e1; subst e2
  obtain ⟨t, rfl⟩ := r1
  obtain ⟨t', rfl⟩ := r2
  exact isub_int ⟨.int _, H, I.tok _, ⟨_, rfl⟩, q⟩
end

/-! ### while -/
section
variable {X : Cx} {pos : Pos}
/-- the invariant W with its measure -/
def tWhile (c : TT) (tb : TS) : TS := fun D σ H => ∃ W : Nat → St → Hp → Prop, (∃ m, W m σ H) ∧ ∀ m σ H, W m σ H →
  c σ H fun b H1 => if b = true then ∃ N : St → Hp → Prop, (∀ σ' H', N σ' H' → ∃ m', m' < m ∧ W m' σ' H') ∧ tb { D with nx := N, ct := N, bk := D.nx } σ H1 else D.nx σ H1
theorem ps_while {c : Expr} {body : List Stmt} {tc : TT} {tb : TS} (hp : PassesOwn (model X.prog X.w) X.A X.env X.xe) (hc : PT X c tc) (hb : PSs X body tb) : PS X (.While c body [] pos) (tWhile tc tb) := by
  refine ⟨?_⟩
  intro pins s σ H D I h
  obtain ⟨W, ⟨m0, w0⟩, turn⟩ := h
  refine wpAny_While (codeAny_whileLoop (fun n s' => ∃ σ' H', Inv X pins σ' H' s' ∧ W n σ' H') ?_ m0 ⟨σ, H, I, w0⟩)
  rintro n s1 ⟨σ1, H1, I1, w1⟩
  refine wpAny_passesOwn hp (thn (hc pins s1 σ1 H1 _ I1 (turn n σ1 H1 w1)) fun b s2 ⟨H2, I2, q2⟩ => ?_)
  cases b with
  | true =>
    obtain ⟨N, hN, q2⟩ := q2
    rw [if_pos rfl]
    refine wpAny_passesOwn hp (thn (hb pins s2 σ1 H2 _ I2 q2) fun f s3 q3 => ?_)
    cases f with
    | next =>
      obtain ⟨σ3, H3, I3, n3⟩ := q3
      obtain ⟨m', hm, w3⟩ := hN σ3 H3 n3
      exact ⟨m', hm, σ3, H3, I3, w3⟩
    | cont =>
      obtain ⟨σ3, H3, I3, n3⟩ := q3
      obtain ⟨m', hm, w3⟩ := hN σ3 H3 n3
      exact ⟨m', hm, σ3, H3, I3, w3⟩
    | brk => exact q3
    | ret v => exact q3
  | false =>
    rw [if_neg Bool.false_ne_true]
    exact wpAny_execs_nil ⟨σ1, H2, I2, q2⟩
end

/-! ### what a loop or a comprehension walks -/
/-- at turn i: it yields x (the heap may grow), or it stops -/
structure It where
  go : Nat → Hp → Prop
  yld : Nat → Hp → V → Hp → Prop
  stop : Nat → Hp → Prop
/-- the iterator's own objects may turn: they are not the frame's, not pinned, younger than the entry (or a comprehension's own) -/
def FpOk (X : Cx) (pins : List (Addr × Obj)) (H : Hp) (b : Addr) : Prop :=
  H b = none ∧ b ≠ X.env.locals ∧ b ∉ X.fs ∧ (b ∈ X.ex ∨ X.s₀.heap.objs.size ≤ b) ∧ (∀ x c, X.env.cells.lookup x = some c → c ≠ b) ∧ ∀ p ∈ X.pn ++ pins, p.1 ≠ b
theorem Inv.fpOk {X : Cx} {pins : List (Addr × Obj)} {σ : St} {H H' : Hp} {s : Shared} {b : Addr} (I : Inv X pins σ H s) (hb : s.heap.objs.size ≤ b) (hn : H' b = none) : FpOk X pins H' b := by
  refine ⟨hn, Nat.ne_of_gt (Nat.lt_of_lt_of_le I.lt hb), I.nofs hb, .inr (Nat.le_trans I.sz hb), fun x c e z => ?_, fun p hp z => ?_⟩
  · obtain ⟨v, q⟩ := I.cell x c e
    exact absurd (Nat.lt_of_lt_of_le q.lt (by rw [z]; exact hb)) (Nat.lt_irrefl _)
  · exact absurd (Nat.lt_of_lt_of_le (Heap.lt_size (I.pin p hp).1) (by rw [z]; exact hb)) (Nat.lt_irrefl _)
structure Turn (P : Program) (w : World) (K : PySem.W.Frag) (tg : Expr) (J : It) (fp : List Addr) (it : Addr) (tn : Nat → Heap → Prop) : Prop where
  mem : it ∈ fp
  obj : ∀ i h, tn i h → ∀ b ∈ fp, ∃ o, h.get? b = some o ∧ ∀ v, o.data ≠ .cell v
  keep : ∀ i h h', tn i h → (∀ b ∈ fp, ∀ o, h.get? b = some o → h'.get? b = some o) → tn i h'
  item : ∀ (X : Cx), X.prog = P → X.w = w → X.K = K → X.calm = true → ∀ (i : Nat) (pins : List (Addr × Obj)) (s : Shared) (σ : St) (H : Hp) (E : Value → Shared → Prop), Inv X pins σ H s → (∀ b ∈ fp, FpOk X pins H b) → tn i s.heap → J.go i H →
    wpAny (model P w) X.A (pyNext (.ref it)) (fun r s1 => ∃ u, r = some u ∧
      wpAny (model P w) X.A (letOwnedTupleGo tg (.ref it) u) (fun _ s2 => ∃ x H', Inv X pins σ H' s2 ∧ RelV x u ∧ J.yld i H x H' ∧ tn (i + 1) s2.heap ∧ ∀ b ∈ fp, H' b = none) E s1) E s
  done : ∀ (X : Cx), X.prog = P → X.w = w → X.K = K → X.calm = true → ∀ (i : Nat) (pins : List (Addr × Obj)) (s : Shared) (σ : St) (H : Hp) (E : Value → Shared → Prop), Inv X pins σ H s → (∀ b ∈ fp, FpOk X pins H b) → tn i s.heap → J.stop i H →
    wpAny (model P w) X.A (pyNext (.ref it)) (fun r s1 => r = none ∧ Inv X pins σ H s1) E s
  self : ∀ (A : Around) (i : Nat) (s : Shared) (Q : Value → Shared → Prop) (E : Value → Shared → Prop), tn i s.heap → Q (.ref it) s → wpAny (model P w) A (pyIter (.ref it)) Q E s
abbrev TI := St → Hp → (It → Hp → Prop) → Prop
/-- an iterator has come -/
def PIE (X : Cx) (pins : List (Addr × Obj)) (σ : St) (tg : Expr) (R : It → Hp → Prop) (itv : Value) (s2 : Shared) : Prop :=
  ∃ (it : Addr) (fp : List Addr) (tn : Nat → Heap → Prop) (J : It) (H' : Hp), itv = .ref it ∧ Inv X pins σ H' s2 ∧ Turn X.prog X.w X.K tg J fp it tn ∧ tn 0 s2.heap ∧ (∀ b ∈ fp, FpOk X pins H' b) ∧ R J H'
def PI (X : Cx) (tg iter : Expr) (wi : TI) : Prop :=
  ∀ (pins : List (Addr × Obj)) (s : Shared) (σ : St) (H : Hp) (R : It → Hp → Prop), Inv X pins σ H s → wi σ H R →
    wpAny (model X.prog X.w) X.A (eval iter X.env) (fun v s1 => wpAny (model X.prog X.w) X.A (pyIter v) (PIE X pins σ tg R) X.xe s1) X.xe s

/-- the step ahead of the store is nothing for an iterator that keeps no tuple -/
theorem go_of {M : Model} {A : Around} {E : Value → Shared → Prop} {s : Shared} {tg : Expr} {it : Addr} {u : Value} {o : Obj} {n : String} {vs : Array Value} {Q : Unit → Shared → Prop} (ho : s.heap.get? it = some o) (hc : o.cls = .type n) (hd : o.data = .fields vs)
    (hn : ["enumerate", "zip", "dict_itemiterator", "dict_reverseitemiterator", "odict_iterator", "itertools.zip_longest", "itertools.pairwise"].contains n = false) (hQ : Q () s) : wpAny M A (letOwnedTupleGo tg (.ref it) u) Q E s := by
  unfold letOwnedTupleGo
  cases tg <;> first
    | exact wpAny_pure hQ
    | (cases u <;> first
        | exact wpAny_pure hQ
        | (refine wpAny_bind (wpAny_load ho ?_)
           rw [hc, hd]
           show wpAny M A (if (["enumerate", "zip", "dict_itemiterator", "dict_reverseitemiterator", "odict_iterator", "itertools.zip_longest", "itertools.pairwise"].contains n && vs[0]? == some (rawInt _)) = true then _ else _) Q E s
           rw [if_neg (by intro h; rw [hn, Bool.false_and] at h; cases h)]
           exact wpAny_pure hQ))

/-- the list at a, as it stands at each turn (a loop may append to it) -/
def Itl (K : PySem.W.Frag) (a : Addr) : It :=
  ⟨fun i H => ∃ xs x, SqL K H a xs ∧ xs[i]? = some x, fun i H x H' => H' = H ∧ ∀ xs, SqL K H a xs → xs[i]? = some x, fun i H => ∃ xs, SqL K H a xs ∧ xs.length ≤ i⟩
def Itt (K : PySem.W.Frag) (a : Addr) : It :=
  ⟨fun i H => ∃ xs x, SqT K H a xs ∧ xs[i]? = some x, fun i H x H' => H' = H ∧ ∀ xs, SqT K H a xs → xs[i]? = some x, fun i H => ∃ xs, SqT K H a xs ∧ xs.length ≤ i⟩
/-- lo, lo + 1, .. (n of them) -/
def Itr (lo : Int) (n : Nat) : It := ⟨fun i _ => i < n, fun i H x H' => H' = H ∧ x = .int (lo + i), fun i _ => n ≤ i⟩
theorem turn_list {P : Program} {w : World} {K : PySem.W.Frag} {tg : Expr} (a it : Addr) : Turn P w K tg (Itl K a) [it] it (fun i h => h.IsListIter it a i) where
  mem := by simp
  obj := fun i h st b hb => by
    have e : b = it := by simpa using hb
    subst e
    obtain ⟨o, e, c, d⟩ := st
    exact ⟨o, e, fun v z => by rw [d] at z; cases z⟩
  keep := fun i h h' st k => st.at fun o e => k it (by simp) o e
  item := by
    intro X hP hw hK hc i pins s σ H E I hf st hg
    subst hP hw hK
    obtain ⟨xs, x, hq, hx⟩ := hg
    obtain ⟨its, rv, p, hz⟩ := I.list hq
    obtain ⟨u, hu, ru⟩ := rv.get hx
    obtain ⟨f0, f1, f2, f3, f4, f5⟩ := hf it (by simp)
    refine wpAny_pyNext_list_item st p.isList (x := u) (by simpa using hu) fun h' st' sb => ?_
    have I1 : Inv X pins σ H { s with heap := h' } := I.turned (t' := s.toks) (fun b o hb e => (sb.2 b hb).trans e) f0 f1 f3 f4 f5
    obtain ⟨o, e, c, d⟩ := id st'
    exact ⟨u, rfl, go_of (s := { s with heap := h' }) e c d (by decide) ⟨x, H, I1, ru, ⟨rfl, fun ys hy => by rw [I.list_inj hy hq]; exact hx⟩, st', fun b hb => (hf b hb).1⟩⟩
  done := by
    intro X hP hw hK hc i pins s σ H E I hf st hg
    subst hP hw hK
    obtain ⟨xs, hq, hx⟩ := hg
    obtain ⟨its, rv, p, hz⟩ := I.list hq
    obtain ⟨f0, f1, f2, f3, f4, f5⟩ := hf it (by simp)
    have hl := rv.length
    exact wpAny_pyNext_list_end (I.ok.hd hc) st p.isList (by simp; omega) fun h' eb => ⟨rfl, I.turned (t' := s.toks) (fun b o hb e => eb b o hb e) f0 f1 f3 f4 f5⟩
  self := fun _ _ _ _ _ st h => wpAny_pyIter_listiter st h
theorem turn_tuple {P : Program} {w : World} {K : PySem.W.Frag} {tg : Expr} (a it : Addr) : Turn P w K tg (Itt K a) [it] it (fun i h => h.IsTupleIter it a i) where
  mem := by simp
  obj := fun i h st b hb => by
    have e : b = it := by simpa using hb
    subst e
    obtain ⟨o, e, c, d⟩ := st
    exact ⟨o, e, fun v z => by rw [d] at z; cases z⟩
  keep := fun i h h' st k => st.at fun o e => k it (by simp) o e
  item := by
    intro X hP hw hK hc i pins s σ H E I hf st hg
    subst hP hw hK
    obtain ⟨xs, x, hq, hx⟩ := hg
    obtain ⟨its, rv, p, hz⟩ := I.tuple hq
    obtain ⟨u, hu, ru⟩ := rv.get hx
    obtain ⟨f0, f1, f2, f3, f4, f5⟩ := hf it (by simp)
    refine wpAny_pyNext_tuple_item st (show s.heap.IsTuple a its.toArray from p) (x := u) (by simpa using hu) fun h' st' sb => ?_
    have I1 : Inv X pins σ H { s with heap := h' } := I.turned (t' := s.toks) (fun b o hb e => (sb.2 b hb).trans e) f0 f1 f3 f4 f5
    obtain ⟨o, e, c, d⟩ := id st'
    exact ⟨u, rfl, go_of (s := { s with heap := h' }) e c d (by decide) ⟨x, H, I1, ru, ⟨rfl, fun ys hy => by rw [I.tuple_inj hy hq]; exact hx⟩, st', fun b hb => (hf b hb).1⟩⟩
  done := by
    intro X hP hw hK hc i pins s σ H E I hf st hg
    subst hP hw hK
    obtain ⟨xs, hq, hx⟩ := hg
    obtain ⟨its, rv, p, hz⟩ := I.tuple hq
    obtain ⟨f0, f1, f2, f3, f4, f5⟩ := hf it (by simp)
    have hl := rv.length
    exact wpAny_pyNext_tuple_end (I.ok.hd hc) st (show s.heap.IsTuple a its.toArray from p) (by simp; omega) fun h' eb => ⟨rfl, I.turned (t' := s.toks) (fun b o hb e => eb b o hb e) f0 f1 f3 f4 f5⟩
  self := fun _ _ _ _ _ st h => wpAny_pyIter_tupleiter st h
theorem turn_range {P : Program} {w : World} {K : PySem.W.Frag} {tg : Expr} (it : Addr) (lo : Int) (n : Nat) : Turn P w K tg (Itr lo n) [it] it (fun i h => IsRangeIter h it (lo + (i : Nat) * 1) ((n : Int) - (i : Nat)) 1) where
  mem := by simp
  obj := fun i h st b hb => by
    have e : b = it := by simpa using hb
    subst e
    exact ⟨_, st, fun v z => by
      have z' : Data.fields _ = Data.cell v := z
      cases z'⟩
  keep := fun i h h' st k => k it (by simp) _ st
  item := by
    intro X hP hw hK hc i pins s σ H E I hf st hg
    subst hP hw hK
    obtain ⟨f0, f1, f2, f3, f4, f5⟩ := hf it (by simp)
    have W := Walks.range (prog := X.prog) (w := X.w) (I.ok.hd hc) it lo 1 n
    refine W.item i s _ _ hg st fun v h' tk hv st' kk => ?_
    obtain ⟨t, rfl⟩ := hv
    have I1 : Inv X pins σ H { s with heap := h', toks := tk } := I.turned (fun b o hb e => kk b o (by simpa using hb) e) f0 f1 f3 f4 f5
    refine ⟨_, rfl, go_of (s := { s with heap := h', toks := tk }) (n := "range_iterator") st' rfl rfl (by decide) ⟨.int (lo + i), H, I1, ⟨t, ?_⟩, ⟨rfl, rfl⟩, st', fun b hb => (hf b hb).1⟩⟩
    rw [Int.mul_one]
  done := by
    intro X hP hw hK hc i pins s σ H E I hf st hg
    subst hP hw hK
    obtain ⟨f0, f1, f2, f3, f4, f5⟩ := hf it (by simp)
    exact wpAny_pyNext_range_end (I.ok.hd hc) st (by have : n ≤ i := hg; omega) fun h' eb => ⟨rfl, I.turned (t' := s.toks) (fun b o hb e => eb b o hb e) f0 f1 f3 f4 f5⟩
  self := fun _ _ _ _ _ st h => wpAny_pyIter_rangeiter st h
end L2

namespace L2
open PySem PySem.Spec PyProof.Rows
section
variable {X : Cx} {tg : Expr}
def iList (K : PySem.W.Frag) (tl : TE) : TI := fun σ H R => tl σ H fun x H1 => ∃ a, x = .ref a ∧ (∃ xs, SqL K H1 a xs) ∧ R (Itl K a) H1
def iTup (K : PySem.W.Frag) (tl : TE) : TI := fun σ H R => tl σ H fun x H1 => ∃ a, x = .ref a ∧ (∃ xs, SqT K H1 a xs) ∧ R (Itt K a) H1
theorem pi_list {l : Expr} {tl : TE} (hl : PE X l tl) : PI X tg l (iList X.K tl) := by
  intro pins s σ H R I h
  refine thn (hl pins s σ H _ I h) fun v s1 ⟨x, H1, I1, r1, q1⟩ => ?_
  obtain ⟨a, e, ⟨xs, hq⟩, q⟩ := q1
  subst e
  cases r1
  obtain ⟨its, rv, p, hz⟩ := I1.list hq
  refine wpAny_pyIter_list p.isList ?_
  refine ⟨s1.heap.objs.size, [s1.heap.objs.size], _, _, H1, rfl, I1.kept (t' := s1.toks) fun b o e => Heap.get?_push_of_some _ e, turn_list a _, ⟨_, Heap.get?_push_size _ rfl, rfl, rfl⟩, fun b hb => ?_, q⟩
  have e : b = s1.heap.objs.size := by simpa using hb
  subst e
  exact I1.fpOk (Nat.le_refl _) (I1.hok.fresh (Nat.le_refl _))
theorem pi_tup {l : Expr} {tl : TE} (hl : PE X l tl) : PI X tg l (iTup X.K tl) := by
  intro pins s σ H R I h
  refine thn (hl pins s σ H _ I h) fun v s1 ⟨x, H1, I1, r1, q1⟩ => ?_
  obtain ⟨a, e, ⟨xs, hq⟩, q⟩ := q1
  subst e
  cases r1
  obtain ⟨its, rv, p, hz⟩ := I1.tuple hq
  refine wpAny_pyIter_tuple (show s1.heap.IsTuple a its.toArray from p) ?_
  refine ⟨s1.heap.objs.size, [s1.heap.objs.size], _, _, H1, rfl, I1.kept (t' := s1.toks) fun b o e => Heap.get?_push_of_some _ e, turn_tuple a _, ⟨_, Heap.get?_push_size _ rfl, rfl, rfl⟩, fun b hb => ?_, q⟩
  have e : b = s1.heap.objs.size := by simpa using hb
  subst e
  exact I1.fpOk (Nat.le_refl _) (I1.hok.fresh (Nat.le_refl _))
/-- a range object just made, walked -/
theorem range_it {pins : List (Addr × Obj)} {σ : St} {H : Hp} {s : Shared} {R : It → Hp → Prop} {E : Value → Shared → Prop} {lo hi : Int} {t u v : Tok} {tk : Nat} (I : Inv X pins σ H s) (h1 : -(2 ^ 62) ≤ lo) (h2 : lo < 2 ^ 62) (h3 : -(2 ^ 62) ≤ hi) (h4 : hi < 2 ^ 62)
    (q : R (Itr lo (hi - lo).toNat) H) : wpAny (model X.prog X.w) X.A (pyIter (.ref s.heap.objs.size)) (PIE X pins σ tg R) E { s with heap := s.heap.push { cls := .type "range", data := .fields #[.int lo t, .int hi u, .int 1 v] }, toks := tk } := by
  refine wpAny_pyIter_range (IsRange.new ..) (small_one h1 h2 h3 h4) ?_
  have I1 : Inv X pins σ H { s with heap := s.heap.push { cls := .type "range", data := .fields #[.int lo t, .int hi u, .int 1 v] }, toks := tk } := I.kept fun b o e => Heap.get?_push_of_some _ e
  refine ⟨(s.heap.push { cls := .type "range", data := .fields #[.int lo t, .int hi u, .int 1 v] }).objs.size, [(s.heap.push { cls := .type "range", data := .fields #[.int lo t, .int hi u, .int 1 v] }).objs.size], _, _, H, rfl,
    I1.kept (t' := tk) fun b o e => Heap.get?_push_of_some _ e, turn_range _ lo (hi - lo).toNat, ?_, fun b hb => ?_, q⟩
  · have e1 : lo + ((0 : Nat) : Int) * 1 = lo := by simp
    have e2 : (((hi - lo).toNat : Nat) : Int) - ((0 : Nat) : Int) = Builtin.Range.rangeSize lo hi 1 := by rw [rangeSize_one]; split <;> omega
    show IsRangeIter _ _ (lo + ((0 : Nat) : Int) * 1) ((((hi - lo).toNat : Nat) : Int) - ((0 : Nat) : Int)) 1
    rw [e1, e2]
    exact Heap.get?_push_size _ rfl
  · have e : b = (s.heap.push { cls := .type "range", data := .fields #[.int lo t, .int hi u, .int 1 v] }).objs.size := by simpa using hb
    subst e
    exact I1.fpOk (Nat.le_refl _) (I1.hok.fresh (Nat.le_refl _))
def iRng1 (ta : TA) : TI := fun σ H R => ta σ H fun vs H1 => ∃ j : Int, vs = [.int j] ∧ -(2 ^ 62) ≤ j ∧ j < 2 ^ 62 ∧ R (Itr 0 j.toNat) H1
def iRng2 (ta : TA) : TI := fun σ H R => ta σ H fun vs H1 => ∃ i j : Int, vs = [.int i, .int j] ∧ (-(2 ^ 62) ≤ i ∧ i < 2 ^ 62 ∧ -(2 ^ 62) ≤ j ∧ j < 2 ^ 62) ∧ R (Itr i (j - i).toNat) H1
theorem pi_range1 {a : Expr} {ta : TA} {p pos : Pos} (hg : Gl X "range") (hm : X.mg "range" = none) (ha : PA X [a] ta) (hs : starEach [a] X.env = [(false, eval a X.env)] := by rfl) : PI X tg (.Call (.Name "range" p) [a] [] pos) (iRng1 ta) := by
  intro pins s σ H R I h
  refine Call_ (ld_blt I hg hm boot_range (PyProof.Rows.callWith_type1 (thn (ha pos pins s σ H _ I h) fun us s1 ⟨vs, H1, I1, r1, q1⟩ => ?_) hs rfl))
  obtain ⟨j, e, q1, q2, q⟩ := q1
  subst e
  cases r1 with
  | cons r rr =>
    cases rr
    obtain ⟨t, rfl⟩ := r
    exact call_range_1 (range_it I1 (by omega) (by omega) q1 q2 (by simpa using q))
theorem pi_range2 {a b : Expr} {ta : TA} {p pos : Pos} (hg : Gl X "range") (hm : X.mg "range" = none) (ha : PA X [a, b] ta) (hs : starEach [a, b] X.env = [(false, eval a X.env), (false, eval b X.env)] := by rfl) (hs2 : starEach [b] X.env = [(false, eval b X.env)] := by rfl) :
    PI X tg (.Call (.Name "range" p) [a, b] [] pos) (iRng2 ta) := by
  intro pins s σ H R I h
  refine Call_ (ld_blt I hg hm boot_range (PyProof.Rows.callWith_type1 (thn (ha pos pins s σ H _ I h) fun us s1 ⟨vs, H1, I1, r1, q1⟩ => ?_) (by rw [hs, hs2]) (by rw [hs2]; rfl)))
  obtain ⟨i, j, e, ⟨q1, q2, q3, q4⟩, q⟩ := q1
  subst e
  cases r1 with
  | cons r rr =>
    cases rr with
    | cons r' rr =>
      cases rr
      obtain ⟨t, rfl⟩ := r
      obtain ⟨t', rfl⟩ := r'
      exact call_range_2 (range_it I1 q1 q2 q3 q4 q)

/-! ### for -/
/-- W: the invariant by the turn and a measure; N: what the body is to reach -/
def tFor (wi : TI) (g : TG) (tb : TS) : TS := fun D σ H => wi σ H fun J H1 => ∃ W : Nat → Nat → St → Hp → Prop, (∃ m, W 0 m σ H1) ∧ ∀ i m σ H, W i m σ H →
  (J.stop i H ∧ D.nx σ H) ∨ (J.go i H ∧ ∃ N : St → Hp → Prop, (∀ σ' H', N σ' H' → ∃ m', m' < m ∧ W (i + 1) m' σ' H') ∧ ∀ x H', J.yld i H x H' → g x σ H' fun σ2 H2 => tb { D with nx := N, ct := N, bk := D.nx } σ2 H2)
/-- the records at fp as they stand -/
def pinsAt (fp : List Addr) (h : Heap) : List (Addr × Obj) := fp.filterMap fun b => (h.get? b).map fun o => (b, o)
theorem mem_pinsAt {fp : List Addr} {h : Heap} {b : Addr} {o : Obj} (hb : b ∈ fp) (e : h.get? b = some o) : (b, o) ∈ pinsAt fp h := List.mem_filterMap.mpr ⟨b, hb, by rw [e]; rfl⟩
theorem of_pinsAt {fp : List Addr} {h : Heap} {p : Addr × Obj} (hp : p ∈ pinsAt fp h) : p.1 ∈ fp ∧ h.get? p.1 = some p.2 := by
  obtain ⟨b, hb, e⟩ := List.mem_filterMap.mp hp
  cases q : h.get? b with
  | none => rw [q] at e; cases e
  | some o =>
    rw [q] at e
    have e' : (b, o) = p := Option.some.inj e
    subst e'
    exact ⟨hb, q⟩
theorem Inv.pinned {pins : List (Addr × Obj)} {σ : St} {H : Hp} {s : Shared} {fp : List Addr} (I : Inv X pins σ H s) (hf : ∀ b ∈ fp, FpOk X pins H b) (ho : ∀ b ∈ fp, ∃ o, s.heap.get? b = some o ∧ ∀ v, o.data ≠ .cell v) : Inv X (pins ++ pinsAt fp s.heap) σ H s :=
  I.pins_of fun p hp => (List.mem_append.mp hp).elim (fun z => I.pin p (List.mem_append_right _ z)) fun z => by
    obtain ⟨hb, e⟩ := of_pinsAt z
    obtain ⟨f0, f1, f2, _⟩ := hf p.1 hb
    obtain ⟨o, e', d⟩ := ho p.1 hb
    rw [e] at e'; cases e'
    exact ⟨e, f0, f1, f2, d⟩
theorem Inv.unpinned {pins pl : List (Addr × Obj)} {σ : St} {H : Hp} {s : Shared} (I : Inv X (pins ++ pl) σ H s) : Inv X pins σ H s := I.pins_of fun p hp => I.pin p (List.mem_append_right _ (List.mem_append_left _ hp))
theorem ps_for {iter : Expr} {body : List Stmt} {wi : TI} {g : TG} {tb : TS} {pos : Pos} (hp : PassesOwn (model X.prog X.w) X.A X.env X.xe) (hc : X.calm = true) (hi : PI X tg iter wi) (hg : PG X tg g) (hb : PSs X body tb)
    (hs : ∀ x, foldedSetIterable iter X.env x = pure x := by intro _; rfl) : PS X (.For tg iter body [] pos) (tFor wi g tb) := by
  refine ⟨?_⟩
  intro pins s σ H D I h
  refine wpAny_For (thn (hi pins s σ H _ I h) fun v s1 h1 => thn h1 fun itv s2 h2 => ?_) hs
  obtain ⟨it, fp, tn, J, H2, e, I2, T, st2, f2, W, ⟨m0, w0⟩, turn⟩ := h2
  subst e
  -- what stays true of the iterator's objects through the loop
  have stat : ∀ {H' : Hp}, (∀ b ∈ fp, H' b = none) → ∀ b ∈ fp, FpOk X pins H' b := fun hn b hb => ⟨hn b hb, (f2 b hb).2⟩
  refine codeAny_forLoop_any (fun n s' => ∃ i σ' H', Inv X pins σ' H' s' ∧ tn i s'.heap ∧ (∀ b ∈ fp, H' b = none) ∧ W i n σ' H') ?_ m0 ⟨0, σ, H2, I2, st2, fun b hb => (f2 b hb).1, w0⟩
  rintro n s3 ⟨i, σ3, H3, I3, st3, fr3, w3⟩
  rcases turn i n σ3 H3 w3 with ⟨stop, qn⟩ | ⟨go, N, hN, step⟩
  · refine wpAny_passesOwn hp (thn (T.done X rfl rfl rfl hc i pins s3 σ3 H3 X.xe I3 (stat fr3) st3 stop) fun r s4 ⟨hr, I4⟩ => ?_)
    subst hr
    exact wpAny_execs_nil ⟨σ3, H3, I4, qn⟩
  · refine wpAny_passesOwn hp (thn (T.item X rfl rfl rfl hc i pins s3 σ3 H3 X.xe I3 (stat fr3) st3 go) fun r s4 ⟨u, hr, h4⟩ => ?_)
    subst hr
    refine wpAny_passesOwn hp (thn h4 fun _ s5 ⟨x, H5, I5, r5, y5, st5, fr5⟩ => ?_)
    have I5' := I5.pinned (stat fr5) (T.obj _ _ st5)
    refine wpAny_passesOwn hp (thn (hg _ s5 σ3 H5 x u _ I5' r5 (step x H5 y5)) fun _ s6 ⟨σ6, H6, I6, q6⟩ => ?_)
    refine wpAny_passesOwn hp (thn (hb _ s6 σ6 H6 _ I6 q6) fun f s7 q7 => ?_)
    have again : ∀ {σ7 : St} {H7 : Hp}, Inv X (pins ++ pinsAt fp s5.heap) σ7 H7 s7 → N σ7 H7 → ∃ m, m < n ∧ ∃ i σ' H', Inv X pins σ' H' s7 ∧ tn i s7.heap ∧ (∀ b ∈ fp, H' b = none) ∧ W i m σ' H' := fun {σ7 H7} I7 n7 => by
      obtain ⟨m', hm, w7⟩ := hN σ7 H7 n7
      refine ⟨m', hm, i + 1, σ7, H7, I7.unpinned, T.keep _ _ _ st5 fun b hb o e => (I7.pin (b, o) (List.mem_append_right _ (List.mem_append_right _ (mem_pinsAt hb e)))).1, fun b hb => ?_, w7⟩
      obtain ⟨o, e, d⟩ := T.obj _ _ st5 b hb
      exact (I7.pin (b, o) (List.mem_append_right _ (List.mem_append_right _ (mem_pinsAt hb e)))).2.1
    cases f with
    | next => obtain ⟨σ7, H7, I7, n7⟩ := q7; exact again I7 n7
    | cont => obtain ⟨σ7, H7, I7, n7⟩ := q7; exact again I7 n7
    | brk => obtain ⟨σ7, H7, I7, q7⟩ := q7; exact ⟨σ7, H7, I7.unpinned, q7⟩
    | ret v => obtain ⟨x7, σ7, H7, I7, r7, q7⟩ := q7; exact ⟨x7, σ7, H7, I7.unpinned, r7, q7⟩
end

/-! ### the forms one uses -/
/-- over a list that the body leaves as it is -/
theorem for_list {K : PySem.W.Frag} {a : Addr} {xs : List V} {g : TG} {tb : TS} {D : Ends} {σ : St} {H : Hp} (Pv : Nat → St → Hp → Prop) (h0 : Pv 0 σ H) (hl : ∀ i σ H, i ≤ xs.length → Pv i σ H → SqL K H a xs)
    (hs : ∀ i x σ H, xs[i]? = some x → Pv i σ H → g x σ H fun σ2 H2 => tb { D with nx := Pv (i + 1), ct := Pv (i + 1), bk := D.nx } σ2 H2) (hd : ∀ σ H, Pv xs.length σ H → D.nx σ H) :
    ∃ W : Nat → Nat → St → Hp → Prop, (∃ m, W 0 m σ H) ∧ ∀ i m σ H, W i m σ H →
      ((Itl K a).stop i H ∧ D.nx σ H) ∨ ((Itl K a).go i H ∧ ∃ N : St → Hp → Prop, (∀ σ' H', N σ' H' → ∃ m', m' < m ∧ W (i + 1) m' σ' H') ∧ ∀ x H', (Itl K a).yld i H x H' → g x σ H' fun σ2 H2 => tb { D with nx := N, ct := N, bk := D.nx } σ2 H2) := by
  refine ⟨fun i m σ H => m = xs.length - i ∧ i ≤ xs.length ∧ Pv i σ H, ⟨xs.length, by simp, Nat.zero_le _, h0⟩, ?_⟩
  rintro i m σ H ⟨rfl, hi, p⟩
  have q := hl i σ H hi p
  by_cases hlt : i < xs.length
  · refine .inr ⟨⟨xs, xs[i], q, by simp [hlt]⟩, Pv (i + 1), fun σ' H' p' => ⟨xs.length - (i + 1), by omega, rfl, hlt, p'⟩, fun x H' y => ?_⟩
    obtain ⟨e, y⟩ := y
    subst e
    exact hs i x σ _ (y xs q) p
  · have e : i = xs.length := by omega
    subst e
    exact .inl ⟨⟨xs, q, Nat.le_refl _⟩, hd σ H p⟩
theorem for_tup {K : PySem.W.Frag} {a : Addr} {xs : List V} {g : TG} {tb : TS} {D : Ends} {σ : St} {H : Hp} (Pv : Nat → St → Hp → Prop) (h0 : Pv 0 σ H) (hl : ∀ i σ H, i ≤ xs.length → Pv i σ H → SqT K H a xs)
    (hs : ∀ i x σ H, xs[i]? = some x → Pv i σ H → g x σ H fun σ2 H2 => tb { D with nx := Pv (i + 1), ct := Pv (i + 1), bk := D.nx } σ2 H2) (hd : ∀ σ H, Pv xs.length σ H → D.nx σ H) :
    ∃ W : Nat → Nat → St → Hp → Prop, (∃ m, W 0 m σ H) ∧ ∀ i m σ H, W i m σ H →
      ((Itt K a).stop i H ∧ D.nx σ H) ∨ ((Itt K a).go i H ∧ ∃ N : St → Hp → Prop, (∀ σ' H', N σ' H' → ∃ m', m' < m ∧ W (i + 1) m' σ' H') ∧ ∀ x H', (Itt K a).yld i H x H' → g x σ H' fun σ2 H2 => tb { D with nx := N, ct := N, bk := D.nx } σ2 H2) := by
  refine ⟨fun i m σ H => m = xs.length - i ∧ i ≤ xs.length ∧ Pv i σ H, ⟨xs.length, by simp, Nat.zero_le _, h0⟩, ?_⟩
  rintro i m σ H ⟨rfl, hi, p⟩
  have q := hl i σ H hi p
  by_cases hlt : i < xs.length
  · refine .inr ⟨⟨xs, xs[i], q, by simp [hlt]⟩, Pv (i + 1), fun σ' H' p' => ⟨xs.length - (i + 1), by omega, rfl, hlt, p'⟩, fun x H' y => ?_⟩
    obtain ⟨e, y⟩ := y
    subst e
    exact hs i x σ _ (y xs q) p
  · have e : i = xs.length := by omega
    subst e
    exact .inl ⟨⟨xs, q, Nat.le_refl _⟩, hd σ H p⟩
theorem for_range {lo : Int} {n : Nat} {g : TG} {tb : TS} {D : Ends} {σ : St} {H : Hp} (Pv : Nat → St → Hp → Prop) (h0 : Pv 0 σ H)
    (hs : ∀ i σ H, i < n → Pv i σ H → g (.int (lo + i)) σ H fun σ2 H2 => tb { D with nx := Pv (i + 1), ct := Pv (i + 1), bk := D.nx } σ2 H2) (hd : ∀ σ H, Pv n σ H → D.nx σ H) :
    ∃ W : Nat → Nat → St → Hp → Prop, (∃ m, W 0 m σ H) ∧ ∀ i m σ H, W i m σ H →
      ((Itr lo n).stop i H ∧ D.nx σ H) ∨ ((Itr lo n).go i H ∧ ∃ N : St → Hp → Prop, (∀ σ' H', N σ' H' → ∃ m', m' < m ∧ W (i + 1) m' σ' H') ∧ ∀ x H', (Itr lo n).yld i H x H' → g x σ H' fun σ2 H2 => tb { D with nx := N, ct := N, bk := D.nx } σ2 H2) := by
  refine ⟨fun i m σ H => m = n - i ∧ i ≤ n ∧ Pv i σ H, ⟨n, by simp, Nat.zero_le _, h0⟩, ?_⟩
  rintro i m σ H ⟨rfl, hi, p⟩
  by_cases hlt : i < n
  · refine .inr ⟨hlt, Pv (i + 1), fun σ' H' p' => ⟨n - (i + 1), by omega, rfl, hlt, p'⟩, fun x H' y => ?_⟩
    obtain ⟨e, y⟩ := y
    subst e y
    exact hs i σ _ hlt p
  · have e : i = n := by omega
    subst e
    exact .inl ⟨Nat.le_refl _, hd σ H p⟩
/-- while, by a word and a measure of the state -/
theorem while_by {c : TT} {tb : TS} {D : Ends} {σ : St} {H : Hp} (Pv : St → Hp → Prop) (μ : St → Hp → Nat) (h0 : Pv σ H)
    (hs : ∀ σ H, Pv σ H → c σ H fun b H1 => if b = true then tb { D with nx := fun σ' H' => Pv σ' H' ∧ μ σ' H' < μ σ H, ct := fun σ' H' => Pv σ' H' ∧ μ σ' H' < μ σ H, bk := D.nx } σ H1 else D.nx σ H1)
    (mono : ∀ σ H Q Q', (∀ b H1, Q b H1 → Q' b H1) → c σ H Q → c σ H Q') : tWhile c tb D σ H := by
  refine ⟨fun m σ H => m = μ σ H ∧ Pv σ H, ⟨_, rfl, h0⟩, ?_⟩
  rintro m σ H ⟨rfl, p⟩
  refine mono σ H _ _ (fun b H1 q => ?_) (hs σ H p)
  cases b with
  | true => exact ⟨_, fun σ' H' ⟨p', l⟩ => ⟨_, l, rfl, p'⟩, q⟩
  | false => exact q
end L2

namespace L2
open PySem PySem.Spec PyProof.Rows

abbrev R2 := V → V → Hp → VK → Prop
/-- a two-place operation on values: f is binaryOp op, inplaceOp op or compareOp op -/
def OpR (X : Cx) (f : Value → Value → Sem Value) (r : R2) : Prop :=
  ∀ (pins : List (Addr × Obj)) (s : Shared) (σ : St) (H : Hp) (x y : V) (v u : Value) (Q : VK), Inv X pins σ H s → RelV x v → RelV y u → r x y H Q →
    wpAny (model X.prog X.w) X.A (f v u) (EP X pins σ Q) X.xe s
/-- a one-place operation -/
def UnR (X : Cx) (f : Value → Sem Value) (r : V → Hp → VK → Prop) : Prop :=
  ∀ (pins : List (Addr × Obj)) (s : Shared) (σ : St) (H : Hp) (x : V) (v : Value) (Q : VK), Inv X pins σ H s → RelV x v → r x H Q →
    wpAny (model X.prog X.w) X.A (f v) (EP X pins σ Q) X.xe s
/-- a call of a value that is known (a builtin, a type) with values -/
def CallR (X : Cx) (f : Value) (r : List V → Hp → VK → Prop) : Prop :=
  ∀ (pins : List (Addr × Obj)) (s : Shared) (σ : St) (H : Hp) (xs : List V) (us : List Value) (Q : VK), Inv X pins σ H s → Vals xs us → r xs H Q →
    wpAny (model X.prog X.w) X.A (call f us) (EP X pins σ Q) X.xe s
/-- a value's truth -/
def TruR (X : Cx) (r : V → Hp → (Bool → Hp → Prop) → Prop) : Prop :=
  ∀ (pins : List (Addr × Obj)) (s : Shared) (σ : St) (H : Hp) (x : V) (v : Value) (Q : Bool → Hp → Prop), Inv X pins σ H s → RelV x v → r x H Q →
    wpAny (model X.prog X.w) X.A (truthy v) (TP X pins σ Q) X.xe s

def tOp (r : R2) (ta tb : TE) : TE := fun σ H Q => ta σ H fun x H1 => tb σ H1 fun y H2 => r x y H2 Q
def tUn (r : V → Hp → VK → Prop) (ta : TE) : TE := fun σ H Q => ta σ H fun x H1 => r x H1 Q
/-- ints in, under C, and a value out -/
def rI (C : Int → Int → Prop) (g : Int → Int → V) : R2 := fun x y H Q => ∃ i j, x = .int i ∧ y = .int j ∧ C i j ∧ Q (g i j) H
def rI0 (g : Int → Int → V) : R2 := fun x y H Q => ∃ i j, x = .int i ∧ y = .int j ∧ Q (g i j) H
def rU (g : Int → V) : V → Hp → VK → Prop := fun x H Q => ∃ i, x = .int i ∧ Q (g i) H

section
variable {X : Cx} {a b c : Expr} {ta tb tc : TE} {pos : Pos}

theorem binT (ha : PE X a ta) (hb : PE X b tb) {pins : List (Addr × Obj)} {s : Shared} {σ : St} {H : Hp} {R : V → V → Hp → Prop} (I : Inv X pins σ H s)
    (h : ta σ H fun x H1 => tb σ H1 fun y H2 => R x y H2) {Q : Value → Shared → Prop} {f : Value → Value → Sem Value}
    (hf : ∀ v u s2 x y H2, Inv X pins σ H2 s2 → RelV x v → RelV y u → R x y H2 → wpAny (model X.prog X.w) X.A (f v u) Q X.xe s2) :
    wpAny (model X.prog X.w) X.A (eval a X.env) (fun v s₁ => wpAny (model X.prog X.w) X.A (eval b X.env) (fun u s₂ => wpAny (model X.prog X.w) X.A (f v u) Q X.xe s₂) X.xe s₁) X.xe s := by
  refine thn (ha pins s σ H _ I h) fun v s1 ⟨x, H1, I1, r1, q1⟩ => ?_
  refine thn (hb pins s1 σ H1 _ I1 q1) fun u s2 ⟨y, H2, I2, r2, q2⟩ => ?_
  exact hf v u s2 x y H2 I2 r1 r2 q2

theorem pe_op {op : Operator} {r : R2} (ho : OpR X (binaryOp op) r) (ha : PE X a ta) (hb : PE X b tb) : PE X (.BinOp a op b pos) (tOp r ta tb) := by
  refine ⟨?_⟩
  intro pins s σ H Q I h
  exact wpAny_BinOp (binT ha hb I h fun v u s2 x y H2 I2 rx ry q => ho pins s2 σ H2 x y v u Q I2 rx ry q)
theorem pe_un {op : UnaryOp} {r : V → Hp → VK → Prop} (ho : UnR X (unaryOp op) r) (ha : PE X a ta) : PE X (.UnaryOp op a pos) (tUn r ta) := by
  refine ⟨?_⟩
  intro pins s σ H Q I h
  exact UnaryOp_ (thn (ha pins s σ H _ I h) fun v s1 ⟨x, H1, I1, r1, q1⟩ => ho pins s1 σ H1 x v Q I1 r1 q1)
/-- a op= e at a name: the name's slot i -/
theorem augR {op : Operator} {r : R2} (ho : OpR X (inplaceOp op) r) {pins : List (Addr × Obj)} {s : Shared} {σ : St} {H : Hp} {x y : V} {v u : Value} {Q : VK} (I : Inv X pins σ H s)
    (rx : RelV x v) (ry : RelV y u) (q : r x y H Q) : wpAny (model X.prog X.w) X.A (inplaceOp op v u) (EP X pins σ Q) X.xe s := ho pins s σ H x y v u Q I rx ry q

/-! ### ints -/
theorem opI {f : Value → Value → Sem Value} {C : Int → Int → Prop} {g : Int → Int → Int}
    (rule : ∀ (i j : Int) (t u : Tok) (s : Shared) (Q : Value → Shared → Prop) (E : Value → Shared → Prop), C i j → Q (.int (g i j) s.toks) { s with toks := s.toks + 1 } → wpAny (model X.prog X.w) X.A (f (.int i t) (.int j u)) Q E s) :
    OpR X f (rI C fun i j => .int (g i j)) := by
  intro pins s σ H x y v u Q I rx ry h
  obtain ⟨i, j, rfl, rfl, hc, q⟩ := h
  obtain ⟨t, rfl⟩ := rx
  obtain ⟨t', rfl⟩ := ry
  exact rule i j t t' s _ _ hc ⟨.int (g i j), H, I.tok _, ⟨_, rfl⟩, q⟩
theorem opI0 {f : Value → Value → Sem Value} {g : Int → Int → Int}
    (rule : ∀ (i j : Int) (t u : Tok) (s : Shared) (Q : Value → Shared → Prop) (E : Value → Shared → Prop), Q (.int (g i j) s.toks) { s with toks := s.toks + 1 } → wpAny (model X.prog X.w) X.A (f (.int i t) (.int j u)) Q E s) :
    OpR X f (rI0 fun i j => .int (g i j)) := by
  intro pins s σ H x y v u Q I rx ry h
  obtain ⟨i, j, rfl, rfl, q⟩ := h
  obtain ⟨t, rfl⟩ := rx
  obtain ⟨t', rfl⟩ := ry
  exact rule i j t t' s _ _ ⟨.int (g i j), H, I.tok _, ⟨_, rfl⟩, q⟩
theorem opB0 {f : Value → Value → Sem Value} {g : Int → Int → Bool}
    (rule : ∀ (i j : Int) (t u : Tok) (s : Shared) (Q : Value → Shared → Prop) (E : Value → Shared → Prop), Q (.bool (g i j)) s → wpAny (model X.prog X.w) X.A (f (.int i t) (.int j u)) Q E s) :
    OpR X f (rI0 fun i j => .bl (g i j)) := by
  intro pins s σ H x y v u Q I rx ry h
  obtain ⟨i, j, rfl, rfl, q⟩ := h
  obtain ⟨t, rfl⟩ := rx
  obtain ⟨t', rfl⟩ := ry
  exact rule i j t t' s _ _ ⟨.bl (g i j), H, I, rfl, q⟩

def CDiv (i j : Int) : Prop := 0 < j ∧ j < 1073741824
def CDivN (i j : Int) : Prop := j ≠ 0 ∧ j.natAbs < 1073741824
def CPow (i j : Int) : Prop := 0 ≤ j ∧ j ≤ 1000000 ∧ i.natAbs < 2 ^ 64
def CMul (i j : Int) : Prop := (-(2 ^ 64) < i ∧ i < 2 ^ 64) ∨ (-(2 ^ 64) < j ∧ j < 2 ^ 64)
theorem CMul.ok {i j : Int} (h : CMul i j) : IntMulOk i j := by
  rcases h with ⟨h1, h2⟩ | ⟨h1, h2⟩
  · exact .of_left (intBits_le_64 h1 h2)
  · exact .of_right (intBits_le_64 h1 h2)
theorem two_pow_nn (k : Nat) : (0 : Int) ≤ 2 ^ k := by
  rw [two_pow_cast]
  exact Int.natCast_nonneg _

theorem op_add : OpR X (binaryOp .Add) (rI0 fun i j => .int (i + j)) := opI0 fun _ _ _ _ _ _ _ q => add_int q
theorem op_sub : OpR X (binaryOp .Sub) (rI0 fun i j => .int (i - j)) := opI0 fun _ _ _ _ _ _ _ q => sub_int q
theorem op_mul : OpR X (binaryOp .Mult) (rI CMul fun i j => .int (i * j)) := opI fun _ _ _ _ _ _ _ hc q => mul_int q hc.ok
/-- // by a positive divisor -/
theorem op_fdiv : OpR X (binaryOp .FloorDiv) (rI CDiv fun i j => .int (i / j)) := opI fun i j _ _ _ _ _ hc q => by
  have h1 : (0 : Int) < j := hc.1
  have h2 : j < 1073741824 := hc.2
  exact floordiv_int (by omega) (by rw [Int.fdiv_eq_ediv_of_nonneg i (by omega)]; exact q) (.inl (PyProof.noPylong_small (by omega)))
theorem op_fdivN : OpR X (binaryOp .FloorDiv) (rI CDivN fun i j => .int (i.fdiv j)) := opI fun _ _ _ _ _ _ _ hc q => floordiv_int hc.1 q (.inl (PyProof.noPylong_small hc.2))
/-- % by a positive divisor of any size -/
theorem op_mod : OpR X (binaryOp .Mod) (rI (fun _ j => 0 < j) fun i j => .int (i % j)) := opI fun i j _ _ _ _ _ hc q => by
  have h1 : (0 : Int) < j := hc
  exact mod_int' (by omega) (by rw [Int.fmod_eq_emod_of_nonneg i (by omega)]; exact q)
theorem op_modN : OpR X (binaryOp .Mod) (rI (fun _ j => j ≠ 0) fun i j => .int (i.fmod j)) := opI fun _ _ _ _ _ _ _ hc q => mod_int' hc q
theorem op_pow : OpR X (binaryOp .Pow) (rI CPow fun i j => .int (i ^ j.toNat)) := opI fun _ _ _ _ _ _ _ hc q => pow_int_small hc.1 hc.2.1 hc.2.2 q
theorem op_shl : OpR X (binaryOp .LShift) (rI CPow fun i j => .int (i * 2 ^ j.toNat)) := opI fun _ _ _ _ _ _ _ hc q => lshift_int_small hc.1 hc.2.1 hc.2.2 q
theorem op_shr : OpR X (binaryOp .RShift) (rI (fun _ j => 0 ≤ j) fun i j => .int (i / 2 ^ j.toNat)) := opI fun i j _ _ _ _ _ hc q =>
  rshift_int hc (by rw [Int.fdiv_eq_ediv_of_nonneg i (two_pow_nn _)]; exact q)
theorem op_and : OpR X (binaryOp .BitAnd) (rI0 fun i j => .int (Builtin.bitAnd i j)) := opI0 fun _ _ _ _ _ _ _ q => and_int q
theorem op_or : OpR X (binaryOp .BitOr) (rI0 fun i j => .int (Builtin.bitOr i j)) := opI0 fun _ _ _ _ _ _ _ q => or_int q
theorem op_xor : OpR X (binaryOp .BitXor) (rI0 fun i j => .int (Builtin.bitXor i j)) := opI0 fun _ _ _ _ _ _ _ q => xor_int q

theorem iop_add : OpR X (inplaceOp .Add) (rI0 fun i j => .int (i + j)) := opI0 fun _ _ _ _ _ _ _ q => iadd_int q
theorem iop_sub : OpR X (inplaceOp .Sub) (rI0 fun i j => .int (i - j)) := opI0 fun _ _ _ _ _ _ _ q => isub_int q
theorem iop_mul : OpR X (inplaceOp .Mult) (rI CMul fun i j => .int (i * j)) := opI fun _ _ _ _ _ _ _ hc q => imul_int q hc.ok
theorem iop_fdiv : OpR X (inplaceOp .FloorDiv) (rI CDiv fun i j => .int (i / j)) := opI fun i j _ _ _ _ _ hc q => by
  have h1 : (0 : Int) < j := hc.1
  have h2 : j < 1073741824 := hc.2
  exact ifloordiv_int (by omega) (by rw [Int.fdiv_eq_ediv_of_nonneg i (by omega)]; exact q) (.inl (PyProof.noPylong_small (by omega)))
theorem iop_mod : OpR X (inplaceOp .Mod) (rI (fun _ j => 0 < j) fun i j => .int (i % j)) := opI fun i j _ _ _ _ _ hc q => by
  have h1 : (0 : Int) < j := hc
  exact imod_int (by omega) (by rw [Int.fmod_eq_emod_of_nonneg i (by omega)]; exact q)
theorem iop_shl : OpR X (inplaceOp .LShift) (rI CPow fun i j => .int (i * 2 ^ j.toNat)) := opI fun _ _ _ _ _ _ _ hc q => ilshift_int_small hc.1 hc.2.1 hc.2.2 q
theorem iop_shr : OpR X (inplaceOp .RShift) (rI (fun _ j => 0 ≤ j) fun i j => .int (i / 2 ^ j.toNat)) := opI fun i j _ _ _ _ _ hc q =>
  irshift_int hc (by rw [Int.fdiv_eq_ediv_of_nonneg i (two_pow_nn _)]; exact q)
theorem iop_and : OpR X (inplaceOp .BitAnd) (rI0 fun i j => .int (Builtin.bitAnd i j)) := opI0 fun _ _ _ _ _ _ _ q => iand_int q
theorem iop_or : OpR X (inplaceOp .BitOr) (rI0 fun i j => .int (Builtin.bitOr i j)) := opI0 fun _ _ _ _ _ _ _ q => ior_int q
theorem iop_xor : OpR X (inplaceOp .BitXor) (rI0 fun i j => .int (Builtin.bitXor i j)) := opI0 fun _ _ _ _ _ _ _ q => ixor_int q

theorem unI {f : Value → Sem Value} {g : Int → Int}
    (rule : ∀ (i : Int) (t : Tok) (s : Shared) (Q : Value → Shared → Prop) (E : Value → Shared → Prop), Q (.int (g i) s.toks) { s with toks := s.toks + 1 } → wpAny (model X.prog X.w) X.A (f (.int i t)) Q E s) :
    UnR X f (rU fun i => .int (g i)) := by
  intro pins s σ H x v Q I rx h
  obtain ⟨i, rfl, q⟩ := h
  obtain ⟨t, rfl⟩ := rx
  exact rule i t s _ _ ⟨.int (g i), H, I.tok _, ⟨_, rfl⟩, q⟩
theorem un_neg : UnR X (unaryOp .USub) (rU fun i => .int (-i)) := unI fun _ _ _ _ _ q => neg_int q
theorem un_inv : UnR X (unaryOp .Invert) (rU fun i => .int (Builtin.bitNot i)) := unI fun _ _ _ _ _ q => invert_int q

/-! ### bools among ints: n += (a < b) -/
theorem op_add_ib : OpR X (binaryOp .Add) (fun x y H Q => ∃ i k, x = .int i ∧ y = .bl k ∧ Q (.int (i + b2i k)) H) := by
  intro pins s σ H x y v u Q I rx ry h
  obtain ⟨i, k, rfl, rfl, q⟩ := h
  obtain ⟨t, rfl⟩ := rx
  cases ry
  exact add_int_bool ⟨.int (i + b2i k), H, I.tok _, ⟨_, rfl⟩, q⟩
end

/-! ### comparisons -/
/-- the scalars that == tells apart as data does -/
def scal : V → V → Bool
  | .non, .non => true | .non, .int _ => true | .int _, .non => true | .non, .bl _ => true | .bl _, .non => true | .non, .str _ => true | .str _, .non => true
  | .int _, .int _ => true | .bl _, .bl _ => true | .str _, .str _ => true | .byt _, .byt _ => true
  | .int _, .str _ => true | .str _, .int _ => true | .bl _, .str _ => true | .str _, .bl _ => true
  | _, _ => false
def rEq : R2 := fun x y H Q => scal x y = true ∧ Q (.bl (decide (x = y))) H
def rNe : R2 := fun x y H Q => scal x y = true ∧ Q (.bl (!decide (x = y))) H

theorem dec_int {i j : Int} : decide (V.int i = V.int j) = (i == j) := by
  rw [Bool.eq_iff_iff]
  simp
theorem dec_bl {i j : Bool} : decide (V.bl i = V.bl j) = (i == j) := by
  rw [Bool.eq_iff_iff]
  simp
theorem dec_str {i j : Str} : decide (V.str i = V.str j) = (i == j) := by
  rw [Bool.eq_iff_iff]
  simp
theorem dec_byt {i j : Array UInt8} : decide (V.byt i = V.byt j) = (i.toList == j.toList) := by
  rw [Bool.eq_iff_iff]
  cases i
  cases j
  simp

section
variable {X : Cx} {a b c : Expr} {ta tb tc : TE} {pos : Pos}
theorem fin_bl {pins : List (Addr × Obj)} {σ : St} {H : Hp} {s : Shared} {Q : VK} {k k' : Bool} (I : Inv X pins σ H s) (q : Q (.bl k) H) (e : k = k') : EP X pins σ Q (.bool k') s := by
  subst e
  exact ⟨.bl k, H, I, rfl, q⟩
theorem op_eq : OpR X (compareOp .Eq) rEq := by
  intro pins s σ H x y v u Q I rx ry h
  obtain ⟨hs, q⟩ := h
  cases x with
  | non =>
    cases rx
    cases y with
    | non => cases ry; exact PySem.EqNone.eq_none_none (fin_bl I q (by simp))
    | bl j => cases ry; exact PySem.EqNone.eq_none_bool (fin_bl I q (by simp))
    | int j => obtain ⟨t', rfl⟩ := ry; exact PySem.EqNone.eq_none_int (fin_bl I q (by simp))
    | str j => obtain ⟨t', rfl⟩ := ry; exact PySem.EqNone.eq_none_str (fin_bl I q (by simp))
    | _ => exact absurd (show false = true from hs) Bool.false_ne_true
  | bl i =>
    cases rx
    cases y with
    | non => cases ry; exact PySem.EqNone.eq_bool_none (fin_bl I q (by simp))
    | bl j => cases ry; exact eq_bool (fin_bl I q dec_bl)
    | str j => obtain ⟨t', rfl⟩ := ry; exact PySem.EqMixed.eq_bool_str (fin_bl I q (by simp))
    | _ => exact absurd (show false = true from hs) Bool.false_ne_true
  | int i =>
    obtain ⟨t, rfl⟩ := rx
    cases y with
    | non => cases ry; exact PySem.EqNone.eq_int_none (fin_bl I q (by simp))
    | int j => obtain ⟨t', rfl⟩ := ry; exact eq_int (fin_bl I q dec_int)
    | str j => obtain ⟨t', rfl⟩ := ry; exact PySem.EqMixed.eq_int_str (fin_bl I q (by simp))
    | _ => exact absurd (show false = true from hs) Bool.false_ne_true
  | str i =>
    obtain ⟨t, rfl⟩ := rx
    cases y with
    | non => cases ry; exact PySem.EqNone.eq_str_none (fin_bl I q (by simp))
    | bl j => cases ry; exact PySem.EqMixed.eq_str_bool (fin_bl I q (by simp))
    | int j => obtain ⟨t', rfl⟩ := ry; exact PySem.EqMixed.eq_str_int (fin_bl I q (by simp))
    | str j => obtain ⟨t', rfl⟩ := ry; exact eq_str (fin_bl I q dec_str)
    | _ => exact absurd (show false = true from hs) Bool.false_ne_true
  | byt i =>
    obtain ⟨t, rfl⟩ := rx
    cases y with
    | byt j => obtain ⟨t', rfl⟩ := ry; exact PySem.W.eq_bytes (fin_bl I q dec_byt)
    | _ => exact absurd (show false = true from hs) Bool.false_ne_true
  | _ => cases y <;> exact absurd (show false = true from hs) Bool.false_ne_true
theorem op_ne : OpR X (compareOp .NotEq) rNe := by
  intro pins s σ H x y v u Q I rx ry h
  obtain ⟨hs, q⟩ := h
  cases x with
  | non =>
    cases rx
    cases y with
    | non => cases ry; exact PySem.EqNone.ne_none_none (fin_bl I q (by simp))
    | bl j => cases ry; exact PySem.EqNone.ne_none_bool (fin_bl I q (by simp))
    | int j => obtain ⟨t', rfl⟩ := ry; exact PySem.EqNone.ne_none_int (fin_bl I q (by simp))
    | str j => obtain ⟨t', rfl⟩ := ry; exact PySem.EqNone.ne_none_str (fin_bl I q (by simp))
    | _ => exact absurd (show false = true from hs) Bool.false_ne_true
  | bl i =>
    cases rx
    cases y with
    | non => cases ry; exact PySem.EqNone.ne_bool_none (fin_bl I q (by simp))
    | bl j => cases ry; exact ne_bool (fin_bl I q (congrArg not dec_bl))
    | str j => obtain ⟨t', rfl⟩ := ry; exact PySem.EqMixed.ne_bool_str (fin_bl I q (by simp))
    | _ => exact absurd (show false = true from hs) Bool.false_ne_true
  | int i =>
    obtain ⟨t, rfl⟩ := rx
    cases y with
    | non => cases ry; exact PySem.EqNone.ne_int_none (fin_bl I q (by simp))
    | int j => obtain ⟨t', rfl⟩ := ry; exact ne_int (fin_bl I q (congrArg not dec_int))
    | str j => obtain ⟨t', rfl⟩ := ry; exact PySem.EqMixed.ne_int_str (fin_bl I q (by simp))
    | _ => exact absurd (show false = true from hs) Bool.false_ne_true
  | str i =>
    obtain ⟨t, rfl⟩ := rx
    cases y with
    | non => cases ry; exact PySem.EqNone.ne_str_none (fin_bl I q (by simp))
    | bl j => cases ry; exact PySem.EqMixed.ne_str_bool (fin_bl I q (by simp))
    | int j => obtain ⟨t', rfl⟩ := ry; exact PySem.EqMixed.ne_str_int (fin_bl I q (by simp))
    | str j => obtain ⟨t', rfl⟩ := ry; exact ne_str (fin_bl I q (congrArg not dec_str))
    | _ => exact absurd (show false = true from hs) Bool.false_ne_true
  | byt i =>
    obtain ⟨t, rfl⟩ := rx
    cases y with
    | byt j => obtain ⟨t', rfl⟩ := ry; exact PySem.W.ne_bytes (fin_bl I q (congrArg not dec_byt))
    | _ => exact absurd (show false = true from hs) Bool.false_ne_true
  | _ => cases y <;> exact absurd (show false = true from hs) Bool.false_ne_true

theorem op_lt : OpR X (compareOp .Lt) (rI0 fun i j => .bl (decide (i < j))) := opB0 fun _ _ _ _ _ _ _ q => lt_int q
theorem op_le : OpR X (compareOp .LtE) (rI0 fun i j => .bl (decide (i ≤ j))) := opB0 fun _ _ _ _ _ _ _ q => le_int q
theorem op_gt : OpR X (compareOp .Gt) (rI0 fun i j => .bl (decide (j < i))) := opB0 fun _ _ _ _ _ _ _ q => gt_int q
theorem op_ge : OpR X (compareOp .GtE) (rI0 fun i j => .bl (decide (j ≤ i))) := opB0 fun _ _ _ _ _ _ _ q => ge_int q
theorem op_lt_str : OpR X (compareOp .Lt) (fun x y H Q => ∃ i j, x = .str i ∧ y = .str j ∧ Q (.bl (decide (i.cps.toList < j.cps.toList))) H) := by
  intro pins s σ H x y v u Q I rx ry h
  obtain ⟨i, j, rfl, rfl, q⟩ := h
  obtain ⟨t, rfl⟩ := rx
  obtain ⟨t', rfl⟩ := ry
  exact lt_str (fin_bl I q rfl)
/-- the one string within the other -/
theorem op_in_str : OpR X (compareOp .In) (fun x y H Q => ∃ i j, x = .str i ∧ y = .str j ∧ Q (.bl (!(Builtin.Str.occurrences j i 0 j.length 1).isEmpty)) H) := by
  intro pins s σ H x y v u Q I rx ry h
  obtain ⟨i, j, rfl, rfl, q⟩ := h
  obtain ⟨t, rfl⟩ := rx
  obtain ⟨t', rfl⟩ := ry
  exact in_str (fin_bl I q rfl)

/-- is None, is not None: the right side a value none -/
theorem op_isN : OpR X (compareOp .Is) (fun x y H Q => y = .non ∧ Q (.bl (decide (x = .non))) H) := by
  intro pins s σ H x y v u Q I rx ry h
  obtain ⟨rfl, q⟩ := h
  cases ry
  refine is_none_gen (fin_bl I q ?_)
  cases x <;> first
    | (cases rx; rfl)
    | (obtain ⟨t, rfl⟩ := rx; rfl)
theorem op_notN : OpR X (compareOp .IsNot) (fun x y H Q => y = .non ∧ Q (.bl (!decide (x = .non))) H) := by
  intro pins s σ H x y v u Q I rx ry h
  obtain ⟨rfl, q⟩ := h
  cases ry
  refine isnot_none_gen (fin_bl I q ?_)
  cases x <;> first
    | (cases rx; rfl)
    | (obtain ⟨t, rfl⟩ := rx; rfl)

theorem op_notin_str : OpR X (compareOp .NotIn) (fun x y H Q => ∃ i j, x = .str i ∧ y = .str j ∧ Q (.bl (!(!(Builtin.Str.occurrences j i 0 j.length 1).isEmpty))) H) := by
  intro pins s σ H x y v u Q I rx ry h
  obtain ⟨i, j, rfl, rfl, q⟩ := h
  obtain ⟨t, rfl⟩ := rx
  obtain ⟨t', rfl⟩ := ry
  exact notIn_str (fin_bl I q rfl)
/-- is, is not of two objects that are tracked lists or instances -/
def isObj : HO → Bool
  | .lst _ => true
  | .ins _ _ _ => true
  | _ => false
theorem obj_there {pins : List (Addr × Obj)} {s : Shared} {σ : St} {H : Hp} {a : Addr} {o : HO} (I : Inv X pins σ H s) (h : H a = some o) (p : isObj o = true) : ∃ ob, s.heap.get? a = some ob ∧ ob.cls ≠ .type "tuple" := by
  cases o with
  | lst xs =>
    obtain ⟨_, its, n, _, e⟩ : xs.length ≤ sizeLine ∧ ∃ (its : List Value) (n : Nat), Vals xs its ∧ s.heap.get? a = some { cls := .type "list", data := .seq its.toArray n } := I.hok a _ h
    exact ⟨_, e, (by show Value.type "list" ≠ .type "tuple"; decide +kernel)⟩
  | ins C dx fs =>
    have x := I.hok a _ h
    obtain ⟨_, _, _, e, _⟩ := x
    exact ⟨_, e, (by show Value.ref C ≠ .type "tuple"; exact fun z => by cases z)⟩
  | _ => exact absurd (show false = true from p) Bool.false_ne_true
theorem op_is_ref : OpR X (compareOp .Is) (fun x y H Q => ∃ a b oa ob, x = .ref a ∧ y = .ref b ∧ H a = some oa ∧ isObj oa = true ∧ H b = some ob ∧ isObj ob = true ∧ Q (.bl (decide (a = b))) H) := by
  intro pins s σ H x y v u Q I rx ry h
  obtain ⟨a, b, oa, ob, rfl, rfl, ha, pa, hb, pb, q⟩ := h
  cases rx
  cases ry
  obtain ⟨o1, e1, n1⟩ := obj_there I ha pa
  obtain ⟨o2, e2, _⟩ := obj_there I hb pb
  by_cases z : a = b
  · subst z
    exact wpAny_is_ref_self (fin_bl I q (by simp))
  · exact wpAny_is_ref_other z e1 e2 n1 (fin_bl I q (by simp [z]))
theorem op_isnot_ref : OpR X (compareOp .IsNot) (fun x y H Q => ∃ a b oa ob, x = .ref a ∧ y = .ref b ∧ H a = some oa ∧ isObj oa = true ∧ H b = some ob ∧ isObj ob = true ∧ Q (.bl (!decide (a = b))) H) := by
  intro pins s σ H x y v u Q I rx ry h
  obtain ⟨a, b, oa, ob, rfl, rfl, ha, pa, hb, pb, q⟩ := h
  cases rx
  cases ry
  obtain ⟨o1, e1, n1⟩ := obj_there I ha pa
  obtain ⟨o2, e2, _⟩ := obj_there I hb pb
  by_cases z : a = b
  · subst z
    exact wpAny_isNot_ref_self (fin_bl I q (by simp))
  · exact wpAny_isNot_ref_other z e1 e2 n1 (fin_bl I q (by simp [z]))

/-- two rules for one operation: by cases -/
theorem OpR.or {f : Value → Value → Sem Value} {r r' : R2} (h : OpR X f r) (h' : OpR X f r') : OpR X f (fun x y H Q => r x y H Q ∨ r' x y H Q) := by
  intro pins s σ H x y v u Q I rx ry q
  rcases q with q | q
  · exact h pins s σ H x y v u Q I rx ry q
  · exact h' pins s σ H x y v u Q I rx ry q

theorem nomark (b : Expr) {op : CmpOp} (h : op ≠ .In := by decide) (h2 : op ≠ .NotIn := by decide) : behindInMarks op b = false := by
  have e1 : (op == CmpOp.In) = false := by cases op <;> first | rfl | exact absurd rfl h
  have e2 : (op == CmpOp.NotIn) = false := by cases op <;> first | rfl | exact absurd rfl h2
  cases b <;> simp [behindInMarks, e1, e2]
/-- a comparison as a value; hm: nomark b, or (for in, not in) by with_unfolding_all rfl -/
theorem pe_cmpR {op : CmpOp} {r : R2} (ho : OpR X (compareOp op) r) (ha : PE X a ta) (hb : PE X b tb) (hm : behindInMarks op b = false) : PE X (.Compare a [op] [b] pos) (tOp r ta tb) := by
  refine ⟨?_⟩
  intro pins s σ H Q I h
  exact wpAny_Compare1 (binT ha hb I h fun v u s2 x y H2 I2 rx ry q => ho pins s2 σ H2 x y v u Q I2 rx ry q) hm
/-- a reading of a value as a test -/
def tTest (t : TE) : TT := fun σ H Q => t σ H fun x H' => ∃ k, x = .bl k ∧ Q k H'
theorem pt_cmpR {op : CmpOp} {r : R2} (ho : OpR X (compareOp op) r) (ha : PE X a ta) (hb : PE X b tb) (hm : behindInMarks op b = false) : PT X (.Compare a [op] [b] pos) (tTest (tOp r ta tb)) := by
  refine ⟨?_⟩
  intro pins s σ H Q I h
  refine wpAny_isTrue_Compare1 (thn (ha pins s σ H _ I h) fun v s1 ⟨x, H1, I1, r1, q1⟩ => thn (hb pins s1 σ H1 _ I1 q1) fun u s2 ⟨y, H2, I2, r2, q2⟩ =>
    thn (ho pins s2 σ H2 x y v u _ I2 r1 r2 q2) fun c s3 ⟨z, H3, I3, r3, k, e, q3⟩ => ?_) hm
  subst e
  cases r3
  exact wpAny_truthy_bool ⟨H3, I3, q3⟩
/-- a op1 b op2 c -/
def tChain (r r' : R2) (ta tb tc : TE) : TE := fun σ H Q => ta σ H fun x H1 => tb σ H1 fun y H2 => r x y H2 fun z H3 => ∃ k, z = .bl k ∧
  (if k = true then tc σ H3 fun w' H4 => r' y w' H4 Q else Q (.bl false) H3)
theorem pe_chain {op op' : CmpOp} {r r' : R2} (ho : OpR X (compareOp op) r) (ho' : OpR X (compareOp op') r') (ha : PE X a ta) (hb : PE X b tb) (hc : PE X c tc)
    (hm : lastMarks [op, op'] [b, c] = false := by with_unfolding_all rfl) : PE X (.Compare a [op, op'] [b, c] pos) (tChain r r' ta tb tc) := by
  refine ⟨?_⟩
  intro pins s σ H Q I h
  refine Compare_chain (thn (ha pins s σ H _ I h) fun v s1 ⟨x, H1, I1, r1, q1⟩ => chain_link (thn (hb pins s1 σ H1 _ I1 q1) fun u s2 ⟨y, H2, I2, r2, q2⟩ =>
    thn (ho pins s2 σ H2 x y v u _ I2 r1 r2 q2) fun d s3 ⟨z, H3, I3, r3, k, e, q3⟩ => ?_)) hm
  subst e
  cases r3
  refine wpAny_truthy_bool ?_
  cases k with
  | false => exact ite_ff ⟨.bl false, H3, I3, rfl, q3⟩
  | true => exact ite_tt (chain_last (thn (hc pins s3 σ H3 _ I3 q3) fun w' s4 ⟨z', H4, I4, r4, q4⟩ => ho' pins s4 σ H4 y z' u w' Q I4 r2 r4 q4))
theorem pt_chain {op op' : CmpOp} {r r' : R2} (ho : OpR X (compareOp op) r) (ho' : OpR X (compareOp op') r') (ha : PE X a ta) (hb : PE X b tb) (hc : PE X c tc)
    (hm : lastMarks [op, op'] [b, c] = false := by with_unfolding_all rfl) : PT X (.Compare a [op, op'] [b, c] pos) (tTest (tChain r r' ta tb tc)) := by
  refine ⟨?_⟩
  intro pins s σ H Q I h
  refine isTrue_chain (thn (ha pins s σ H _ I h) fun v s1 ⟨x, H1, I1, r1, q1⟩ => test_link (thn (hb pins s1 σ H1 _ I1 q1) fun u s2 ⟨y, H2, I2, r2, q2⟩ =>
    thn (ho pins s2 σ H2 x y v u _ I2 r1 r2 q2) fun d s3 ⟨z, H3, I3, r3, k, e, q3⟩ => ?_)) hm
  subst e
  cases r3
  refine wpAny_truthy_bool ?_
  cases k with
  | false =>
    obtain ⟨k', e', q'⟩ := q3
    cases e'
    exact ite_ff ⟨H3, I3, q'⟩
  | true =>
    refine ite_tt (test_last (thn (hc pins s3 σ H3 _ I3 q3) fun w' s4 ⟨z', H4, I4, r4, q4⟩ => thn (ho' pins s4 σ H4 y z' u w' _ I4 r2 r4 q4) fun d' s5 ⟨z2, H5, I5, r5, k2, e2, q5⟩ => ?_))
    subst e2
    cases r5
    exact wpAny_truthy_bool ⟨H5, I5, q5⟩

/-! ### truth -/
/-- a value's truth by the abstract heap -/
def TruV (K : PySem.W.Frag) (x : V) (H : Hp) (k : Bool) : Prop :=
  match x with
  | .non => k = false
  | .bl b => k = b
  | .int i => k = (i != 0)
  | .str y => y.length ≤ sizeLine ∧ k = ((y.length : Int) != 0)
  | .byt y => y.size ≤ sizeLine ∧ k = ((y.size : Int) != 0)
  | .ref p => (∃ xs, SqL K H p xs ∧ k = !xs.isEmpty) ∨ (∃ xs, SqT K H p xs ∧ k = !xs.isEmpty) ∨ ∃ kvs, H p = some (.dK kvs) ∧ k = !kvs.isEmpty
  | _ => False
theorem isEmpty_kv {κ : Type} {kvs : List (κ × V)} {vs : List (κ × Value)} (r : KV kvs vs) : (!vs.isEmpty) = !kvs.isEmpty := by
  cases r <;> rfl
theorem isEmpty_of {xs : List V} {its : List Value} (r : Vals xs its) : (!its.toArray.isEmpty) = !xs.isEmpty := by
  cases r <;> simp
theorem line63 : (sizeLine : Nat) < 2 ^ 63 := by rw [sizeLine_eq]; decide
theorem tru_ok : TruR X (fun x H Q => ∃ k, TruV X.K x H k ∧ Q k H) := by
  intro pins s σ H x v Q I rx h
  obtain ⟨k, e, q⟩ := h
  have hl := line63
  have hs : sizeLine = 16777216 := sizeLine_eq
  cases x with
  | non =>
    cases rx
    have e' : k = false := e
    subst e'
    exact truthy_none ⟨H, I, q⟩
  | bl b =>
    cases rx
    have e' : k = b := e
    subst e'
    exact wpAny_truthy_bool ⟨H, I, q⟩
  | int i =>
    obtain ⟨t, rfl⟩ := rx
    have e' : k = (i != 0) := e
    subst e'
    exact PySem.P.truthy_int ⟨H, I, q⟩
  | str y =>
    obtain ⟨t, rfl⟩ := rx
    obtain ⟨hy, e'⟩ : y.length ≤ sizeLine ∧ k = ((y.length : Int) != 0) := e
    subst e'
    exact PySem.P.truthy_str (by omega) ⟨H, I.tok _, q⟩
  | byt y =>
    obtain ⟨t, rfl⟩ := rx
    obtain ⟨hy, e'⟩ : y.size ≤ sizeLine ∧ k = ((y.size : Int) != 0) := e
    subst e'
    exact PySem.W.truthy_bytes (by omega) ⟨H, I.tok _, q⟩
  | ref p =>
    cases rx
    have e' : (∃ xs, SqL X.K H p xs ∧ k = !xs.isEmpty) ∨ (∃ xs, SqT X.K H p xs ∧ k = !xs.isEmpty) ∨ ∃ kvs, H p = some (.dK kvs) ∧ k = !kvs.isEmpty := e
    rcases e' with ⟨xs, hx, e'⟩ | ⟨xs, hx, e'⟩ | ⟨kvs, hx, e'⟩
    · subst e'
      obtain ⟨its, r, pl, hz⟩ := I.list hx
      have hlen := r.length
      exact wpAny_truthy_list pl.isList (by simp only [List.size_toArray]; omega) ⟨H, I.tok _, by rw [isEmpty_of r]; exact q⟩
    · subst e'
      obtain ⟨its, r, pl, hz⟩ := I.tuple hx
      have hlen := r.length
      exact truthy_tuple pl (by simp only [List.size_toArray]; omega) ⟨H, I.tok _, by rw [isEmpty_of r]; exact q⟩
    · subst e'
      obtain ⟨hz, hS, vs, r, m⟩ : kvs.length ≤ sizeLine ∧ (p == sysModules) = false ∧ ∃ vs, KV kvs vs ∧ s.heap.DictOf (mixKind X.prog X.w) p vs := I.hok p _ hx
      have hlen : kvs.length = vs.length := Paired.length r
      exact wpAny_truthy_dict hS m (by omega) ⟨H, I.tok _, by rw [isEmpty_kv r]; exact q⟩
  | _ => exact (show False from e).elim
/-- any expression whose test is its value's truth (a name, a call, a subscript, a field ..: he by fun _ => rfl) -/
theorem pt_truth (ha : PE X a ta) (he : ∀ whole, isTrue a X.env whole = (do let v ← whole; standAt a.pos; holding [v] (truthy v))) :
    PT X a (fun σ H Q => ta σ H fun x H' => ∃ k, TruV X.K x H' k ∧ Q k H') := by
  refine ⟨?_⟩
  intro pins s σ H Q I h
  exact isTrue_plain (thn (ha pins s σ H _ I h) fun v s1 ⟨x, H1, I1, r1, q1⟩ => tru_ok pins s1 σ H1 x v Q I1 r1 q1) (he _)

/-! ### strs and bytes -/
theorem pe_byt {x : List UInt8} {k : Nat} : PE X (.Constant (.bytes x) k pos) (fun _ H Q => Q (.byt x.toArray) H) := ⟨fun _ _ _ H _ I h => PySem.W.Constant_bytes ⟨.byt x.toArray, H, I.tok _, ⟨_, rfl⟩, h⟩⟩
theorem op_add_str : OpR X (binaryOp .Add) (fun x y H Q => ∃ i j, x = .str i ∧ y = .str j ∧ i.length + j.length ≤ sizeLine ∧ Q (.str (i ++ j)) H) := by
  intro pins s σ H x y v u Q I rx ry h
  obtain ⟨i, j, rfl, rfl, hz, q⟩ := h
  obtain ⟨t, rfl⟩ := rx
  obtain ⟨t', rfl⟩ := ry
  exact add_str (fun t' tk => ⟨.str (i ++ j), H, I.tok _, ⟨_, rfl⟩, q⟩) hz
theorem iop_add_str : OpR X (inplaceOp .Add) (fun x y H Q => ∃ i j, x = .str i ∧ y = .str j ∧ i.length + j.length ≤ sizeLine ∧ Q (.str (i ++ j)) H) := by
  intro pins s σ H x y v u Q I rx ry h
  obtain ⟨i, j, rfl, rfl, hz, q⟩ := h
  obtain ⟨t, rfl⟩ := rx
  obtain ⟨t', rfl⟩ := ry
  exact iadd_str (fun t' tk => ⟨.str (i ++ j), H, I.tok _, ⟨_, rfl⟩, q⟩) hz
theorem op_add_byt : OpR X (binaryOp .Add) (fun x y H Q => ∃ i j, x = .byt i ∧ y = .byt j ∧ i.size + j.size ≤ 16777216 ∧ Q (.byt (i ++ j)) H) := by
  intro pins s σ H x y v u Q I rx ry h
  obtain ⟨i, j, rfl, rfl, hz, q⟩ := h
  obtain ⟨t, rfl⟩ := rx
  obtain ⟨t', rfl⟩ := ry
  exact PySem.W.KBy.add_bytes hz (fun t' tk => ⟨.byt (i ++ j), H, I.tok _, ⟨_, rfl⟩, q⟩)

def PlainIxT (b : Expr) : Prop := ∀ o i, subscripted b false o i = operate [o, i] (getItem o i)
/-- s[i], 0 ≤ i < len -/
theorem pe_item_str (ha : PE X a ta) (hb : PE X b tb) (hs : PlainIxT b) :
    PE X (.Subscript a b pos) (tOp (fun x y H Q => ∃ z i c, x = .str z ∧ y = .int i ∧ 0 ≤ i ∧ i < 2 ^ 63 ∧ i < z.length ∧ z.cps[i.toNat]? = some c ∧ Q (.str ⟨#[c]⟩) H) ta tb) := by
  refine ⟨?_⟩
  intro pins s σ H Q I h
  refine Subscript_ (binT ha hb I h fun v u s2 x y H2 I2 rx ry q => ?_)
  obtain ⟨z, i, c, rfl, rfl, h0, h63, h1, hc, q⟩ := q
  obtain ⟨t, rfl⟩ := rx
  obtain ⟨t', rfl⟩ := ry
  have e : seqIndex? i z.length = some i.toNat := PySem.StrLaws.seqIndex_nonneg h0 h1
  exact tail_any (typeIs_str s2 z t) slot_str_getitem.lookup (getItem_str (c := c) (by
    have e1 : decide (i < -(2 ^ 63 : Int)) = false := decide_eq_false (by omega)
    have e2 : decide (i ≥ 2 ^ 63) = false := decide_eq_false (by omega)
    rw [e1, e2] <;> rfl) (by rw [e]; exact hc) ⟨.str ⟨#[c]⟩, H2, I2.tok _, ⟨_, rfl⟩, q⟩) (hs _ _)
/-- b[i], 0 ≤ i < len -/
theorem pe_item_byt (ha : PE X a ta) (hb : PE X b tb) (hs : PlainIxT b) :
    PE X (.Subscript a b pos) (tOp (fun x y H Q => ∃ (z : List UInt8) (i : Int), x = .byt z.toArray ∧ y = .int i ∧ z.length ≤ sizeLine ∧ 0 ≤ i ∧ i < z.length ∧ Q (.int ((z.getD i.toNat 0).toNat : Nat)) H) ta tb) := by
  refine ⟨?_⟩
  intro pins s σ H Q I h
  refine Subscript_ (binT ha hb I h fun v u s2 x y H2 I2 rx ry q => ?_)
  obtain ⟨z, i, rfl, rfl, hz, h0, h1, q⟩ := q
  obtain ⟨t, rfl⟩ := rx
  obtain ⟨t', rfl⟩ := ry
  have hl : sizeLine = 16777216 := sizeLine_eq
  exact tail_any (PySem.W.typeIs_bytes s2 z.toArray t) PySem.W.FB.slot_bytes_getitem.lookup (PySem.W.getItem_bytes (by omega) h0 h1 ⟨.int ((z.getD i.toNat 0).toNat : Nat), H2, I2.tok _, ⟨_, rfl⟩, q⟩) (hs _ _)

/-! ### scalar builtins, by CallR -/
theorem vals1 {x : V} {us : List Value} (r : Vals [x] us) : ∃ u, us = [u] ∧ RelV x u := by
  cases r with
  | cons r1 r2 => cases r2; exact ⟨_, rfl, r1⟩
theorem vals2 {x y : V} {us : List Value} (r : Vals [x, y] us) : ∃ u w', us = [u, w'] ∧ RelV x u ∧ RelV y w' := by
  cases r with
  | cons r1 r2 =>
    cases r2 with
    | cons r3 r4 => cases r4; exact ⟨_, _, rfl, r1, r3⟩
theorem call_abs : CallR X (.builtin "abs") (fun xs H Q => ∃ i, xs = [.int i] ∧ Q (.int (if i < 0 then -i else i)) H) := by
  intro pins s σ H xs us Q I r h
  obtain ⟨i, rfl, q⟩ := h
  obtain ⟨u, rfl, t, rfl⟩ := vals1 r
  exact call_abs_int fun u tk => ⟨.int (if i < 0 then -i else i), H, I.tok _, ⟨_, rfl⟩, q⟩
theorem call_max2 (hc : X.calm = true) : CallR X (.builtin "max") (fun xs H Q => ∃ i j, xs = [.int i, .int j] ∧ Q (.int (if j > i then j else i)) H) := by
  intro pins s σ H xs us Q I r h
  obtain ⟨i, j, rfl, q⟩ := h
  obtain ⟨u, w', rfl, ⟨t, rfl⟩, ⟨t', rfl⟩⟩ := vals2 r
  refine max_two_ints (I.ok.hd hc) fun h' tk k => ⟨_, H, I.kept k, ?_, q⟩
  by_cases hj : j > i
  · rw [if_pos hj, if_pos hj]; exact ⟨_, rfl⟩
  · rw [if_neg hj, if_neg hj]; exact ⟨_, rfl⟩
theorem call_min2 (hc : X.calm = true) : CallR X (.builtin "min") (fun xs H Q => ∃ i j, xs = [.int i, .int j] ∧ Q (.int (if j < i then j else i)) H) := by
  intro pins s σ H xs us Q I r h
  obtain ⟨i, j, rfl, q⟩ := h
  obtain ⟨u, w', rfl, ⟨t, rfl⟩, ⟨t', rfl⟩⟩ := vals2 r
  refine min_two_ints (I.ok.hd hc) fun h' tk k => ⟨_, H, I.kept k, ?_, q⟩
  by_cases hj : j < i
  · rw [if_pos hj, if_pos hj]; exact ⟨_, rfl⟩
  · rw [if_neg hj, if_neg hj]; exact ⟨_, rfl⟩
theorem call_int1 : CallR X (.type "int") (fun xs H Q => (∃ i, xs = [.int i] ∧ Q (.int i) H) ∨ ∃ k, xs = [.bl k] ∧ Q (.int (if k then 1 else 0)) H) := by
  intro pins s σ H xs us Q I r h
  rcases h with ⟨i, rfl, q⟩ | ⟨k, rfl, q⟩
  · obtain ⟨u, rfl, t, rfl⟩ := vals1 r
    exact call_int_int ⟨.int i, H, I, ⟨_, rfl⟩, q⟩
  · obtain ⟨u, rfl, r1⟩ := vals1 r
    cases r1
    exact call_int_bool ⟨.int (if k then 1 else 0), H, I.tok _, ⟨_, rfl⟩, q⟩
theorem call_bool1 : CallR X (.type "bool") (fun xs H Q => (∃ i, xs = [.int i] ∧ Q (.bl (i != 0)) H) ∨ ∃ k, xs = [.bl k] ∧ Q (.bl k) H) := by
  intro pins s σ H xs us Q I r h
  rcases h with ⟨i, rfl, q⟩ | ⟨k, rfl, q⟩
  · obtain ⟨u, rfl, t, rfl⟩ := vals1 r
    exact call_bool_int ⟨.bl (i != 0), H, I, rfl, q⟩
  · obtain ⟨u, rfl, r1⟩ := vals1 r
    cases r1
    exact call_bool_bool ⟨.bl k, H, I, rfl, q⟩
theorem call_str_int : CallR X (.type "str") (fun xs H Q => ∃ i, xs = [.int i] ∧ i.natAbs.log2 < 1920 ∧ Q (.str (toString i)) H) := by
  intro pins s σ H xs us Q I r h
  obtain ⟨i, rfl, hz, q⟩ := h
  obtain ⟨u, rfl, t, rfl⟩ := vals1 r
  exact PySem.P.str_of_int hz ⟨.str _, H, I.tok _, ⟨_, rfl⟩, q⟩
theorem call_ord : CallR X (.builtin "ord") (fun xs H Q => ∃ x, xs = [.str x] ∧ x.length = 1 ∧ Q (.int (x.cps.getD 0 0 : Nat)) H) := by
  intro pins s σ H xs us Q I r h
  obtain ⟨x, rfl, hz, q⟩ := h
  obtain ⟨u, rfl, t, rfl⟩ := vals1 r
  exact ord_of_one hz ⟨.int _, H, I.tok _, ⟨_, rfl⟩, q⟩
theorem call_chr : CallR X (.builtin "chr") (fun xs H Q => ∃ i, xs = [.int i] ∧ 0 ≤ i ∧ i ≤ 1114111 ∧ Q (.str ⟨#[i.toNat]⟩) H) := by
  intro pins s σ H xs us Q I r h
  obtain ⟨i, rfl, h0, h1, q⟩ := h
  obtain ⟨u, rfl, t, rfl⟩ := vals1 r
  exact chr_of_range h0 h1 ⟨.str _, H, I.tok _, ⟨_, rfl⟩, q⟩
/-- len of a str, a bytes, a list, a tuple -/
def LenV (K : PySem.W.Frag) (x : V) (H : Hp) (n : Nat) : Prop :=
  match x with
  | .str y => y.length ≤ sizeLine ∧ n = y.length
  | .byt y => y.size ≤ sizeLine ∧ n = y.size
  | .ref p => (∃ xs, SqL K H p xs ∧ n = xs.length) ∨ ∃ xs, SqT K H p xs ∧ n = xs.length
  | _ => False
theorem call_len : CallR X (.builtin "len") (fun xs H Q => ∃ x n, xs = [x] ∧ LenV X.K x H n ∧ Q (.int n) H) := by
  intro pins s σ H xs us Q I r h
  obtain ⟨x, n, rfl, e, q⟩ := h
  obtain ⟨u, rfl, rx⟩ := vals1 r
  have hl := line63
  have hs : sizeLine = 16777216 := sizeLine_eq
  cases x with
  | str y =>
    obtain ⟨t, rfl⟩ := rx
    obtain ⟨hy, e'⟩ : y.length ≤ sizeLine ∧ n = y.length := e
    subst e'
    exact len_str (by omega) ⟨.int _, H, I.tok _, ⟨_, rfl⟩, q⟩
  | byt y =>
    obtain ⟨t, rfl⟩ := rx
    obtain ⟨hy, e'⟩ : y.size ≤ sizeLine ∧ n = y.size := e
    subst e'
    exact PySem.W.len_bytes (by omega) ⟨.int _, H, I.tok _, ⟨_, rfl⟩, q⟩
  | ref p =>
    cases rx
    have e' : (∃ xs, SqL X.K H p xs ∧ n = xs.length) ∨ ∃ xs, SqT X.K H p xs ∧ n = xs.length := e
    rcases e' with ⟨xs, hx, e'⟩ | ⟨xs, hx, e'⟩
    · subst e'
      obtain ⟨its, r', pl, hz⟩ := I.list hx
      have hlen := r'.length
      exact Calls.call_len_list pl.isList (by simp only [List.size_toArray]; omega) ⟨.int xs.length, H, I.tok _, ⟨_, by simp only [List.size_toArray]; rw [hlen]⟩, q⟩
    · subst e'
      obtain ⟨its, r', pl, hz⟩ := I.tuple hx
      have hlen := r'.length
      exact len_tuple pl (by simp only [List.size_toArray]; omega) ⟨.int xs.length, H, I.tok _, ⟨_, by simp only [List.size_toArray]; rw [hlen]⟩, q⟩
  | _ => exact (show False from e).elim
/-- divmod: a new tuple -/
theorem call_divmod : CallR X (.builtin "divmod") (fun xs H Q => ∃ i j, xs = [.int i, .int j] ∧ CDiv i j ∧ ∀ p, H p = none → Q (.ref p) (upd H p (.tup [.int (i / j), .int (i % j)]))) := by
  intro pins s σ H xs us Q I r h
  obtain ⟨i, j, rfl, ⟨h1, h2⟩, q⟩ := h
  obtain ⟨u, w', rfl, ⟨t, rfl⟩, ⟨t', rfl⟩⟩ := vals2 r
  refine divmod_int (by omega) ?_ (.inl (PyProof.noPylong_small (by omega)))
  rw [Int.fdiv_eq_ediv_of_nonneg i (by omega), Int.fmod_eq_emod_of_nonneg i (by omega)]
  have hn : H s.heap.objs.size = none := I.hok.fresh (Nat.le_refl _)
  refine ⟨.ref s.heap.objs.size, _, ?_, rfl, q _ hn⟩
  refine I.laid (fun b o e => Heap.get?_push_of_some _ e) (Nat.le_refl _) ⟨by simp only [List.length_cons, List.length_nil]; rw [sizeLine_eq]; decide, [.int (i / j) s.toks, .int (i % j) (s.toks + 1)], .cons ⟨_, rfl⟩ (.cons ⟨_, rfl⟩ .nil), ?_⟩
  exact ⟨_, Heap.get?_push_size s.heap rfl, rfl, 0, rfl⟩
end
end L2

namespace L2
open PySem PySem.Spec PyProof.Rows

/-! ### an instance, its attributes a map -/
structure ObjM (h : Heap) (x dx C : Addr) (mA : Str → Option Value) : Prop where
  obj : h.get? x = some (PySem.W.instObj C dx)
  ns : h.Ns1 dx mA
  ne : dx ≠ x

theorem lookIn_ns {h : Heap} {dx : Addr} {mA : Str → Option Value} (n : h.Ns1 dx mA) : ∃ od, h.get? dx = some od ∧ ∀ name, PySem.W.lookIn name od = some (mA name) := by
  obtain ⟨o, es, ep, ho, hd, hk, _, hm⟩ := n
  refine ⟨o, ho, fun name => ?_⟩
  have e := hm name
  unfold nsFind findBy at e
  rw [← Array.find?_toList] at e
  unfold PySem.W.lookIn
  rw [hd]
  dsimp only
  split
  · rename_i y q
    rw [q] at e
    exact congrArg some e
  · rename_i q
    rw [q] at e
    have a : es.toList.any (·.refKey) = false := by
      rw [List.any_eq_false]
      intro y hy
      obtain ⟨z, t, hkey⟩ := hk y (Array.mem_toList_iff.mp hy)
      simp [DictEntry.refKey, hkey]
    have a' : ¬ es.toList.any (·.refKey) = true := by rw [a]; exact Bool.false_ne_true
    rw [if_neg a']
    exact congrArg some e

theorem ObjM.look {h : Heap} {x dx C : Addr} {mA : Str → Option Value} (I : ObjM h x dx C mA) : ∃ od, PySem.W.InstAt h x (PySem.W.instObj C dx) C (some od) ∧ ∀ name, PySem.W.lookIn name od = some (mA name) :=
  let ⟨od, ho, hl⟩ := lookIn_ns I.ns
  ⟨od, ⟨I.obj, rfl, rfl, ho⟩, hl⟩

section
variable {prog : Program} {w : World} {A : Around} {E : Value → Shared → Prop} {s : Shared} {K : PySem.W.Frag} {x dx C f : Addr} {mA : Str → Option Value} {name : Str} {v : Value}

theorem get_map {expr : Bool} {Q : Value → Shared → Prop} (X : K.In s.heap) (I : ObjM s.heap x dx C mA) (hg : PySem.W.plainGet K C name = true) (hh : PySem.W.hasDictIn K C = true)
    (ha : PySem.W.findIn K (.ref C) name = some none) (hv : mA name = some v) (hv' : PySem.W.handedIn v = true) (h : Q v { s with toks := s.toks + 1 }) :
    wpAny (model prog w) A (getAttr (.ref x) name expr) Q E s := by
  obtain ⟨od, J, hl⟩ := I.look
  exact PySem.W.get_value X J (PySem.W.plainGet_of hg).1 (PySem.W.findObj_own hh ha rfl (by rw [hl, hv])) hv' h

theorem get_const {expr : Bool} {a : Value} {Q : Value → Shared → Prop} (X : K.In s.heap) (I : ObjM s.heap x dx C mA) (hg : PySem.W.plainGet K C name = true) (hh : PySem.W.hasDictIn K C = true)
    (ha : PySem.W.findIn K (.ref C) name = some (some a)) (hn : PySem.W.specialIn K a "__get__" = some none) (hc : PySem.W.copiedNames.contains name = false) (hv : mA name = none) (hv' : PySem.W.handedIn a = true)
    (h : Q a { s with toks := s.toks + 1 }) : wpAny (model prog w) A (getAttr (.ref x) name expr) Q E s := by
  obtain ⟨od, J, hl⟩ := I.look
  exact PySem.W.get_value X J (PySem.W.plainGet_of hg).1 (PySem.W.findObj_cls hh ha hn hv' hc (by rw [hl, hv])) hv' h

theorem get_meth {pl : Sem Bool} {Q : Value × List Value → Shared → Prop} (X : K.In s.heap) (I : ObjM s.heap x dx C mA) (hg : PySem.W.plainGet K C name = true)
    (hf : PySem.W.findIn K (.ref C) name = some (some (.ref f))) (ht : PySem.W.isFn K (.ref f) = true) (hv : mA name = none) (h : Q (.ref f, [.ref x]) s) :
    wpAny (model prog w) A (getMethod (.ref x) name pl) Q E s := by
  obtain ⟨od, J, hl⟩ := I.look
  exact PySem.W.method_fn X J (PySem.W.plainGet_of hg).1 (PySem.W.plainGet_of hg).2 hf (beq_iff_eq.mp ht) (by show (PySem.W.lookIn name od).map (·.isSome) = some false; rw [hl, hv]; rfl) h

theorem set_map {ns : List Str} {Q : Unit → Shared → Prop} (X : K.In s.heap) (I : ObjM s.heap x dx C mA)
    (hs : PySem.W.findIn K (.ref C) "__setattr__" = some (some (.builtin "object.__setattr__"))) (hp : PySem.W.plainOver K C = true) (ht : PySem.W.takerIn K C name = some none) (hh : PySem.W.hasDictIn K C = true)
    (hw : PySem.Within mA ns) (hsz : ns.length ≤ sizeLine)
    (h : ∀ h', ObjM h' x dx C (fun y => if y = name then some v else mA y) → Heap.SameBut dx s.heap h' → Q () { s with heap := h', toks := s.toks + 2 }) :
    wpAny (model prog w) A (setAttr (.ref x) name v) Q E s := by
  obtain ⟨od, J, hl⟩ := I.look
  refine PySem.W.set_plain X J hs (PySem.W.osa_open (s := { s with toks := s.toks + 1 }) (r := none) X J hp ht fun b => ?_)
  obtain ⟨cd, hc, hd'⟩ := PySem.W.any_some hh
  have hx : s.heap.get? x = some ⟨.ref C, some dx, .plain, #[]⟩ := I.obj
  refine wpAny_bind (wpAny_pure (wpAny_bind (wpAny_bind (wpAny_loadPart hx (wpAny_bind (PySem.W.Looks.here (s := { s with toks := s.toks + 1 }) (PySem.W.looks_clsIn X hc) ?_))))))
  rw [hd']
  refine wpAny_pure (a := some dx) (wpAny_bind (wpAny_pure (wpAny_bind ?_)))
  refine wpAny_nsSet1 (s := { s with toks := s.toks + 1 }) I.ns fun h' hn2 hs2 => ?_
  obtain ⟨oD, esD, epD, hoD, hdD, hcD⟩ := hn2.count (PySem.Within.cons name v hw)
  refine wpAny_bind (wpAny_lookBehind hoD (by rw [hdD]; exact pastItsLine_dict (Nat.le_trans hcD (by rw [List.length_cons]; omega))) ?_)
  exact wpAny_pure (h _ ⟨(hs2.2 _ (Ne.symm I.ne)).trans I.obj, hn2, I.ne⟩ hs2)

/-- C(..): the dict at the heap's end, the instance behind it; then its __init__ -/
theorem make_map {R : Result → Shared → Prop} {vs : List Value} {kw : List (Str × Value)} (X : K.In s.heap) (hm : PySem.W.makesIn K C = true)
    (hi : PySem.W.findIn K (.ref C) "__init__" = some (some (.ref f))) (hf : PySem.W.typeIn K (.ref f) = some (.type "function"))
    (h : codeAny (model prog w) (A.under (.builtin "type.__call__" ⟨.ref C :: vs, kw⟩)) (.call (.ref f) ⟨.ref (s.heap.objs.size + 1) :: vs, kw⟩) (PySem.W.InitBack (s.heap.objs.size + 1) R)
      { s with heap := (s.heap.push PySem.W.emptyDict).push (PySem.W.instObj C s.heap.objs.size) }) :
    codeAny (model prog w) A (.call (.ref C) ⟨vs, kw⟩) R s := by
  obtain ⟨hh, g, d, t, os⟩ := s
  exact PySem.W.make_core (PySem.W.makes_of X hm) (PySem.W.looks_findIn X hi) (fun self => PySem.W.bind_fn X self hf) (.inl rfl) h
/-- C() where there is no __init__ but object's -/
theorem make_map0 {R : Result → Shared → Prop} (X : K.In s.heap) (hm : PySem.W.makesIn K C = true)
    (hi : PySem.W.findIn K (.ref C) "__init__" = some (some (.builtin "object.__init__")))
    (hb : ∀ self, PySem.W.Looks (model prog w) s.heap (bindSpecial (.builtin "object.__init__") self) (.builtin "object.__init__", [self]))
    (h : codeAny (model prog w) (A.under (.builtin "type.__call__" ⟨[.ref C], []⟩)) (.call (.builtin "object.__init__") ⟨[.ref (s.heap.objs.size + 1)], []⟩) (PySem.W.InitBack (s.heap.objs.size + 1) R)
      { s with heap := (s.heap.push PySem.W.emptyDict).push (PySem.W.instObj C s.heap.objs.size) }) :
    codeAny (model prog w) A (.call (.ref C) ⟨[], []⟩) R s := by
  obtain ⟨hh, g, d, t, os⟩ := s
  exact PySem.W.make_core (PySem.W.makes_of X hm) (PySem.W.looks_findIn X hi) hb (.inr ⟨rfl, rfl⟩) h
end

/-! ### the attributes as a list of pairs -/
def putF (f : Str) (v : V) : List (Str × V) → List (Str × V)
  | [] => [(f, v)]
  | (g, x) :: r => if g = f then (g, v) :: r else (g, x) :: putF f v r
theorem lookup_putF (f g : Str) (v : V) : ∀ fs : List (Str × V), (putF f v fs).lookup g = if g = f then some v else fs.lookup g
  | [] => by
    show List.lookup g [(f, v)] = _
    by_cases h : g = f
    · have hb : (g == f) = true := beq_iff_eq.mpr h
      simp only [List.lookup, hb, if_pos h]
    · have hb : (g == f) = false := beq_eq_false_iff_ne.mpr h
      simp only [List.lookup, hb, if_neg h]
  | (k, x) :: r => by
    have ih := lookup_putF f g v r
    rw [show putF f v ((k, x) :: r) = (if k = f then (k, v) :: r else (k, x) :: putF f v r) from rfl]
    by_cases hk : k = f
    · rw [if_pos hk]
      by_cases h : g = k
      · have hb : (g == k) = true := beq_iff_eq.mpr h
        simp only [List.lookup, hb, if_pos (h.trans hk)]
      · have hb : (g == k) = false := beq_eq_false_iff_ne.mpr h
        simp only [List.lookup, hb, if_neg (fun e : g = f => h (e.trans hk.symm))]
    · rw [if_neg hk]
      by_cases h : g = k
      · have hb : (g == k) = true := beq_iff_eq.mpr h
        simp only [List.lookup, hb, if_neg (fun e : g = f => hk (h.symm.trans e))]
      · have hb : (g == k) = false := beq_eq_false_iff_ne.mpr h
        simp only [List.lookup, hb]
        exact ih
theorem keys_putF (f : Str) (v : V) : ∀ fs : List (Str × V), f ∈ (putF f v fs).map (·.1) ∧ ∀ g, g ∈ fs.map (·.1) → g ∈ (putF f v fs).map (·.1)
  | [] => ⟨by simp [putF], fun g h => by simp at h⟩
  | (k, x) :: r => by
    obtain ⟨i1, i2⟩ := keys_putF f v r
    rw [show putF f v ((k, x) :: r) = (if k = f then (k, v) :: r else (k, x) :: putF f v r) from rfl]
    by_cases hk : k = f
    · rw [if_pos hk]
      subst hk
      exact ⟨by simp, fun g h => by simpa using h⟩
    · rw [if_neg hk]
      refine ⟨?_, fun g h => ?_⟩
      · rw [List.map_cons]
        exact List.mem_cons_of_mem _ i1
      · rw [List.map_cons] at h ⊢
        rcases List.mem_cons.mp h with e | e
        · exact List.mem_cons.mpr (.inl e)
        · exact List.mem_cons_of_mem _ (i2 g e)
theorem length_putF (f : Str) (v : V) : ∀ fs : List (Str × V), (putF f v fs).length ≤ fs.length + 1
  | [] => by simp [putF]
  | (k, x) :: r => by
    have ih := length_putF f v r
    rw [show putF f v ((k, x) :: r) = (if k = f then (k, v) :: r else (k, x) :: putF f v r) from rfl]
    by_cases hk : k = f
    · rw [if_pos hk, List.length_cons, List.length_cons]; omega
    · rw [if_neg hk, List.length_cons, List.length_cons]; omega

theorem RelO.some_of {v : V} {o : Option Value} (r : RelO (some v) o) : ∃ u, o = some u ∧ RelV v u := by
  cases o with
  | none => exact (show False from r).elim
  | some u => exact ⟨u, rfl, r⟩
theorem RelO.none_of {o : Option Value} (r : RelO none o) : o = none := by
  cases o with
  | none => rfl
  | some u => exact (show False from r).elim
theorem handed_of {v : V} {u : Value} (r : RelV v u) : PySem.W.handedIn u = true := by
  cases v with
  | non => cases (show u = Value.none from r); rfl
  | bl b => cases (show u = Value.bool b from r); rfl
  | int i => obtain ⟨t, e⟩ := (show ∃ t, u = Value.int i t from r); cases e; rfl
  | str x => obtain ⟨t, e⟩ := (show ∃ t, u = Value.str x t from r); cases e; rfl
  | byt b => obtain ⟨t, e⟩ := (show ∃ t, u = Value.bytes b t from r); cases e; rfl
  | flt b => obtain ⟨t, e⟩ := (show ∃ t, u = Value.float b t from r); cases e; rfl
  | ref a => cases (show u = Value.ref a from r); rfl
  | ty n => cases (show u = Value.type n from r); rfl

section
variable {P : Program} {w : World} {H H' : Hp} {h h' : Heap} {a C dx : Addr} {fs fs' : List (Str × V)}
theorem ins_get (hok : HOk P w H h) (e : H a = some (.ins C dx fs)) : ∃ mA, ObjM h a dx C mA ∧ (∀ f, RelO (fs.lookup f) (mA f)) ∧ PySem.Within mA (fs.map (·.1)) ∧ fs.length ≤ 1000 ∧ H dx = some (.own a) := by
  obtain ⟨d, z, ne, ob, mA, n, r, q⟩ := (show ObjOk P w H h a (.ins C dx fs) from hok a _ e)
  exact ⟨mA, ⟨ob, n, ne⟩, r, q, z, d⟩
end

/-! ### what of the text a class must have -/
structure Cls (K : PySem.W.Frag) (C : Addr) : Prop where
  pg : PySem.W.plainGet K C Str.empty = true
  hd : PySem.W.hasDictIn K C = true
  po : PySem.W.plainOver K C = true
  sa : PySem.W.findIn K (.ref C) "__setattr__" = some (some (.builtin "object.__setattr__"))
theorem Cls.get {K : PySem.W.Frag} {C : Addr} (c : Cls K C) (f : Str) : PySem.W.plainGet K C f = true := c.pg
/-- no class of it has the name -/
def NoAttr (K : PySem.W.Frag) (C : Addr) (f : Str) : Prop := PySem.W.findIn K (.ref C) f = some none
theorem NoAttr.taker {K : PySem.W.Frag} {C : Addr} {f : Str} (n : NoAttr K C f) : PySem.W.takerIn K C f = some none := by
  unfold PySem.W.takerIn
  rw [show PySem.W.findIn K (.ref C) f = some none from n]
  rfl
/-- a constant of the class -/
structure Con (K : PySem.W.Frag) (C : Addr) (f : Str) (v : V) (u : Value) : Prop where
  at_ : PySem.W.findIn K (.ref C) f = some (some u)
  rel : RelV v u
  get : PySem.W.specialIn K u "__get__" = some none
  cp : PySem.W.copiedNames.contains f = false
/-- a method: a plain def of the class or of one above it -/
structure Meth (K : PySem.W.Frag) (C : Addr) (m : Str) (f : Addr) : Prop where
  at_ : PySem.W.findIn K (.ref C) m = some (some (.ref f))
  fn : PySem.W.isFn K (.ref f) = true
  kp : PySem.W.keepIn K (.ref f) = true

section
variable {X : Cx} {pins : List (Addr × Obj)} {σ : St} {H : Hp} {s : Shared} {a C dx : Addr} {fs : List (Str × V)} {f : Str} {v : V} {A : Around} {E : Value → Shared → Prop}

theorem getattr_ok {b : Bool} {Q : Value → Shared → Prop} (I : Inv X pins σ H s) (e : H a = some (.ins C dx fs)) (c : Cls X.K C) (n : NoAttr X.K C f) (l : fs.lookup f = some v)
    (h : ∀ u s', Inv X pins σ H s' → RelV v u → Q u s') : wpAny (model X.prog X.w) A (getAttr (.ref a) f b) Q E s := by
  obtain ⟨mA, O, r, _, _, _⟩ := ins_get I.hok e
  obtain ⟨u, hu, ru⟩ := RelO.some_of (v := v) (o := mA f) (by rw [← l]; exact r f)
  exact get_map I.kIn O (c.get f) c.hd n hu (handed_of ru) (h u _ (I.tok _) ru)

theorem getcon_ok {b : Bool} {u : Value} {Q : Value → Shared → Prop} (I : Inv X pins σ H s) (e : H a = some (.ins C dx fs)) (c : Cls X.K C) (k : Con X.K C f v u) (l : fs.lookup f = none)
    (h : ∀ s', Inv X pins σ H s' → Q u s') : wpAny (model X.prog X.w) A (getAttr (.ref a) f b) Q E s := by
  obtain ⟨mA, O, r, _, _, _⟩ := ins_get I.hok e
  have hn : mA f = none := RelO.none_of (by rw [← l]; exact r f)
  exact get_const I.kIn O (c.get f) c.hd k.at_ k.get k.cp hn (handed_of k.rel) (h _ (I.tok _))

theorem getmeth_ok {m : Str} {g : Addr} {pl : Sem Bool} {Q : Value × List Value → Shared → Prop} (I : Inv X pins σ H s) (e : H a = some (.ins C dx fs)) (c : Cls X.K C) (k : Meth X.K C m g) (l : fs.lookup m = none)
    (h : Q (.ref g, [.ref a]) s) : wpAny (model X.prog X.w) A (getMethod (.ref a) m pl) Q E s := by
  obtain ⟨mA, O, r, _, _, _⟩ := ins_get I.hok e
  have hn : mA m = none := RelO.none_of (by rw [← l]; exact r m)
  exact get_meth I.kIn O (c.get m) k.at_ k.fn hn h

theorem setattr_ok {y : V} {u : Value} {Q : Unit → Shared → Prop} (I : Inv X pins σ H s) (e : H a = some (.ins C dx fs)) (c : Cls X.K C) (n : NoAttr X.K C f) (hl : fs.length < 1000) (ry : RelV y u)
    (h : ∀ s', Inv X pins σ (upd H a (.ins C dx (putF f y fs))) s' → Q () s') : wpAny (model X.prog X.w) A (setAttr (.ref a) f u) Q E s := by
  obtain ⟨mA, O, r, wi, _, ho⟩ := ins_get I.hok e
  have hz : (fs.map (·.1)).length ≤ sizeLine := by rw [List.length_map, sizeLine_eq]; omega
  refine set_map I.kIn O c.sa c.po n.taker c.hd wi hz fun h' O' sb => h _ ?_
  have hd : ∃ o, h'.get? dx = some o := let ⟨o, _, _, e', _⟩ := O'.ns; ⟨o, e'⟩
  refine I.write (x := a) (e := dx) (by rw [e]; exact True.intro) (.inr ho) (fun b q hb z => (sb.2 b hb).trans z) hd ?_
  refine ⟨by rw [upd_ne O.ne]; exact ho, ?_, O.ne, O'.obj, _, O'.ns, fun g => ?_, fun g hg => ?_⟩
  · have := length_putF f y fs; omega
  · show RelO ((putF f y fs).lookup g) (if g = f then some u else mA g)
    rw [lookup_putF]
    by_cases q : g = f
    · rw [if_pos q, if_pos q]; exact ry
    · rw [if_neg q, if_neg q]; exact r g
  · by_cases q : g = f
    · rw [q]; exact (keys_putF f y fs).1
    · refine (keys_putF f y fs).2 g (wi g fun z => hg ?_)
      show (if g = f then some u else mA g) = none
      rw [if_neg q]; exact z

/-- a new instance, tracked, without attributes -/
theorem Inv.made (I : Inv X pins σ H s) : Inv X pins σ (upd (upd H s.heap.objs.size (.own (s.heap.objs.size + 1))) (s.heap.objs.size + 1) (.ins C s.heap.objs.size []))
    { s with heap := (s.heap.push PySem.W.emptyDict).push (PySem.W.instObj C s.heap.objs.size) } := by
  have e1 : (s.heap.push PySem.W.emptyDict).get? s.heap.objs.size = some PySem.W.emptyDict := Heap.get?_push_size s.heap rfl
  have e2 : ((s.heap.push PySem.W.emptyDict).push (PySem.W.instObj C s.heap.objs.size)).get? (s.heap.objs.size + 1) = some (PySem.W.instObj C s.heap.objs.size) := by
    have := Heap.get?_push_size (s.heap.push PySem.W.emptyDict) (o := PySem.W.instObj C s.heap.objs.size) rfl
    rwa [Heap.size_push] at this
  have e3 : (s.heap.push PySem.W.emptyDict).Ns s.heap.objs.size (fun _ => none) := ⟨PySem.W.emptyDict, #[], _, e1, rfl, (fun e he => absurd he (by simp)), fun _ => rfl⟩
  have I1 := I.laid (a := s.heap.objs.size) (o := .own (s.heap.objs.size + 1)) (h' := s.heap.push PySem.W.emptyDict) (t' := s.toks) (fun b u q => Heap.get?_push_of_some _ q) (Nat.le_refl _) ⟨_, e1⟩
  refine I1.laid (a := s.heap.objs.size + 1) (o := .ins C s.heap.objs.size []) (t' := s.toks) (fun b u q => Heap.get?_push_of_some _ q) (Nat.le_of_eq (Heap.size_push _ _)) ?_
  have ne : s.heap.objs.size ≠ s.heap.objs.size + 1 := Nat.ne_of_lt (Nat.lt_succ_self _)
  refine ⟨by rw [upd_ne ne, upd_same], Nat.zero_le _, ne, e2, fun _ => none, (Heap.Ns1.of_empty e3).at fun o q => Heap.get?_push_of_some _ q, fun _ => True.intro, fun y hy => absurd rfl hy⟩

/-- e.f where nothing but the object is asked: through attributeBase (super) and the last hold -/
theorem attr_of {prog : Program} {w : World} {env : Env} {e : Expr} {f : Str} {pos : Pos} {s : Shared} {Q : Value → Shared → Prop} (hb : attributeBase e f env (eval e env) = eval e env)
    (h : wpAny (model prog w) A (eval e env) (fun o s₁ => wpAny (model prog w) A (getAttr o f true) Q E s₁) E s) : wpAny (model prog w) A (eval (.Attribute e f pos) env) Q E s :=
  Attribute_any_ h (by rw [arm_eval_Attribute, hb])
end

/-! ### readings and rules -/
/-- e.f, an attribute of the instance -/
def tFld (K : PySem.W.Frag) (ta : TE) (f : Str) : TE := fun σ H Q => ta σ H fun x H1 => ∃ a C dx fs v, x = .ref a ∧ H1 a = some (.ins C dx fs) ∧ Cls K C ∧ NoAttr K C f ∧ fs.lookup f = some v ∧ Q v H1
/-- e.f, a constant of the class -/
def tCon (K : PySem.W.Frag) (ta : TE) (f : Str) : TE := fun σ H Q => ta σ H fun x H1 => ∃ a C dx fs v u, x = .ref a ∧ H1 a = some (.ins C dx fs) ∧ Cls K C ∧ Con K C f v u ∧ fs.lookup f = none ∧ Q v H1
/-- e.f = value -/
def sFld (K : PySem.W.Frag) (ta tv : TE) (f : Str) : TS := fun D σ H => tv σ H fun y H1 => ta σ H1 fun x H2 => ∃ a C dx fs, x = .ref a ∧ H2 a = some (.ins C dx fs) ∧ Cls K C ∧ NoAttr K C f ∧ fs.length < 1000 ∧
  D.nx σ (upd H2 a (.ins C dx (putF f y fs)))
/-- an augmented operator on two values -/
def InOp (X : Cx) (op : Operator) (rd : V → V → Hp → VK → Prop) : Prop :=
  ∀ (pins : List (Addr × Obj)) (s : Shared) (σ : St) (H : Hp) (x y : V) (u v : Value) (Q : VK), Inv X pins σ H s → RelV x u → RelV y v → rd x y H Q → wpAny (model X.prog X.w) X.A (inplaceOp op u v) (EP X pins σ Q) X.xe s
/-- e.f op= value -/
def sFldAug (K : PySem.W.Frag) (ta tv : TE) (rd : V → V → Hp → VK → Prop) (f : Str) : TS := fun D σ H => ta σ H fun x H1 => ∃ a C dx fs v, x = .ref a ∧ H1 a = some (.ins C dx fs) ∧ Cls K C ∧ NoAttr K C f ∧ fs.lookup f = some v ∧
  tv σ H1 fun y H2 => rd v y H2 fun z H3 => ∃ dx' fs', H3 a = some (.ins C dx' fs') ∧ fs'.length < 1000 ∧ D.nx σ (upd H3 a (.ins C dx' (putF f z fs')))

section
variable {X : Cx} {o e value : Expr} {f : Str} {pos pos' tpos : Pos} {ta tv : TE}
theorem pe_fld (he : PE X e ta) (hb : attributeBase e f X.env (eval e X.env) = eval e X.env) : PE X (.Attribute e f pos) (tFld X.K ta f) := by
  refine ⟨?_⟩
  intro pins s σ H Q I h
  refine attr_of hb (thn (he pins s σ H _ I h) fun u s1 ⟨x, H1, I1, rx, a, C, dx, fs, v, ex, ea, c, n, l, q⟩ => ?_)
  subst ex
  obtain rfl : u = Value.ref a := rx
  exact getattr_ok I1 ea c n l fun u' s2 I2 ru => ⟨v, H1, I2, ru, q⟩
theorem pe_con (he : PE X e ta) (hb : attributeBase e f X.env (eval e X.env) = eval e X.env) : PE X (.Attribute e f pos) (tCon X.K ta f) := by
  refine ⟨?_⟩
  intro pins s σ H Q I h
  refine attr_of hb (thn (he pins s σ H _ I h) fun u s1 ⟨x, H1, I1, rx, a, C, dx, fs, v, u0, ex, ea, c, k, l, q⟩ => ?_)
  subst ex
  obtain rfl : u = Value.ref a := rx
  exact getcon_ok I1 ea c k l fun s2 I2 => ⟨v, H1, I2, k.rel, q⟩
theorem ps_fld (ha : PE X o ta) (hv : PE X value tv) (hs : swapsWith value (some (.Attribute o f pos')) pos.line X.env = pure false) : PS X (.Assign [.Attribute o f pos'] value pos) (sFld X.K ta tv f) := by
  refine ⟨?_⟩
  intro pins s σ H D I h
  refine plainObj_wpAny_Assign_Attribute (thn (hv pins s σ H _ I h) fun u s1 ⟨y, H1, I1, ry, q⟩ => thn (ha pins s1 σ H1 _ I1 q) fun ov s2 ⟨x, H2, I2, rx, a, C, dx, fs, ex, ea, c, n, l, q2⟩ => ?_) hs
  subst ex
  obtain rfl : ov = Value.ref a := rx
  exact setattr_ok I2 ea c n l ry fun s3 I3 => ⟨σ, _, I3, q2⟩
theorem ps_fldaug {op : Operator} {rd : V → V → Hp → VK → Prop} (ha : PE X o ta) (hv : PE X value tv) (hop : InOp X op rd) : PS X (.AugAssign (.Attribute o f tpos) op value pos) (sFldAug X.K ta tv rd f) := by
  refine ⟨?_⟩
  intro pins s σ H D I h
  refine wpAny_AugAssign_AttributeAny (thn (ha pins s σ H _ I h) fun ov s1 ⟨x, H1, I1, rx, a, C, dx, fs, v, ex, ea, c, n, l, q⟩ => ?_)
  subst ex
  obtain rfl : ov = Value.ref a := rx
  refine getattr_ok I1 ea c n l fun u s2 I2 ru => thn (hv pins s2 σ H1 _ I2 q) fun w3 s3 ⟨y, H2, I3, ry, q3⟩ => thn (hop pins s3 σ H2 v y u w3 _ I3 ru ry q3) fun w4 s4 ⟨z, H3, I4, rz, dx', fs', ea', l', q4⟩ => ?_
  exact setattr_ok I4 ea' c n l' rz fun s5 I5 => ⟨σ, _, I5, q4⟩
def rAdd : V → V → Hp → VK → Prop := fun x y H Q => ∃ i j, x = .int i ∧ y = .int j ∧ Q (.int (i + j)) H
def rSub : V → V → Hp → VK → Prop := fun x y H Q => ∃ i j, x = .int i ∧ y = .int j ∧ Q (.int (i - j)) H
theorem in_add : InOp X .Add rAdd := by
  rintro pins s σ H x y u v Q I rx ry ⟨i, j, rfl, rfl, q⟩
  obtain ⟨t, rfl⟩ := (show ∃ t, u = Value.int i t from rx)
  obtain ⟨t', rfl⟩ := (show ∃ t', v = Value.int j t' from ry)
  exact PyProof.Rows.iadd_int ⟨.int (i + j), H, I.tok _, ⟨_, rfl⟩, q⟩
theorem in_sub : InOp X .Sub rSub := by
  rintro pins s σ H x y u v Q I rx ry ⟨i, j, rfl, rfl, q⟩
  obtain ⟨t, rfl⟩ := (show ∃ t, u = Value.int i t from rx)
  obtain ⟨t', rfl⟩ := (show ∃ t', v = Value.int j t' from ry)
  exact PyProof.Rows.isub_int ⟨.int (i - j), H, I.tok _, ⟨_, rfl⟩, q⟩

/-- what is between an instance and its method: the tree of a method call -/
theorem methcall_of {pl : Sem Bool} {m : Str} {apos : Pos} {args : List Expr} {pins : List (Addr × Obj)} {s : Shared} {σ : St} {H : Hp} {Q : Value → Shared → Prop} {te : TE} (he : PE X e te) (I : Inv X pins σ H s)
    (h : te σ H fun x H1 => ∃ a C dx fs g, x = .ref a ∧ H1 a = some (.ins C dx fs) ∧ Cls X.K C ∧ Meth X.K C m g ∧ fs.lookup m = none ∧
      ∀ s1, Inv X pins σ H1 s1 → wpAny (model X.prog X.w) X.A (callWith pos (.ref g) [.ref a] (backTo pos (starEach args X.env)) (backToKw pos (keywordEach [] X.env))) Q X.xe s1)
    (ht : eval (.Call (.Attribute e m apos) args [] pos) X.env = (do
      let ov ← eval e X.env
      standAt apos.atName
      let (f, first) ← holding [ov] (getMethod ov m pl)
      callWith pos f first (backTo pos (starEach args X.env)) (backToKw pos (keywordEach [] X.env)))) :
    wpAny (model X.prog X.w) X.A (eval (.Call (.Attribute e m apos) args [] pos) X.env) Q X.xe s := by
  refine PySem.W.methodCall_KW (pl := pl) (thn (he pins s σ H _ I h) fun u s1 ⟨x, H1, I1, rx, a, C, dx, fs, g, ex, ea, c, k, l, q⟩ => ?_) ht
  subst ex
  obtain rfl : u = Value.ref a := rx
  exact getmeth_ok I1 ea c k l (q s1 I1)
end

/-! ### isinstance -/
section
variable {X : Cx} {pins : List (Addr × Obj)} {σ : St} {H : Hp} {s : Shared} {A : Around} {E : Value → Shared → Prop} {Q : Value → Shared → Prop} {c : Value} {b : Bool}
/-- the type of a value, as the fragment's deciders take it; for an instance its class -/
inductive TyOf (K : PySem.W.Frag) (H : Hp) : V → Value → Prop where
  | non : TyOf K H .non (.type "NoneType")
  | bl (x : Bool) : TyOf K H (.bl x) (.type "bool")
  | int (i : Int) : TyOf K H (.int i) (.type "int")
  | str (x : Str) : TyOf K H (.str x) (.type "str")
  | flt (x : UInt64) : TyOf K H (.flt x) (.type "float")
  | lst {a : Addr} {xs : List V} (e : H a = some (.lst xs)) : TyOf K H (.ref a) (.type "list")
  | frz {a : Addr} {o : Obj} {xs : List V} (e : H a = some (.frz o (.lst xs))) : TyOf K H (.ref a) (.type "list")
  | tup {a : Addr} {xs : List V} (e : H a = some (.tup xs)) : TyOf K H (.ref a) (.type "tuple")
  | dK {a : Addr} {kvs : List (Key × V)} (e : H a = some (.dK kvs)) : TyOf K H (.ref a) (.type "dict")
  | dT {a : Addr} {kvs : List (List Key × V)} (e : H a = some (.dT kvs)) : TyOf K H (.ref a) (.type "dict")
  | ins {a C dx : Addr} {fs : List (Str × V)} (e : H a = some (.ins C dx fs)) (cl : Cls K C) (ha : PySem.W.findIn K (.ref C) "__class__" = some (some (.builtin "object.__class__")))
      (hn : PySem.W.specialIn K (.builtin "object.__class__") "__get__" = some (some (.builtin "getset_descriptor.__get__"))) (htk : PySem.W.takesIn K (.builtin "object.__class__") = some true)
      (hm : PySem.W.mroIn K C (.type "object") = some true) : TyOf K H (.ref a) (.ref C)
/-- isinstance(x, c) for one class c, a built-in or an own one: kitOne's answer -/
theorem isinst_ok {x : V} {u t : Value} (I : Inv X pins σ H s) (rx : RelV x u) (ty : TyOf X.K H x t) (e : PySem.W.kitOne X.K t c = some b) (h : ∀ tk, Q (.bool b) { s with toks := tk }) :
    wpAny (model X.prog X.w) A (call (.builtin "isinstance") [u, c]) Q E s := by
  cases ty with
  | non => cases (show u = Value.none from rx); exact PySem.W.kia_one PySem.W.kitx_none I.kIn True.intro e (fun z => nomatch z) h
  | bl y => cases (show u = Value.bool y from rx); exact PySem.W.kia_one PySem.W.kitx_bool I.kIn True.intro e (fun z => nomatch z) h
  | int i => obtain ⟨t, q⟩ := (show ∃ t, u = Value.int i t from rx); cases q; exact PySem.W.kia_one PySem.W.kitx_int I.kIn True.intro e (fun z => nomatch z) h
  | str y => obtain ⟨t, q⟩ := (show ∃ t, u = Value.str y t from rx); cases q; exact PySem.W.kia_one PySem.W.kitx_str I.kIn True.intro e (fun z => nomatch z) h
  | flt y => obtain ⟨t, q⟩ := (show ∃ t, u = Value.float y t from rx); cases q; exact PySem.W.kia_one PySem.W.kitx_float I.kIn True.intro e (fun z => nomatch z) h
  | @lst a xs ea =>
    cases (show u = Value.ref a from rx)
    obtain ⟨_, _, n, _, h1⟩ := (show ObjOk X.prog X.w H s.heap a (.lst xs) from I.hok a _ ea)
    exact PySem.W.kia_one PySem.W.kitx_list I.kIn ⟨_, h1, rfl⟩ e (fun z => nomatch z) h
  | @frz a ob xs ea =>
    cases (show u = Value.ref a from rx)
    obtain ⟨_, _, _, n, _, h1⟩ := (show ObjOk X.prog X.w H s.heap a (.frz ob (.lst xs)) from I.hok a _ ea)
    exact PySem.W.kia_one PySem.W.kitx_list I.kIn ⟨_, h1, rfl⟩ e (fun z => nomatch z) h
  | @tup a xs ea =>
    cases (show u = Value.ref a from rx)
    obtain ⟨_, _, _, p⟩ := (show ObjOk X.prog X.w H s.heap a (.tup xs) from I.hok a _ ea)
    obtain ⟨o, h1, h2, _⟩ := p
    exact PySem.W.kia_one PySem.W.kitx_tuple I.kIn ⟨o, h1, h2⟩ e (fun z => nomatch z) h
  | @dK a kvs ea =>
    cases (show u = Value.ref a from rx)
    obtain ⟨_, _, vs, _, p⟩ := (show ObjOk X.prog X.w H s.heap a (.dK kvs) from I.hok a _ ea)
    obtain ⟨o, es, ep, h1, h2, _⟩ := p
    exact PySem.W.kia_one PySem.W.kitx_dict I.kIn ⟨o, h1, h2.1⟩ e (fun z => nomatch z) h
  | @dT a kvs ea =>
    cases (show u = Value.ref a from rx)
    obtain ⟨_, _, xs, _, o, es, ep, h1, h2, _⟩ := (show ObjOk X.prog X.w H s.heap a (.dT kvs) from I.hok a _ ea)
    exact PySem.W.kia_one PySem.W.kitx_dict I.kIn ⟨o, h1, h2.1⟩ e (fun z => nomatch z) h
  | @ins a C dx fs ea cl ha hn htk hm =>
    cases (show u = Value.ref a from rx)
    obtain ⟨mA, O, _⟩ := ins_get I.hok ea
    obtain ⟨od, J, _⟩ := O.look
    exact PySem.W.kia_one (PySem.W.kitx_own (cl.get _) cl.hd ha hn htk hm) I.kIn J e (fun z => nomatch z) h
end
end L2

namespace L2
open PySem PySem.Spec PyProof.Rows

/-! ### room -/
structure Room (k : Nat) (A : Around) : Prop where
  hd : A.handled = none
  dp : A.depth + 3 * k + 5 < recursionLimit
  un : A.units + 16 * k + 200 < cLine
theorem Room.mono {j k : Nat} {A : Around} (r : Room k A) (h : j ≤ k) : Room j A := ⟨r.hd, by have := r.dp; omega, by have := r.un; omega⟩
theorem Room.deeper {k : Nat} {A : Around} (r : Room (k + 1) A) (env : Env) : Room k (A.deeper env) :=
  ⟨r.hd, by have := r.dp; show A.depth + 1 + 3 * k + 5 < _; omega, by have := r.un; show A.units + 3 + 16 * k + 200 < _; omega⟩
theorem Room.in1 {k : Nat} {A : Around} (r : Room (k + 1) A) : Room k A.in1 :=
  ⟨r.hd, by have := r.dp; show A.depth + 3 * k + 5 < _; omega, by have := r.un; show A.units + 1 + 16 * k + 200 < _; omega⟩
theorem make_depth {A : Around} {C : Addr} {us : List Value} {kw : List (Str × Value)} : (A.under (.builtin "type.__call__" ⟨.ref C :: us, kw⟩)).depth = A.depth + 1 := by
  first | rfl | simp [Around.under, Code.weight, Code.isCreation, Code.isGuard, Code.isCaller, Code.frames, Code.isFrame, guardIds]
theorem make_units {A : Around} {C : Addr} {us : List Value} {kw : List (Str × Value)} : (A.under (.builtin "type.__call__" ⟨.ref C :: us, kw⟩)).units = A.units + 1 := by
  first | rfl | simp [Around.under, Code.cUnits, Code.frames, Code.isFrame]
theorem Room.make {k : Nat} {A : Around} (r : Room (k + 1) A) (C : Addr) (us : List Value) (kw : List (Str × Value)) : Room k (A.under (.builtin "type.__call__" ⟨.ref C :: us, kw⟩)) :=
  ⟨r.hd, by have := r.dp; rw [make_depth]; omega, by have := r.un; rw [make_units]; omega⟩
theorem Room.depth {k : Nat} {A : Around} (r : Room k A) : A.depth < recursionLimit := by have := r.dp; omega
theorem Room.units {k : Nat} {A : Around} (r : Room k A) : A.units + 64 < cLine := by have := r.un; omega
theorem Room.units0 {k : Nat} {A : Around} (r : Room k A) : A.units < cLine := by have := r.un; omega

/-! ### argument lists and displays -/
def tNil : TA := fun _ H Q => Q [] H
def tCons (ta : TE) (tr : TA) : TA := fun σ H Q => ta σ H fun x H1 => tr σ H1 fun xs H2 => Q (x :: xs) H2
section
variable {X : Cx} {e : Expr} {es : List Expr} {te : TE} {t : TA} {pos : Pos}
theorem pa_nil : PA X [] tNil := ⟨fun _ _ _ _ H Q I h => Calls.spliced_nil ⟨[], H, I, .nil, h⟩⟩
theorem pa_cons (ha : PE X e te) (hr : PA X es t) (hs : starEach (e :: es) X.env = (false, eval e X.env) :: starEach es X.env := by rfl) : PA X (e :: es) (tCons te t) := by
  refine ⟨?_⟩
  intro pos pins s σ H Q I h
  rw [hs]
  show wpAny _ _ (spliced ((false, eval e X.env) :: backTo pos (starEach es X.env))) _ _ s
  refine Calls.spliced_cons (thn (ha pins s σ H _ I h) fun u s1 ⟨x, H1, I1, r1, q1⟩ => ?_)
  exact thn (hr pos pins s1 σ H1 _ I1 q1) fun us s2 ⟨xs, H2, I2, r2, q2⟩ => ⟨x :: xs, H2, I2, .cons r1 r2, q2⟩

/-- a tuple, a list of written items -/
def tTup (t : TA) : TE := fun σ H Q => t σ H fun xs H1 => xs.length ≤ sizeLine ∧ ∀ p, H1 p = none → Q (.ref p) (upd H1 p (.tup xs))
def tLst (t : TA) : TE := fun σ H Q => t σ H fun xs H1 => xs.length ≤ sizeLine ∧ ∀ p, H1 p = none → Q (.ref p) (upd H1 p (.lst xs))
theorem pe_tup {x1} (h : PA X es t) : PE X (.Tuple es x1 pos) (tTup t) := by
  refine ⟨?_⟩
  intro pins s σ H Q I hq
  refine wpAny_Tuple_spliced (thn (h pos pins s σ H _ I hq) fun us s1 ⟨xs, H1, I1, r, z, q⟩ => ⟨by rw [← r.length]; exact z, ?_⟩)
  have hf : H1 s1.heap.objs.size = none := I1.hok.fresh (Nat.le_refl _)
  refine ⟨.ref s1.heap.objs.size, upd H1 s1.heap.objs.size (.tup xs), I1.laid (t' := s1.toks) (fun b u e => Heap.get?_push_of_some _ e) (Nat.le_refl _) ?_, rfl, q _ hf⟩
  exact ⟨z, us, r, ⟨_, Heap.get?_push_size _ rfl, rfl, _, rfl⟩⟩
theorem pe_lst (h : PA X es t) : PE X (.List es pos) (tLst t) := by
  refine ⟨?_⟩
  intro pins s σ H Q I hq
  refine wpAny_List_spliced (thn (h pos pins s σ H _ I hq) fun us s1 ⟨xs, H1, I1, r, z, q⟩ => ⟨by rw [← r.length]; exact z, ?_⟩)
  have hf : H1 s1.heap.objs.size = none := I1.hok.fresh (Nat.le_refl _)
  refine ⟨.ref s1.heap.objs.size, upd H1 s1.heap.objs.size (.lst xs), I1.laid (t' := s1.toks) (fun b u e => Heap.get?_push_of_some _ e) (Nat.le_refl _) ?_, rfl, q _ hf⟩
  exact ⟨z, us, 0, r, Heap.get?_push_size _ rfl⟩
end

/-! ### what a def promises -/
/-- a def's promise: the bound arguments in the parameters' order, the heap, the wanted end, the wanted exception -/
abbrev Sp := List V → Hp → VK → XK → Prop
/-- how an exception lies behind a call (file 08 gives it): the callers' frames, abstract heap and state ahead of the call, the wish, the exception, the state -/
abbrev CXT := List Env → Hp → Shared → XK → Value → Shared → Prop

/-- the state at a call -/
structure Env0 (P : Program) (w : World) (K : PySem.W.Frag) (mg : Str → Option Value) (base : Heap) (A : Around) (outer : List Env) (s : Shared) (H : Hp) : Prop where
  frames : A.frames = some outer
  mod : Mod K mg base
  bs : ∀ b o, base.get? b = some o → s.heap.get? b = some o ∧ H b = none
  bsz : base.objs.size ≤ s.heap.objs.size
  funs : s.heap.FunFrames base outer
  frf : ∀ b ∈ frs outer, H b = none
  hok : HOk P w H s.heap
  bare : AllBare s.gens
/-- a call's end -/
def CE (outer : List Env) (P : Program) (w : World) (H : Hp) (s : Shared) (Q : VK) (u : Value) (s' : Shared) : Prop :=
  ∃ v H', s'.os = s.os ∧ AllBare s'.gens ∧ Un (frs outer) [] H H' s.heap s'.heap ∧ HOk P w H' s'.heap ∧ RelV v u ∧ Q v H'
def CR (CX : CXT) (outer : List Env) (P : Program) (w : World) (H : Hp) (s : Shared) (Q : VK) (E : XK) (r : Result) (s' : Shared) : Prop :=
  match r with
  | .ok (.ret u) => CE outer P w H s Q u s'
  | .ok _ => False
  | .error e => CX outer H s E e s'
structure FnOk (P : Program) (w : World) (K : PySem.W.Frag) (mg : Str → Option Value) (base : Heap) (CX : CXT) (k : Nat) (f : Addr) (fd : FuncData) (ps : List Str) (sp : Sp) : Prop where
  len : ∀ vs H Q E, sp vs H Q E → vs.length = ps.length
  run : ∀ (A : Around) (outer : List Env) (s : Shared) (H : Hp) (args : Args) (us : List Value) (vs : List V) (Q : VK) (E : XK), Room k A → Env0 P w K mg base A outer s H → BindsTo s fd args (ps.zip us) → Vals vs us → sp vs H Q E →
    codeAny (model P w) A (.call (.ref f) args) (CR CX outer P w H s Q E) s
theorem FnOk.mono {P : Program} {w : World} {K : PySem.W.Frag} {mg : Str → Option Value} {base : Heap} {CX : CXT} {j k : Nat} {f : Addr} {fd : FuncData} {ps : List Str} {sp : Sp} (F : FnOk P w K mg base CX j f fd ps sp) (h : j ≤ k) :
    FnOk P w K mg base CX k f fd ps sp := ⟨F.len, fun A outer s H args us vs Q E hr => F.run A outer s H args us vs Q E (hr.mono h)⟩
/-- a weaker promise -/
theorem FnOk.imp {P : Program} {w : World} {K : PySem.W.Frag} {mg : Str → Option Value} {base : Heap} {CX : CXT} {k : Nat} {f : Addr} {fd : FuncData} {ps : List Str} {sp sp' : Sp} (F : FnOk P w K mg base CX k f fd ps sp)
    (h : ∀ vs H Q E, sp' vs H Q E → sp vs H Q E) : FnOk P w K mg base CX k f fd ps sp' :=
  ⟨fun vs H Q E q => F.len vs H Q E (h _ _ _ _ q), fun A outer s H args us vs Q E hr he hb hv hs => F.run A outer s H args us vs Q E hr he hb hv (h _ _ _ _ hs)⟩

theorem Env0.make {P : Program} {w : World} {K : PySem.W.Frag} {mg : Str → Option Value} {base : Heap} {A : Around} {outer : List Env} {s : Shared} {H : Hp} (e : Env0 P w K mg base A outer s H) (C : Addr) (us : List Value) (kw : List (Str × Value)) :
    Env0 P w K mg base (A.under (.builtin "type.__call__" ⟨.ref C :: us, kw⟩)) outer s H := ⟨by first | exact e.frames | (simpa [Around.under, Code.envs, Code.isFrame, pushEnvs] using e.frames), e.mod, e.bs, e.bsz, e.funs, e.frf, e.hok, e.bare⟩
theorem Env0.in1 {P : Program} {w : World} {K : PySem.W.Frag} {mg : Str → Option Value} {base : Heap} {A : Around} {outer : List Env} {s : Shared} {H : Hp} (e : Env0 P w K mg base A outer s H) :
    Env0 P w K mg base A.in1 outer s H := ⟨e.frames, e.mod, e.bs, e.bsz, e.funs, e.frf, e.hok, e.bare⟩

section
variable {X : Cx} {pins : List (Addr × Obj)} {σ : St} {H : Hp} {s s' : Shared}
/-- from a body: what a callee wants -/
theorem Inv.env0 (I : Inv X pins σ H s) : Env0 X.prog X.w X.K X.mg X.base X.A X.stack s H :=
  ⟨I.ok.frames, I.ok.mod, I.bs, Nat.le_trans I.ok.bsz I.sz, I.stack, I.stkFree, I.hok, I.bare⟩
/-- behind a call -/
theorem Inv.after {Q : VK} {u : Value} (I : Inv X pins σ H s) (h : CE X.stack X.prog X.w H s Q u s') : EP X pins σ Q u s' := by
  obtain ⟨v, H', os, bare, un, hok, r, q⟩ := h
  obtain ⟨hh, g, d, t, os'⟩ := s'
  obtain rfl : os' = s.os := os
  exact ⟨v, H', I.call (h' := hh) (g' := g) (d' := d) (t' := t) (ch := []) un hok bare (fun b z => absurd z (by simp)), r, q⟩
end

/-! ### calls -/
/-- f(..): the written arguments, then the defaults dvs; E: what is wanted of an exception -/
def tCall (sp : Sp) (dvs : List V) (E : XK) (t : TA) : TE := fun σ H Q => t σ H fun vs H1 => sp (vs ++ dvs) H1 Q E
/-- o.m(..) of an instance of the class at C -/
def tMeth (C : Addr) (m : Str) (sp : Sp) (dvs : List V) (E : XK) (ta : TE) (t : TA) : TE := fun σ H Q => ta σ H fun x H1 => ∃ a dx fs, x = .ref a ∧ H1 a = some (.ins C dx fs) ∧ fs.lookup m = none ∧
  t σ H1 fun vs H2 => sp (x :: (vs ++ dvs)) H2 Q E
/-- C(..): a new instance and its dict, then __init__ -/
def tMake (C : Addr) (sp : Sp) (dvs : List V) (E : XK) (t : TA) : TE := fun σ H Q => t σ H fun vs H1 => ∀ x dx, H1 x = none → H1 dx = none → dx ≠ x →
  sp (.ref x :: (vs ++ dvs)) (upd (upd H1 dx (.own x)) x (.ins C dx [])) (fun v H2 => v = .non ∧ Q (.ref x) H2) E

/-- how the parameters are bound: us the positional arguments, kw the keywords' values by name, ds the defaults that fill up -/
def Binds (K : PySem.W.Frag) (fd : FuncData) (ps : List Str) (ds : List Value) : Prop :=
  ∀ (s : Shared) (us : List Value), K.In s.heap → (us ++ ds).length = ps.length → BindsTo s fd ⟨us, []⟩ (ps.zip (us ++ ds))
/-- every parameter is given -/
theorem Binds.all {K : PySem.W.Frag} {fd : FuncData} {ps : List Str} (h : ∀ us : List Value, us.length = ps.length → bindArgs fd ⟨us, []⟩ = pure (ps.zip us)) : Binds K fd ps [] := fun s us _ hl => by
  rw [List.append_nil] at hl ⊢
  exact .of_eq (h us hl)

/-- an exception of a callee reaches what this body wants of exceptions -/
def Passes (CX : CXT) (X : Cx) (E : XK) : Prop := ∀ (pins : List (Addr × Obj)) (σ : St) (H : Hp) (s : Shared) (e : Value) (s' : Shared), Inv X pins σ H s → CX X.stack H s E e s' → X.xe e s'

section
variable {X : Cx} {CX : CXT} {k : Nat} {f C : Addr} {fd : FuncData} {ps : List Str} {sp : Sp} {dvs : List V} {ds : List Value} {E : XK} {x m : Str} {p pos apos : Pos} {e o : Expr} {es : List Expr} {ta : TE} {t : TA}

/-- the callee runs -/
theorem run_fn {pins : List (Addr × Obj)} {σ : St} {H : Hp} {s : Shared} {Q : VK} {us : List Value} {vs : List V} (F : FnOk X.prog X.w X.K X.mg X.base CX k f fd ps sp) (hr : Room k X.A) (hb : Binds X.K fd ps ds) (hd : Vals dvs ds) (hx : Passes CX X E)
    (I : Inv X pins σ H s) (r : Vals vs us) (h : sp (vs ++ dvs) H Q E) : wpAny (model X.prog X.w) X.A (call (.ref f) us) (EP X pins σ Q) X.xe s := by
  have r2 : Vals (vs ++ dvs) (us ++ ds) := r.append hd
  have hl : (us ++ ds).length = ps.length := by rw [← r2.length]; exact F.len _ _ _ _ h
  refine wpAny_call (codeAny_mono (F.run X.A X.stack s H ⟨us, []⟩ (us ++ ds) (vs ++ dvs) Q E hr I.env0 (hb s us I.kIn hl) r2 h) fun r s' hq => ?_)
  cases r with
  | error e => exact hx pins σ H s e s' I hq
  | ok fl =>
    cases fl with
    | ret u => exact I.after hq
    | next => exact False.elim hq
    | brk => exact False.elim hq
    | cont => exact False.elim hq

theorem pe_call (F : FnOk X.prog X.w X.K X.mg X.base CX k f fd ps sp) (hr : Room k X.A) (hg : Gl X x) (hm : X.mg x = some (.ref f)) (hk : PySem.W.keepIn X.K (.ref f) = true) (hb : Binds X.K fd ps ds) (hd : Vals dvs ds) (hx : Passes CX X E)
    (ha : PA X (e :: es) t) (hdb : (x == ("__debug__" : Str)) = false := by decide) (he : starEach (e :: es) X.env = (false, eval e X.env) :: starEach es X.env := by rfl) (hpl : (backTo pos (starEach es X.env)).any (·.1) = false := by rfl) :
    PE X (.Call (.Name x p) (e :: es) [] pos) (tCall sp dvs E t) := by
  refine ⟨?_⟩
  intro pins s σ H Q I h
  refine wpAny_Call_Name_kw (ld_glob I hg hm ?_ hdb)
  refine PySem.W.callWith_K (h₀ := X.base) I.ok.mod.kin hk (thn (ha pos pins s σ H _ I h) fun us s1 ⟨vs, H1, I1, r, q⟩ => ⟨I1.kIn, ?_⟩) he hpl
  exact run_fn F hr hb hd hx I1 r q
theorem pe_call0 (F : FnOk X.prog X.w X.K X.mg X.base CX k f fd ps sp) (hr : Room k X.A) (hg : Gl X x) (hm : X.mg x = some (.ref f)) (hk : PySem.W.keepIn X.K (.ref f) = true) (hb : Binds X.K fd ps ds) (hd : Vals dvs ds) (hx : Passes CX X E)
    (hdb : (x == ("__debug__" : Str)) = false := by decide) : PE X (.Call (.Name x p) [] [] pos) (tCall sp dvs E tNil) := by
  refine ⟨?_⟩
  intro pins s σ H Q I h
  refine wpAny_Call_Name_kw (ld_glob I hg hm ?_ hdb)
  exact PySem.W.callWith_K0 I.kIn hk (run_fn (us := []) F hr hb hd hx I .nil h)

/-- o.m(e, ..) -/
theorem pe_meth {pl : Sem Bool} (he : PE X o ta) (c : Cls X.K C) (hm : Meth X.K C m f) (F : FnOk X.prog X.w X.K X.mg X.base CX k f fd ps sp) (hr : Room k X.A) (hb : Binds X.K fd ps ds) (hd : Vals dvs ds) (hx : Passes CX X E) (ha : PA X (e :: es) t)
    (hst : starEach (e :: es) X.env = (false, eval e X.env) :: starEach es X.env := by rfl) (hpl : (backTo pos (starEach es X.env)).any (·.1) = false := by rfl)
    (ht : eval (.Call (.Attribute o m apos) (e :: es) [] pos) X.env = (do
      let ov ← eval o X.env
      standAt apos.atName
      let (f, first) ← holding [ov] (getMethod ov m pl)
      callWith pos f first (backTo pos (starEach (e :: es) X.env)) (backToKw pos (keywordEach [] X.env))) := by rfl) :
    PE X (.Call (.Attribute o m apos) (e :: es) [] pos) (tMeth C m sp dvs E ta t) := by
  refine ⟨?_⟩
  intro pins s σ H Q I h
  refine PySem.W.methodCall_KW (pl := pl) (thn (he pins s σ H _ I h) fun u s1 ⟨x, H1, I1, rx, a, dx, fs, ex, ea, l, q⟩ => ?_) ht
  subst ex
  obtain rfl : u = Value.ref a := rx
  refine getmeth_ok I1 ea c hm l ?_
  refine PySem.W.callWith_K (first := [.ref a]) (h₀ := X.base) I.ok.mod.kin hm.kp (thn (ha pos pins s1 σ H1 _ I1 q) fun us s2 ⟨vs, H2, I2, r, q2⟩ => ⟨I2.kIn, ?_⟩) hst hpl
  exact run_fn (us := .ref a :: us) (vs := .ref a :: vs) F hr hb hd hx I2 (.cons rfl r) q2
/-- o.m() -/
theorem pe_meth0 {pl : Sem Bool} (he : PE X o ta) (c : Cls X.K C) (hm : Meth X.K C m f) (F : FnOk X.prog X.w X.K X.mg X.base CX k f fd ps sp) (hr : Room k X.A) (hb : Binds X.K fd ps ds) (hd : Vals dvs ds) (hx : Passes CX X E)
    (ht : eval (.Call (.Attribute o m apos) [] [] pos) X.env = (do
      let ov ← eval o X.env
      standAt apos.atName
      let (f, first) ← holding [ov] (getMethod ov m pl)
      callWith pos f first (backTo pos (starEach [] X.env)) (backToKw pos (keywordEach [] X.env))) := by rfl) :
    PE X (.Call (.Attribute o m apos) [] [] pos) (tMeth C m sp dvs E ta tNil) := by
  refine ⟨?_⟩
  intro pins s σ H Q I h
  refine PySem.W.methodCall_KW (pl := pl) (thn (he pins s σ H _ I h) fun u s1 ⟨x, H1, I1, rx, a, dx, fs, ex, ea, l, q⟩ => ?_) ht
  subst ex
  obtain rfl : u = Value.ref a := rx
  refine getmeth_ok I1 ea c hm l ?_
  exact PySem.W.callWith_K0 (first := [.ref a]) I1.kIn hm.kp (run_fn (us := [.ref a]) (vs := [.ref a]) F hr hb hd hx I1 (.cons rfl .nil) q)

/-- what a class must have to be made -/
structure Mk (K : PySem.W.Frag) (C f : Addr) : Prop where
  makes : PySem.W.makesIn K C = true
  init : PySem.W.findIn K (.ref C) "__init__" = some (some (.ref f))
  fn : PySem.W.isFn K (.ref f) = true
  kp : PySem.W.keepIn K (.ref C) = true

theorem run_make {pins : List (Addr × Obj)} {σ : St} {H : Hp} {s : Shared} {Q : VK} {us : List Value} {vs : List V} (M : Mk X.K C f) (F : FnOk X.prog X.w X.K X.mg X.base CX k f fd ps sp) (hr : Room (k + 1) X.A) (hb : Binds X.K fd ps ds) (hd : Vals dvs ds)
    (hx : Passes CX X E) (I : Inv X pins σ H s) (r : Vals vs us)
    (h : ∀ x dx, H x = none → H dx = none → dx ≠ x → sp (.ref x :: (vs ++ dvs)) (upd (upd H dx (.own x)) x (.ins C dx [])) (fun v H2 => v = .non ∧ Q (.ref x) H2) E) :
    wpAny (model X.prog X.w) X.A (call (.ref C) us) (EP X pins σ Q) X.xe s := by
  have hq := h (s.heap.objs.size + 1) s.heap.objs.size (I.hok.fresh (Nat.le_succ _)) (I.hok.fresh (Nat.le_refl _)) (Nat.ne_of_lt (Nat.lt_succ_self _))
  have I2 := Inv.made (C := C) I
  have r2 : Vals (V.ref (s.heap.objs.size + 1) :: (vs ++ dvs)) (Value.ref (s.heap.objs.size + 1) :: (us ++ ds)) := .cons rfl (r.append hd)
  have hl : (Value.ref (s.heap.objs.size + 1) :: us ++ ds).length = ps.length := by
    have e := r2.length
    rw [F.len _ _ _ _ hq] at e
    exact e.symm
  refine wpAny_call (make_map (f := f) I.kIn M.makes M.init (beq_iff_eq.mp M.fn) (codeAny_mono (F.run _ X.stack _ _ ⟨Value.ref (s.heap.objs.size + 1) :: us, []⟩ (Value.ref (s.heap.objs.size + 1) :: (us ++ ds)) _ _ E (hr.make C us [])
    (I2.env0.make C us []) (hb _ (Value.ref (s.heap.objs.size + 1) :: us) I2.kIn hl) r2 hq) fun r s' hq' => ?_))
  cases r with
  | error e => exact hx pins σ _ _ e s' I2 hq'
  | ok fl =>
    cases fl with
    | ret u =>
      obtain ⟨v, H', I3, rv, ev, q3⟩ := I2.after hq'
      subst ev
      exact ⟨rv, ⟨V.ref (s.heap.objs.size + 1), H', I3, rfl, q3⟩⟩
    | next => exact False.elim hq'
    | brk => exact False.elim hq'
    | cont => exact False.elim hq'
theorem pe_make (M : Mk X.K C f) (F : FnOk X.prog X.w X.K X.mg X.base CX k f fd ps sp) (hr : Room (k + 1) X.A) (hg : Gl X x) (hm : X.mg x = some (.ref C)) (hb : Binds X.K fd ps ds) (hd : Vals dvs ds) (hx : Passes CX X E)
    (ha : PA X (e :: es) t) (hdb : (x == ("__debug__" : Str)) = false := by decide) (he : starEach (e :: es) X.env = (false, eval e X.env) :: starEach es X.env := by rfl) (hpl : (backTo pos (starEach es X.env)).any (·.1) = false := by rfl) :
    PE X (.Call (.Name x p) (e :: es) [] pos) (tMake C sp dvs E t) := by
  refine ⟨?_⟩
  intro pins s σ H Q I h
  refine wpAny_Call_Name_kw (ld_glob I hg hm ?_ hdb)
  refine PySem.W.callWith_K (h₀ := X.base) I.ok.mod.kin M.kp (thn (ha pos pins s σ H _ I h) fun us s1 ⟨vs, H1, I1, r, q⟩ => ⟨I1.kIn, ?_⟩) he hpl
  exact run_make M F hr hb hd hx I1 r q
theorem pe_make0 (M : Mk X.K C f) (F : FnOk X.prog X.w X.K X.mg X.base CX k f fd ps sp) (hr : Room (k + 1) X.A) (hg : Gl X x) (hm : X.mg x = some (.ref C)) (hb : Binds X.K fd ps ds) (hd : Vals dvs ds) (hx : Passes CX X E)
    (hdb : (x == ("__debug__" : Str)) = false := by decide) : PE X (.Call (.Name x p) [] [] pos) (tMake C sp dvs E tNil) := by
  refine ⟨?_⟩
  intro pins s σ H Q I h
  refine wpAny_Call_Name_kw (ld_glob I hg hm ?_ hdb)
  exact PySem.W.callWith_K0 I.kIn M.kp (run_make (us := []) M F hr hb hd hx I .nil h)
end

/-! ### keywords -/
/-- the values of the keywords, from the left -/
def PK (X : Cx) (kws : List Keyword) (t : TA) : Prop :=
  ∀ (pos : Pos) (pins : List (Addr × Obj)) (s : Shared) (σ : St) (H : Hp) (Q : List V → Hp → Prop), Inv X pins σ H s → t σ H Q → wpAny (model X.prog X.w) X.A (evalAll ((backToKw pos (keywordEach kws X.env)).map (·.2))) (AP X pins σ Q) X.xe s
section
variable {X : Cx} {CX : CXT} {k : Nat} {f C : Addr} {fd : FuncData} {ps ks : List Str} {sp : Sp} {E : XK} {x m : Str} {p pos apos kpos : Pos} {e o : Expr} {es : List Expr} {kws : List Keyword} {te ta : TE} {t tk : TA} {nm : Option Str}
theorem pk_nil : PK X [] tNil := fun _ _ _ _ H Q I h => wpAny_evalAll_nil ⟨[], H, I, .nil, h⟩
theorem pk_cons (ha : PE X e te) (hr : PK X kws t) : PK X (⟨nm, e, kpos⟩ :: kws) (tCons te t) := by
  intro pos pins s σ H Q I h
  show wpAny _ _ (evalAll ((do let v ← eval e X.env; standAt pos; pure v) :: (backToKw pos (keywordEach kws X.env)).map (·.2))) _ _ s
  refine wpAny_evalAll_cons (wpAny_bind (thn (ha pins s σ H _ I h) fun u s1 ⟨x, H1, I1, r1, q1⟩ => wpAny_bind (wpAny_standAt (wpAny_pure ?_))))
  exact thn (hr pos pins s1 σ H1 _ I1 q1) fun us s2 ⟨xs, H2, I2, r2, q2⟩ => ⟨x :: xs, H2, I2, .cons r1 r2, q2⟩

/-- how a call with keywords binds: g puts the positional values us and the keywords' values ws (names ks) in the parameters' order, defaults among them -/
structure KBinds (K : PySem.W.Frag) (fd : FuncData) (ps ks : List Str) (g : List Value → List Value → List Value) (gV : List V → List V → List V) : Prop where
  to : ∀ (s : Shared) (us ws : List Value), K.In s.heap → (g us ws).length = ps.length → BindsTo s fd ⟨us, ks.zip ws⟩ (ps.zip (g us ws))
  rel : ∀ {vs : List V} {us : List Value} {zs : List V} {ws : List Value}, Vals vs us → Vals zs ws → Vals (gV vs zs) (g us ws)
def tCallK (sp : Sp) (gV : List V → List V → List V) (E : XK) (t tk : TA) : TE := fun σ H Q => t σ H fun vs H1 => tk σ H1 fun zs H2 => sp (gV vs zs) H2 Q E
variable {g : List Value → List Value → List Value} {gV : List V → List V → List V}
theorem run_fnk {pins : List (Addr × Obj)} {σ : St} {H : Hp} {s : Shared} {Q : VK} {us ws : List Value} {vs zs : List V} (F : FnOk X.prog X.w X.K X.mg X.base CX k f fd ps sp) (hr : Room k X.A) (hb : KBinds X.K fd ps ks g gV) (hx : Passes CX X E)
    (I : Inv X pins σ H s) (r : Vals vs us) (rz : Vals zs ws) (h : sp (gV vs zs) H Q E) : wpAny (model X.prog X.w) X.A (call (.ref f) us (ks.zip ws)) (EP X pins σ Q) X.xe s := by
  have r2 := hb.rel r rz
  have hl : (g us ws).length = ps.length := by rw [← r2.length]; exact F.len _ _ _ _ h
  refine wpAny_call (codeAny_mono (F.run X.A X.stack s H ⟨us, ks.zip ws⟩ (g us ws) (gV vs zs) Q E hr I.env0 (hb.to s us ws I.kIn hl) r2 h) fun r s' hq => ?_)
  cases r with
  | error e => exact hx pins σ H s e s' I hq
  | ok fl =>
    cases fl with
    | ret u => exact I.after hq
    | next => exact False.elim hq
    | brk => exact False.elim hq
    | cont => exact False.elim hq
/-- f(e, .., k = v, ..) -/
theorem pe_callK (F : FnOk X.prog X.w X.K X.mg X.base CX k f fd ps sp) (hr : Room k X.A) (hg : Gl X x) (hm : X.mg x = some (.ref f)) (hk : PySem.W.keepIn X.K (.ref f) = true) (hb : KBinds X.K fd ps ks g gV) (hx : Passes CX X E)
    (ha : PA X (e :: es) t) (hkw : PK X kws tk) (hall : (backToKw pos (keywordEach kws X.env)).all (·.1.isSome) = true := by rfl) (hks : (backToKw pos (keywordEach kws X.env)).filterMap (·.1) = ks := by rfl)
    (hdb : (x == ("__debug__" : Str)) = false := by decide) (he : starEach (e :: es) X.env = (false, eval e X.env) :: starEach es X.env := by rfl)
    (hpl : ((backTo pos (starEach (e :: es) X.env)).any (·.1) || (backToKw pos (keywordEach kws X.env)).any (·.1.isNone)) = false := by rfl) :
    PE X (.Call (.Name x p) (e :: es) kws pos) (tCallK sp gV E t tk) := by
  refine ⟨?_⟩
  intro pins s σ H Q I h
  refine wpAny_Call_Name_kw (ld_glob I hg hm ?_ hdb)
  refine PySem.W.callWith_KW (h₀ := X.base) I.ok.mod.kin hk hall (thn (ha pos pins s σ H _ I h) fun us s1 ⟨vs, H1, I1, r, q⟩ => ?_) hpl he
  refine thn (hkw pos pins s1 σ H1 _ I1 q) fun ws s2 ⟨zs, H2, I2, rz, q2⟩ => ⟨I2.kIn, ?_⟩
  rw [hks]
  exact run_fnk F hr hb hx I2 r rz q2
end

/-! ### a def's body keeps its promise -/
/-- names: the parameters first -/
structure FnScope (N P : List Str) (sc : Scope) : Prop where
  kind : sc.kind = .function
  co : sc.isCoroutine = false
  gen : sc.isGenerator = false
  nd : N.Nodup
  pre : N.take P.length = P
  par : ∀ x ∈ P, sc.names.lookup x = some .local ∨ sc.names.lookup x = some .cell
  nofree : ∀ y ∈ sc.names, y.2 ≠ .free

theorem bindL_out {kindOf : Str → Option NameKind} {x : Str} : ∀ {binds : List (Str × Value)} {m : Str → Option Value}, (∀ v, (x, v) ∉ binds) → bindL kindOf binds m x = m x
  | [], _, _ => rfl
  | (n, v) :: r, m, h => by
    unfold bindL
    rw [bindL_out fun w hw => h w (List.mem_cons_of_mem _ hw)]
    split
    · have : x ≠ n := by rintro rfl; exact h v List.mem_cons_self
      simp [this]
    · rfl
theorem bindC_out {kindOf : Str → Option NameKind} {x : Str} : ∀ {binds : List (Str × Value)} {m : Str → Option Value}, (∀ v, (x, v) ∉ binds) → bindC kindOf binds m x = m x
  | [], _, _ => rfl
  | (n, v) :: r, m, h => by
    unfold bindC
    rw [bindC_out fun w hw => h w (List.mem_cons_of_mem _ hw)]
    split
    · rfl
    · have : x ≠ n := by rintro rfl; exact h v List.mem_cons_self
      simp [this]
theorem bindL_get {kindOf : Str → Option NameKind} {x : Str} {v : Value} : ∀ {P : List Str} {vs : List Value} {i : Nat} {m : Str → Option Value}, P.Nodup → P[i]? = some x → vs[i]? = some v → kindOf x = some .local →
    bindL kindOf (P.zip vs) m x = some v
  | [], _, _, _, _, h, _, _ => by simp at h
  | _ :: _, [], _, _, _, _, h, _ => by simp at h
  | p :: P, w :: vs, 0, m, nd, h1, h2, hk => by
    simp at h1 h2; subst h1; subst h2
    show bindL kindOf ((p, w) :: P.zip vs) m p = _
    unfold bindL
    rw [bindL_out fun v hv => (List.nodup_cons.mp nd).1 (List.of_mem_zip hv).1, if_pos hk]
    simp
  | p :: P, w :: vs, i + 1, m, nd, h1, h2, hk => by
    show bindL kindOf ((p, w) :: P.zip vs) m x = _
    unfold bindL
    exact bindL_get (i := i) (List.nodup_cons.mp nd).2 (by simpa using h1) (by simpa using h2) hk
theorem bindC_get {kindOf : Str → Option NameKind} {x : Str} {v : Value} : ∀ {P : List Str} {vs : List Value} {i : Nat} {m : Str → Option Value}, P.Nodup → P[i]? = some x → vs[i]? = some v → kindOf x ≠ some .local →
    bindC kindOf (P.zip vs) m x = some v
  | [], _, _, _, _, h, _, _ => by simp at h
  | _ :: _, [], _, _, _, _, h, _ => by simp at h
  | p :: P, w :: vs, 0, m, nd, h1, h2, hk => by
    simp at h1 h2; subst h1; subst h2
    show bindC kindOf ((p, w) :: P.zip vs) m p = _
    unfold bindC
    rw [bindC_out fun v hv => (List.nodup_cons.mp nd).1 (List.of_mem_zip hv).1, if_neg hk]
    simp
  | p :: P, w :: vs, i + 1, m, nd, h1, h2, hk => by
    show bindC kindOf ((p, w) :: P.zip vs) m x = _
    unfold bindC
    exact bindC_get (i := i) (List.nodup_cons.mp nd).2 (by simpa using h1) (by simpa using h2) hk

/-- the names' values at the entry -/
def start (N : List Str) (vs : List V) : St := vs.map some ++ List.replicate (N.length - vs.length) none

/-- the context of a def's body, at its entry; an exception leaves the frame, then lies as CX says -/
def cxOf (CX : CXT) (P : Program) (w : World) (K : PySem.W.Frag) (mg : Str → Option Value) (base : Heap) (N : List Str) (qual : Str) (scope : Scope) (f : Addr) (cd : Value) (A : Around) (outer : List Env) (s : Shared) (H : Hp) (E : XK) : Cx where
  prog := P
  w := w
  K := K
  mg := mg
  base := base
  A := A.deeper (envOfC qual scope s.heap.objs.size f cd)
  N := N
  s₀ := s
  H₀ := H
  env := envOfC qual scope s.heap.objs.size f cd
  outer := outer
  stack := envOfC qual scope s.heap.objs.size f cd :: outer
  ex := []
  calm := true
  fn := fun _ => true
  pn := []
  xe := fun e s' => wpAny (model P w) (A.deeper (envOfC qual scope s.heap.objs.size f cd)) (leaving (envOfC qual scope s.heap.objs.size f cd) e) (fun _ s'' => CX outer H s E e s'') (fun e' s'' => CX outer H s E e' s'') s'

theorem cell_has {sc : Scope} {n : Nat} {x : Str} (h : sc.names.lookup x = some .cell) : ∃ c, (cellsFrom n sc.names []).lookup x = some c := by
  have q := PySem.W.cellsFrom_some sc.names n [] (.inl h)
  exact Option.isSome_iff_exists.mp q

theorem inv_start {CX : CXT} {P : Program} {w : World} {K : PySem.W.Frag} {mg : Str → Option Value} {base : Heap} {N ps : List Str} {qual : Str} {scope : Scope} {f : Addr} {cd : Value} {A : Around} {outer : List Env} {s s1 : Shared} {H : Hp} {E : XK} {us : List Value} {vs : List V}
    (S : FnScope N ps scope) (hd : A.handled = none) (e0 : Env0 P w K mg base A outer s H) (hl : vs.length = ps.length) (r : Vals vs us)
    (x : InCallC s s.heap.objs.size (bindL (envOfC qual scope s.heap.objs.size f cd).kindOf (ps.zip us) fun _ => none) (cellsFrom (s.heap.objs.size + 1) scope.names []) (bindC (envOfC qual scope s.heap.objs.size f cd).kindOf (ps.zip us) fun _ => none) s1) :
    Inv (cxOf CX P w K mg base N qual scope f cd A outer s H E) [] (start N vs) H s1 := by
  have hpl : ps.length ≤ N.length := by have := congrArg List.length S.pre; rw [List.length_take] at this; omega
  obtain ⟨h1, tk, rfl, hk⟩ := x.done
  have noA : ∀ b : Addr, b ∉ (cxOf CX P w K mg base N qual scope f cd A outer s H E).ex := fun b z => absurd (show b ∈ ([] : List Addr) from z) (by simp)
  refine ⟨⟨e0.mod, S.kind, rfl, rfl, Nat.le_refl _, fun y z c h1 h2 => ?_, fun y hy => ?_, fun y c _ h => ?_, fun _ => hd, Around.frames_deeper e0.frames, .inr ⟨rfl, rfl⟩, fun b z => absurd z (noA b), e0.bs, e0.bsz, fun b _ _ => noA b, fun b z => absurd z (noA b), e0.funs, e0.frf⟩,
    rfl, e0.bare, Un.kept hk, ⟨_, x.toInCall.ns, fun i y v h1 h2 h3 => ?_⟩, fun y c h => ⟨_, x.cell y c h⟩, e0.hok.fresh (Nat.le_refl _), fun y c h => ?_, fun p hp => absurd (show p ∈ ([] : List (Addr × Obj)) from hp) (by simp), e0.hok.kept hk, ?_⟩
  · exact name_of_addr x.apart (PySem.mem_of_lookup h1) (PySem.mem_of_lookup h2)
  · have hy : scope.names.lookup y = some .cell ∨ scope.names.lookup y = some .free := hy
    rcases hy with hy | hy
    · exact cell_has hy
    · exact absurd rfl (S.nofree _ (PySem.mem_of_lookup hy))
  · exact Nat.le_of_lt (x.above y c (PySem.mem_of_lookup h))
  · have hi : i < vs.length := by
      unfold start at h2
      by_cases hi : i < vs.length
      · exact hi
      · rw [List.getElem?_append_right (by simpa using hi)] at h2
        rw [List.getElem?_replicate] at h2
        split at h2 <;> cases h2
    have ha : vs[i]? = some v := by
      unfold start at h2
      rw [List.getElem?_append_left (by simpa using hi), List.getElem?_map] at h2
      cases e : vs[i]? with
      | none => rw [e] at h2; cases h2
      | some a => rw [e] at h2; cases h2; rfl
    obtain ⟨u, hu, rv⟩ := r.get ha
    have hp : ps[i]? = some y := by
      rw [← S.pre, List.getElem?_take_of_lt (by omega)]; exact h1
    have ndP : ps.Nodup := by rw [← S.pre]; exact S.nd.sublist (List.take_sublist _ _)
    refine ⟨u, rv, ?_⟩
    rcases S.par y (List.mem_of_getElem? hp) with k | k
    · exact .inl ⟨k, bindL_get ndP hp hu k⟩
    · obtain ⟨c, e⟩ := cell_has (n := s.heap.objs.size + 1) k
      refine .inr ⟨.inl k, c, e, ?_⟩
      have q := x.cell y c e
      rw [bindC_get ndP hp hu (by show scope.names.lookup y ≠ _; rw [k]; decide)] at q
      exact q
  · exact e0.hok.fresh (Nat.le_of_lt (x.above y c (PySem.mem_of_lookup h)))
  · unfold start
    show _ = N.length
    rw [List.length_append, List.length_map, List.length_replicate]
    omega

/-- THE RULE: a def (or a method) of the text, by its body. The body's reading t is chosen for each entry; it is run at the parameters' values -/
theorem fn_of {CX : CXT} {P : Program} {w : World} {K : PySem.W.Frag} {mg : Str → Option Value} {base : Heap} {k : Nat} {f : Addr} {name qual : Str} {params : Arguments} {body : List Stmt} {scope : Scope} {dV kV doc pm cdv ct oc : Value} {an od : Option Addr}
    {osl : Array (Option Value)} {N ps : List Str} {sp : Sp} (lk : K.lookup f = some ⟨oc, od, .func (PySem.W.fnOf name qual params body scope dV kV doc pm an cdv ct), osl⟩) (hcd : PySem.W.codeIn K cdv qual = true) (S : FnScope N ps scope)
    (len : ∀ vs H Q E, sp vs H Q E → vs.length = ps.length)
    (hbody : ∀ (A : Around) (outer : List Env) (s : Shared) (H : Hp) (vs : List V) (Q : VK) (E : XK), Room k (A.deeper (envOfC qual scope s.heap.objs.size f cdv)) → sp vs H Q E →
      ∃ t, PSs (cxOf CX P w K mg base N qual scope f cdv A outer s H E) body t ∧ t { nx := fun _ H' => Q .non H', rt := Q } (start N vs) H) :
    FnOk P w K mg base CX (k + 1) f (PySem.W.fnOf name qual params body scope dV kV doc pm an cdv ct) ps sp := by
  refine ⟨len, fun A outer s H args us vs Q E hr e0 hb r hsp => ?_⟩
  have hl := len _ _ _ _ hsp
  have KX : K.In s.heap := e0.mod.kin.keeps fun b o e => (e0.bs b o e).1
  have lim : s.heap.NoLimit := e0.mod.nolimit.keeps fun b o e => (e0.bs b o e).1
  have hkind : ∀ y ∈ ps.zip us, scope.names.lookup y.1 = some .local ∨ (scope.names.lookup y.1 = some .cell ∧ ((cellsFrom (s.heap.objs.size + 1) scope.names []).lookup y.1).isSome = true) := fun ⟨n, v⟩ hy => by
    rcases S.par n (List.of_mem_zip hy).1 with q | q
    · exact .inl q
    · exact .inr ⟨q, PySem.W.cellsFrom_some _ _ _ (.inl q)⟩
  refine codeAny_call_function hr.depth (KX _ _ lk) rfl S.co S.gen rfl (PySem.W.codeRec_of KX hcd) (hb _ _ _ _ ?_)
  refine wpAny_newFunctionEnv_cells S.kind hkind fun env he s1 x => ?_
  subst he
  refine ⟨lim.keeps x.toInCall.keep, codeAny_func ?_⟩
  obtain ⟨t, ht, hq⟩ := hbody A outer s H vs Q E (hr.deeper _) hsp
  have I : Inv (cxOf CX P w K mg base N qual scope f cdv A outer s H E) [] (start N vs) H s1 := inv_start S hr.hd e0 hl r x
  refine wpAny_mono (ht [] s1 (start N vs) H _ I hq) (fun fl s' hs => ?_) fun e s' hs => hs
  have fin : ∀ {σ' : St} {H' : Hp} {v : V} {u : Value}, Inv (cxOf CX P w K mg base N qual scope f cdv A outer s H E) [] σ' H' s' → RelV v u → Q v H' → CE outer P w H s Q u s' :=
    fun {σ' H' v u} J rv q => ⟨v, H', J.os, J.bare, J.base, J.hok, rv, q⟩
  cases fl with
  | ret u =>
    obtain ⟨v, σ', H', J, rv, q⟩ := hs
    exact fin J rv q
  | next =>
    obtain ⟨σ', H', J, q⟩ := hs
    exact fin (v := V.non) (u := Value.none) J rfl q
  | brk =>
    obtain ⟨_, _, _, q⟩ := hs
    exact False.elim q
  | cont =>
    obtain ⟨_, _, _, q⟩ := hs
    exact False.elim q
end L2

namespace L2
open PySem PySem.Spec PyProof.Rows
section
variable {X : Cx} {x : Str} {p pos : Pos} {e : Expr} {es : List Expr} {t : TA} {id T : String} {r : List V → Hp → VK → Prop}

def tCB (r : List V → Hp → VK → Prop) (t : TA) : TE := fun σ H Q => t σ H fun vs H1 => r vs H1 Q
/-- f(e, ..), f a built-in function -/
theorem pe_callB (hc : CallR X (.builtin id) r) (hg : Gl X x) (hm : X.mg x = none) (hv : bootBuiltins x = some (.builtin id)) (ha : PA X (e :: es) t) (hn : x ≠ "__name__" := by decide) (hdb : (x == ("__debug__" : Str)) = false := by decide)
    (he : starEach (e :: es) X.env = (false, eval e X.env) :: starEach es X.env := by rfl) (hpl : (backTo pos (starEach es X.env)).any (·.1) = false := by rfl) : PE X (.Call (.Name x p) (e :: es) [] pos) (tCB r t) := by
  refine ⟨?_⟩
  intro pins s σ H Q I h
  refine wpAny_Call_Name_kw (ld_blt I hg hm hv ?_ hn hdb)
  exact PyProof.Rows.callWith_builtin1 (thn (ha pos pins s σ H _ I h) fun us s1 ⟨vs, H1, I1, r1, q1⟩ => hc pins s1 σ H1 vs us Q I1 r1 q1) he hpl
/-- T(e, ..), T a built-in type -/
theorem pe_callTy (hc : CallR X (.type T) r) (hg : Gl X x) (hm : X.mg x = none) (hv : bootBuiltins x = some (.type T)) (ha : PA X (e :: es) t) (hn : x ≠ "__name__" := by decide) (hdb : (x == ("__debug__" : Str)) = false := by decide)
    (he : starEach (e :: es) X.env = (false, eval e X.env) :: starEach es X.env := by rfl) (hpl : (backTo pos (starEach es X.env)).any (·.1) = false := by rfl) : PE X (.Call (.Name x p) (e :: es) [] pos) (tCB r t) := by
  refine ⟨?_⟩
  intro pins s σ H Q I h
  refine wpAny_Call_Name_kw (ld_blt I hg hm hv ?_ hn hdb)
  exact PyProof.Rows.callWith_type1 (thn (ha pos pins s σ H _ I h) fun us s1 ⟨vs, H1, I1, r1, q1⟩ => hc pins s1 σ H1 vs us Q I1 r1 q1) he hpl
/-- T() -/
theorem pe_callTy0 (hc : CallR X (.type T) r) (hg : Gl X x) (hm : X.mg x = none) (hv : bootBuiltins x = some (.type T)) (hn : x ≠ "__name__" := by decide) (hdb : (x == ("__debug__" : Str)) = false := by decide) :
    PE X (.Call (.Name x p) [] [] pos) (tCB r tNil) := by
  refine ⟨?_⟩
  intro pins s σ H Q I h
  refine wpAny_Call_Name_kw (ld_blt I hg hm hv ?_ hn hdb)
  exact PyProof.Rows.callWith_type0 (hc pins s σ H [] [] Q I .nil h)
end
end L2

namespace HT
open PySem PyProof.Rows

/-- t < u of tuples of ints -/
def lexLt : List Int → List Int → Bool
  | [], [] => false
  | [], _ :: _ => true
  | _ :: _, [] => false
  | x :: xs, y :: ys => if x = y then lexLt xs ys else decide (x < y)
theorem lexLt_cons (x y : Int) (xs ys : List Int) : lexLt (x :: xs) (y :: ys) = if x = y then lexLt xs ys else decide (x < y) := rfl
theorem lexLt_nil_nil : lexLt [] [] = false := rfl
theorem lexLt_nil_cons (y : Int) (ys : List Int) : lexLt [] (y :: ys) = true := rfl
theorem lexLt_cons_nil (x : Int) (xs : List Int) : lexLt (x :: xs) [] = false := rfl

theorem eqAt_int (A : Around) (s : Shared) (a : Int) (t : Tok) (c : Int) (u : Tok) : ∃ e, SeqAt.EqAt A s (.int a t) (.int c u) e ∧ (e = true ↔ a = c) :=
  ⟨(a == c), SeqAt.EqAt.int_int a t c u, by simp⟩
theorem rcLt_int (A : Around) (s : Shared) (a : Int) (t : Tok) (c : Int) (u : Tok) (prog : Program) (w : World) (E : Value → Shared → Prop) (Q : Value → Shared → Prop) (h : Q (.bool (decide (a < c))) s) :
    wpAny (model prog w) A (richCompare .Lt (.int a t) (.int c u)) Q E s :=
  (PyProof.Rows.lt_int h : wpAny (model prog w) A (compareOp .Lt (.int a t) (.int c u)) Q E s)

section
open PySem.SeqAt
open PySem.AutoSeq1 (wpAny_loadPart')
open PySem.MeetsSeq PySem.MeetsSeq2 PySem.MeetsSeq3

theorem tuple_lt_ints (l b : Addr) (items items2 : Array Value) (n n2 : Nat) (dd dd2 : Option Addr) (sl sl2 : Array (Option Value)) (ns ms : List Int) (hi : IntsAre items.toList ns) (hj : IntsAre items2.toList ms) :
    Meets (Builtin.«tuple.__lt__» ⟨[.ref l, .ref b], []⟩)
      (fun _ R s => s.heap.get? l = some { cls := .type "tuple", dict := dd, data := .seq items n, slots := sl } ∧ s.heap.get? b = some { cls := .type "tuple", dict := dd2, data := .seq items2 n2, slots := sl2 } ∧
        R (.ok (.ret (.bool (lexLt ns ms)))) s) :=
  .of_wp fun prog w A R s h => by
    obtain ⟨hp, g, d, tk, os⟩ := s; obtain ⟨hl, hb, h⟩ := h
    have f2 := AutoSeq1.sub_tuple_tuple
    have z1 : items.size = ns.length := by rw [← hi.length]; simp
    have z2 : items2.size = ms.length := by rw [← hj.length]; simp
    wp_walk using wpAny_loadPart' hl, wpAny_loadPart' hb, wpAny_forIn_list _ (fun rest b s' => b.1 = none ∧ s' = ⟨hp, g, d, tk, os⟩ ∧ ∃ (vs ws : List Value) (ns' ms' : List Int), rest = vs.zip ws ∧
      IntsAre vs ns' ∧ IntsAre ws ms' ∧ ns'.length + items2.size = ms'.length + items.size ∧ R (.ok (.ret (.bool (lexLt ns' ms')))) ⟨hp, g, d, tk, os⟩) _
    case turn =>
      rintro ⟨y, x⟩ rest b s' ⟨hb', rfl, vs, ws, ns', ms', hz, hvi, hwi, hlen, hR⟩
      cases hvi with
      | nil => rw [List.zip_nil_left] at hz; cases hz
      | cons a t hvi' =>
        cases hwi with
        | nil => rw [List.zip_nil_right] at hz; cases hz
        | cons c u hwi' =>
          rw [List.zip_cons_cons] at hz
          injection hz with hyx hrest
          injection hyx with hy hx
          subst hy hx
          rw [lexLt_cons] at hR
          simp only [List.length_cons] at hlen
          obtain ⟨e, he, hiff⟩ := eqAt_int A.in1 ⟨hp, g, d, tk, os⟩ a t c u
          refine wpAny_bind (he prog w _ _ ?_)
          cases e with
          | true =>
            rw [if_pos (hiff.mp rfl)] at hR
            wp_walk
            exact ⟨rfl, rfl, _, _, _, _, hrest, hvi', hwi', by omega, hR⟩
          | false =>
            rw [if_neg (fun q => absurd (hiff.mpr q) Bool.false_ne_true)] at hR
            have hri := rcLt_int A.in1 ⟨hp, g, d, tk, os⟩ a t c u prog w
            wp_walk using hri
            exact ⟨_, rfl, by simpa using hR⟩
    case fin =>
      rintro ⟨b1, b2⟩ s' ⟨hb', rfl, vs, ws, ns', ms', hz, hvi, hwi, hlen, hR⟩
      simp only at hb'
      subst hb'
      have hv : lexLt ns' ms' = decide (items.size < items2.size) := by
        cases hvi with
        | nil =>
          cases hwi with
          | nil =>
            simp only [List.length_nil] at hlen
            rw [lexLt_nil_nil]
            exact (decide_eq_false (by omega)).symm
          | cons c u hw =>
            simp only [List.length_nil, List.length_cons] at hlen
            rw [lexLt_nil_cons]
            exact (decide_eq_true (by omega)).symm
        | cons a t hv =>
          cases hwi with
          | nil =>
            simp only [List.length_nil, List.length_cons] at hlen
            rw [lexLt_cons_nil]
            exact (decide_eq_false (by omega)).symm
          | cons c u hw =>
            rw [List.zip_cons_cons] at hz
            cases hz
      rw [hv] at hR
      wp_walk
      exact ⟨_, rfl, by simpa [Builtin.Tuple.tupleCompareSizes] using hR⟩
    case h =>
      exact ⟨rfl, rfl, items.toList, items2.toList, ns, ms, rfl, hi, hj, by omega, h⟩
end

section
variable {prog : Program} {w : World} {A : Around} {E : Value → Shared → Prop} {s : Shared}

theorem lt_tupInts {l b : Addr} {items items2 : Array Value} {ns ms : List Int} {Q : Value → Shared → Prop} (hl : IsTup s.heap l items) (hb : IsTup s.heap b items2) (hi : IntsAre items.toList ns) (hj : IntsAre items2.toList ms)
    (hu : A.units < cLine) (h : Q (.bool (lexLt ns ms)) s) : wpAny (model prog w) A (compareOp .Lt (.ref l) (.ref b)) Q E s := by
  obtain ⟨⟨cls, dd, data, sl⟩, ho, hc, n, hd⟩ := id hl
  obtain ⟨⟨cls2, dd2, data2, sl2⟩, ho2, hc2, n2, hd2⟩ := id hb
  simp only at hc hd hc2 hd2
  subst hc hd hc2 hd2
  exact richCompare_meets_room (op := .Lt) ⟨_, ho, rfl⟩ ⟨_, ho2, rfl⟩ PySem.F.slot_tuple_lt PySem.F.entry_tuple_lt (PySem.F.args_tuple_lt_2 _ _) (tuple_lt_ints l b items items2 n n2 dd dd2 sl sl2 ns ms hi hj)
    ⟨ho, ho2, show Value.bool (lexLt ns ms) ≠ Value.notImplemented ∧ Q (.bool (lexLt ns ms)) s from ⟨(fun x => nomatch x), h⟩⟩ hu

/-- t + u, t not empty -/
theorem cat_tup {t b : Addr} {vs ws : List Value} {Q : Value → Shared → Prop} (ht : IsTup s.heap t vs.toArray) (hb : IsTup s.heap b ws.toArray) (hv : vs ≠ [])
    (h1 : ws = [] → Q (.ref t) s) (h2 : ws ≠ [] → Q (.ref s.heap.objs.size) { s with heap := s.heap.push { cls := .type "tuple", data := .seq (vs ++ ws).toArray } })
    (hsz : vs.length + ws.length ≤ sizeLine) : wpAny (model prog w) A (binaryOp .Add (.ref t) (.ref b)) Q E s := by
  obtain ⟨⟨cls, dd, data, sl⟩, ho, hc, n, hd⟩ := id ht
  obtain ⟨⟨cls2, dd2, data2, sl2⟩, ho2, hc2, n2, hd2⟩ := id hb
  simp only at hc hd hc2 hd2
  subst hc hd hc2 hd2
  have e : vs.toArray ++ ws.toArray = (vs ++ ws).toArray := by simp
  by_cases hw : ws = []
  · exact concat_meets ⟨_, ho, rfl⟩ ⟨_, ho2, rfl⟩ noFill_tuple_add seq_tuple_add PySem.F.slot_tuple_add PySem.F.entry_tuple_add (PySem.F.args_tuple_add_2 _ _)
      (tuple_addW1 t b vs.toArray ws.toArray n n2 dd dd2 sl sl2 (by simpa using hv) (by simp [hw])) ⟨ho, ho2, h1 hw⟩
  · refine concat_meets ⟨_, ho, rfl⟩ ⟨_, ho2, rfl⟩ noFill_tuple_add seq_tuple_add PySem.F.slot_tuple_add PySem.F.entry_tuple_add (PySem.F.args_tuple_add_2 _ _)
      (tuple_addW2 t b vs.toArray ws.toArray n n2 dd dd2 sl sl2 (by simpa using hv) (by simpa using hw) (by rw [List.size_toArray, List.size_toArray]; exact hsz)) ⟨ho, ho2, ?_⟩
    rw [e]
    exact h2 hw

/-! ### t[a:b], not the whole -/
/-- a slice's bound as a place among n (d where it is left out) -/
def sIx (n d : Nat) : Option Int → Nat
  | none => d
  | some v => if v < 0 then (v + (n : Int)).toNat else min v.toNat n
theorem sIx_none (n d : Nat) : sIx n d none = d := rfl
theorem sIx_nat (n d k : Nat) : sIx n d (some (k : Int)) = min k n := by
  show (if (k : Int) < 0 then ((k : Int) + (n : Int)).toNat else min (k : Int).toNat n) = min k n
  rw [if_neg (by omega), Int.toNat_natCast]
theorem sIx_le (n d : Nat) (hd : d ≤ n) (o : Option Int) : sIx n d o ≤ n := by
  cases o with
  | none => exact hd
  | some v =>
    show (if v < 0 then (v + (n : Int)).toNat else min v.toNat n) ≤ n
    by_cases hv : v < 0
    · rw [if_pos hv]; omega
    · rw [if_neg hv]; exact Nat.min_le_right _ _
theorem clip_eq (v : Int) (n d : Nat) : (if v < 0 then max (v + (n : Int)) 0 else min v (n : Int)) = ((sIx n d (some v) : Nat) : Int) := by
  show (if v < 0 then max (v + (n : Int)) 0 else min v (n : Int)) = (((if v < 0 then (v + (n : Int)).toNat else min v.toNat n) : Nat) : Int)
  by_cases hv : v < 0
  · simp only [if_pos hv]; omega
  · simp only [if_neg hv]; omega
theorem adjust_gen (lo hi : Option Int) (n : Nat) : Builtin.Slice.sliceAdjust lo hi 1 (n : Int) = (((sIx n 0 lo : Nat) : Int), ((sIx n n hi : Nat) : Int)) := by
  have h1 : ¬ ((1 : Int) < 0) := by omega
  unfold Builtin.Slice.sliceAdjust
  simp only [h1, if_false]
  refine Prod.ext ?_ ?_
  · cases lo with
    | none => rfl
    | some v => exact clip_eq v n 0
  · cases hi with
    | none => rfl
    | some v => exact clip_eq v n n
theorem places_gen (i j : Nat) : Builtin.Slice.slicePlaces (i : Int) (j : Int) 1 = j - i := by
  unfold Builtin.Slice.slicePlaces
  have h1 : (1 : Int) > 0 := by omega
  simp only [h1, if_true, Int.ediv_one]
  split <;> omega
theorem slicePart_ {v : Value} {o : Option Int} {Q : Option Int → Shared → Prop} (p : IsPart v o) (h : Q o s) : wpAny (model prog w) A (Builtin.Slice.slicePartIndex v) Q E s := by
  cases p with
  | none => exact slicePart_none h
  | int i t => exact slicePart_int h
theorem sliceApplied_gen {sl : Addr} {vl vu : Value} {lo hi : Option Int} {n : Nat} {Q : Int × Int × Nat → Shared → Prop} (hs : s.heap.IsSliceOf sl vl vu .none) (pl : IsPart vl lo) (pu : IsPart vu hi)
    (h : Q (((sIx n 0 lo : Nat) : Int), 1, sIx n n hi - sIx n 0 lo) s) : wpAny (model prog w) A (Builtin.Slice.sliceApplied (.ref sl) (pure (n : Int))) Q E s := by
  obtain ⟨os, hos, hcs, hds⟩ := id hs
  unfold Builtin.Slice.sliceApplied Builtin.Slice.sliceFields
  refine wpAny_bind (wpAny_bind (wpAny_field hos hds (x := vl) rfl (wpAny_bind (wpAny_field hos hds (x := vu) rfl (wpAny_bind (wpAny_field hos hds (x := .none) rfl (wpAny_pure ?_)))))))
  refine wpAny_bind (slicePart_none ?_)
  show wpAny _ _ (if ((1 : Int) == 0) = true then _ else _) _ _ s
  rw [if_neg (by decide)]
  refine wpAny_bind (slicePart_ pl (wpAny_bind (slicePart_ pu (wpAny_bind (wpAny_pure ?_)))))
  show wpAny _ _ (match Builtin.Slice.sliceAdjust lo hi 1 (n : Int) with | (lo, hi) => pure (lo, (1 : Int), Builtin.Slice.slicePlaces lo hi 1)) _ _ s
  rw [adjust_gen lo hi n]
  show wpAny _ _ (pure (((sIx n 0 lo : Nat) : Int), (1 : Int), Builtin.Slice.slicePlaces ((sIx n 0 lo : Nat) : Int) ((sIx n n hi : Nat) : Int) 1)) _ _ s
  rw [places_gen]
  exact wpAny_pure h
theorem pick_gen (xs : Array Value) (i k : Nat) : ((List.range k).filterMap fun (m : Nat) => xs[((i : Int) + (m : Int) * 1).toNat]?).toArray = ((xs.toList.drop i).take k).toArray := by
  have e : (fun (m : Nat) => xs[((i : Int) + (m : Int) * 1).toNat]?) = fun m => xs[i + m]? := by
    funext m
    have : ((i : Int) + (m : Int) * 1).toNat = i + m := by omega
    rw [this]
  rw [e]
  have := pick_run xs i k
  rw [List.filterMap_map] at this
  have e2 : ((fun x => xs[x]?) ∘ fun x => i + x) = fun m => xs[i + m]? := rfl
  rw [e2] at this
  rw [this]

theorem getItem_tuple_cut {t sl : Addr} {items : Array Value} {vl vu : Value} {lo hi : Option Int} {Q : Value → Shared → Prop} (ht : IsTup s.heap t items) (hs : s.heap.IsSliceOf sl vl vu .none) (pl : IsPart vl lo) (pu : IsPart vu hi)
    (hw : ¬ (sIx items.size 0 lo = 0 ∧ sIx items.size items.size hi = items.size))
    (h : Q (.ref s.heap.objs.size) { s with heap := s.heap.push { cls := .type "tuple", data := .seq ((items.toList.drop (sIx items.size 0 lo)).take (sIx items.size items.size hi - sIx items.size 0 lo)).toArray } })
    (hsz : items.size ≤ sizeLine) : wpAny (model prog w) A (getItem (.ref t) (.ref sl)) Q E s := by
  have htake : sizeOk (.seq ((items.toList.drop (sIx items.size 0 lo)).take (sIx items.size items.size hi - sIx items.size 0 lo)).toArray) := by
    show ((items.toList.drop (sIx items.size 0 lo)).take (sIx items.size items.size hi - sIx items.size 0 lo)).toArray.size ≤ sizeLine
    rw [List.size_toArray, List.length_take, List.length_drop, Array.length_toList]
    omega
  have hj : sIx items.size items.size hi ≤ items.size := sIx_le _ _ (Nat.le_refl _) hi
  obtain ⟨os, hos, hcs, hds⟩ := id hs
  have hTs : s.TypeIs (.ref sl) "slice" := ⟨os, hos, hcs⟩
  unfold getItem
  try with_reducible refine wpAny_holding ?_
  first | refine wpAny_bind (wpAny_pure ?_) | skip
  refine wpAny_bind (wpAny_sequenceKey ht.typeIs (by decide) ?_)
  refine wpAny_bind (wpAny_callSpecial?_slot (name := Str.ofString "__getitem__") ht.typeIs PyProof.Rows.slot_tuple_getitem
    (wpAny_call_entry PyProof.Rows.slot_tuple_getitem ht.typeIs entry_tuple_getitem ?_ (args_tuple_getitem _ _)))
  show wpAny _ _ (Builtin.Tuple.tupleItemsOf (.ref t) >>= _) _ _ s
  refine wpAny_bind (tupleItemsOf_ ht ?_)
  refine wpAny_bind (wpAny_typeOf hTs ?_)
  rw [if_pos (by decide)]
  refine wpAny_bind (sliceApplied_gen hs pl pu ?_)
  have hno : ¬ ((((sIx items.size 0 lo : Nat) : Int) == 0 && (1 : Int) == 1 && (sIx items.size items.size hi - sIx items.size 0 lo) == items.size) = true) := by
    intro q
    rw [Bool.and_eq_true, Bool.and_eq_true] at q
    have q1 : ((sIx items.size 0 lo : Nat) : Int) = 0 := eq_of_beq q.1.1
    have q2 : sIx items.size items.size hi - sIx items.size 0 lo = items.size := eq_of_beq q.2
    exact hw ⟨by omega, by omega⟩
  show wpAny _ _ (if (((sIx items.size 0 lo : Nat) : Int) == 0 && (1 : Int) == 1 && (sIx items.size items.size hi - sIx items.size 0 lo) == items.size) = true then _ else _) _ _ s
  rw [if_neg hno, pick_gen]
  first
    | exact wpAny_bind (m := Builtin.Tuple.tupleExact _) (wpAny_newObj_type (wpAny_pure ⟨_, rfl, wpAny_pure h⟩) htake)
    | exact wpAny_bind (m := Builtin.Tuple.tupleExact _) (wpAny_newObj_type (wpAny_bind (wpAny_pure (wpAny_pure ⟨_, rfl, wpAny_pure h⟩))) htake)
    | exact wpAny_bind (wpAny_bind (m := Builtin.Tuple.tupleExact _) (wpAny_newObj_type (wpAny_pure (wpAny_pure ⟨_, rfl, wpAny_pure h⟩)) htake))
    | exact wpAny_bind (wpAny_bind (m := Builtin.Tuple.tupleExact _) (wpAny_newObj_type (wpAny_pure ⟨_, rfl, wpAny_pure h⟩) htake))
end
end HT

namespace L2
open PySem PySem.Spec PyProof.Rows

/-! ### the parts of a slice -/
abbrev TO := St → Hp → (Option Int → Hp → Prop) → Prop
/-- a slice's part (left out, or an int) -/
def PO (X : Cx) (e : Option Expr) (t : TO) : Prop :=
  ∀ (pins : List (Addr × Obj)) (s : Shared) (σ : St) (H : Hp) (Q : Option Int → Hp → Prop), Inv X pins σ H s → t σ H Q →
    wpAny (model X.prog X.w) X.A (evalPart e X.env) (fun u s' => ∃ o H', Inv X pins σ H' s' ∧ IsPart u o ∧ Q o H') X.xe s
def tNoPart : TO := fun _ H Q => Q none H
def tPart (t : TE) : TO := fun σ H Q => t σ H fun x H1 => ∃ i, x = .int i ∧ Q (some i) H1

theorem intsAre_of {ns : List Int} : ∀ {us : List Value}, Vals (ns.map V.int) us → IntsAre us ns := by
  induction ns with
  | nil => intro us r; rw [List.map_nil] at r; cases r; exact .nil
  | cons n ns ih =>
    intro us r
    rw [List.map_cons] at r
    cases r with
    | cons r1 r2 =>
      obtain ⟨t, e⟩ := r1
      subst e
      exact .cons n t (ih r2)

section
variable {X : Cx} {e : Expr} {te : TE} {lo hi : Option Expr} {tl th : TO} {pos p2 : Pos}

theorem po_none : PO X none tNoPart := by
  intro pins s σ H Q I h
  rw [evalPart_none]
  exact wpAny_pure ⟨none, H, I, .none, h⟩
theorem po_some (h : PE X e te) : PO X (some e) (tPart te) := by
  intro pins s σ H Q I hw
  rw [evalPart_some]
  refine thn (h pins s σ H _ I hw) fun u s1 ⟨x, H1, I1, r1, q1⟩ => ?_
  obtain ⟨i, rfl, q⟩ := q1
  obtain ⟨t, rfl⟩ := r1
  exact ⟨some i, H1, I1, .int i t, q⟩

/-- what a slice of a value is, by values: the slice object stands at sl -/
def SlR (X : Cx) (r : V → Option Int → Option Int → Hp → VK → Prop) : Prop :=
  ∀ (pins : List (Addr × Obj)) (s : Shared) (σ : St) (H : Hp) (x : V) (v vl vu : Value) (lo hi : Option Int) (sl : Addr) (Q : VK), Inv X pins σ H s → RelV x v → s.heap.IsSliceOf sl vl vu .none → IsPart vl lo → IsPart vu hi → r x lo hi H Q →
    ∃ T id, typeLookup (.type T) "__getitem__" = pure (some (.builtin id)) ∧ s.TypeIs v T ∧ wpAny (model X.prog X.w) X.A (getItem v (.ref sl)) (EP X pins σ Q) X.xe s
theorem SlR.or {r r' : V → Option Int → Option Int → Hp → VK → Prop} (h : SlR X r) (h' : SlR X r') : SlR X (fun x lo hi H Q => r x lo hi H Q ∨ r' x lo hi H Q) := by
  intro pins s σ H x v vl vu lo hi sl Q I rx hs pl pu q
  rcases q with q | q
  · exact h pins s σ H x v vl vu lo hi sl Q I rx hs pl pu q
  · exact h' pins s σ H x v vl vu lo hi sl Q I rx hs pl pu q
def tSl (r : V → Option Int → Option Int → Hp → VK → Prop) (te : TE) (tl th : TO) : TE := fun σ H Q => te σ H fun x H1 => tl σ H1 fun l H2 => th σ H2 fun u H3 => r x l u H3 Q
/-- a[lo:hi], any a -/
theorem pe_slice {r : V → Option Int → Option Int → Hp → VK → Prop} (hr : SlR X r) (he : PE X e te) (hl : PO X lo tl) (hu : PO X hi th) : PE X (.Subscript e (.Slice lo hi none p2) pos) (tSl r te tl th) := by
  refine ⟨?_⟩
  intro pins s σ H Q I h
  refine Subscript_ (thn (he pins s σ H _ I h) fun v s1 ⟨x, H1, I1, r1, q1⟩ => ?_)
  refine wpAny_Slice (thn (hl pins s1 σ H1 _ I1 q1) fun vl s2 ⟨l, H2, I2, pl, q2⟩ => thn (hu pins s2 σ H2 _ I2 q2) fun vu s3 ⟨u, H3, I3, pu, q3⟩ => ?_)
  rw [evalPart_none]
  refine wpAny_pure ?_
  have I4 : Inv X pins σ H3 { s3 with heap := s3.heap.push { cls := .type "slice", data := .fields #[vl, vu, .none] } } := I3.kept (t' := s3.toks) fun b ob q => Heap.get?_push_of_some _ q
  obtain ⟨T, id, hT, ht, hg⟩ := hr pins { s3 with heap := s3.heap.push { cls := .type "slice", data := .fields #[vl, vu, .none] } } σ H3 x v vl vu l u s3.heap.objs.size Q I4 r1 (Heap.IsSliceOf.new ..) pl pu q3
  show wpAny (model X.prog X.w) X.A (subscriptTail e (.Slice lo hi none p2) v (.ref s3.heap.objs.size)) (EP X pins σ Q) X.xe { s3 with heap := s3.heap.push { cls := .type "slice", data := .fields #[vl, vu, .none] } }
  exact tail_any (ops := [.ref s3.heap.objs.size, v]) ht hT hg (by with_unfolding_all rfl)

/-- the items of xs[lo:hi] -/
def cutV (xs : List V) (lo hi : Option Int) : List V := (xs.drop (HT.sIx xs.length 0 lo)).take (HT.sIx xs.length xs.length hi - HT.sIx xs.length 0 lo)
theorem cutV_length (xs : List V) (lo hi : Option Int) : (cutV xs lo hi).length ≤ xs.length := by
  unfold cutV
  rw [List.length_take, List.length_drop]
  omega
/-- t[lo:hi], not the whole of it (the whole would be t itself) -/
def rSlT (K : PySem.W.Frag) : V → Option Int → Option Int → Hp → VK → Prop := fun x lo hi H Q => ∃ a xs, x = .ref a ∧ SqT K H a xs ∧
  ¬ (HT.sIx xs.length 0 lo = 0 ∧ HT.sIx xs.length xs.length hi = xs.length) ∧ ∀ p, H p = none → Q (.ref p) (upd H p (.tup (cutV xs lo hi)))
theorem sl_tup : SlR X (rSlT X.K) := by
  intro pins s σ H x v vl vu lo hi sl Q I rx hs pl pu h
  obtain ⟨a, xs, rfl, hx, hw, q⟩ := h
  cases rx
  obtain ⟨its, r, ht, hz⟩ := I.tuple hx
  have hlen : its.toArray.size = xs.length := by rw [List.size_toArray]; exact r.length.symm
  refine ⟨"tuple", _, PyProof.Rows.slot_tuple_getitem.lookup, ht.typeIs, ?_⟩
  refine HT.getItem_tuple_cut ht hs pl pu (by rw [hlen]; exact hw) ?_ (by rw [hlen]; exact hz)
  rw [hlen]
  refine ⟨.ref s.heap.objs.size, _, I.laid (t' := s.toks) (o := .tup (cutV xs lo hi)) (fun b ob q => Heap.get?_push_of_some _ q) (Nat.le_refl _) ?_, rfl, q _ (I.hok.fresh (Nat.le_refl _))⟩
  exact ⟨Nat.le_trans (cutV_length xs lo hi) hz, _, (r.drop (HT.sIx xs.length 0 lo)).take (HT.sIx xs.length xs.length hi - HT.sIx xs.length 0 lo), IsTup.new _ _⟩

/-! ### t < u, t + u -/
def rLtT (K : PySem.W.Frag) : R2 := fun x y H Q => ∃ a b ns ms, x = .ref a ∧ y = .ref b ∧ SqT K H a (ns.map V.int) ∧ SqT K H b (ms.map V.int) ∧ Q (.bl (HT.lexLt ns ms)) H
theorem op_ltT (hu : X.A.units < cLine) : OpR X (compareOp .Lt) (rLtT X.K) := by
  intro pins s σ H x y v u Q I rx ry h
  obtain ⟨a, b, ns, ms, rfl, rfl, ha, hb, q⟩ := h
  cases rx
  cases ry
  obtain ⟨its, r1, p1, _⟩ := I.tuple ha
  obtain ⟨its2, r2, p2, _⟩ := I.tuple hb
  have i1 : IntsAre its.toArray.toList ns := intsAre_of r1
  have i2 : IntsAre its2.toArray.toList ms := intsAre_of r2
  exact HT.lt_tupInts p1 p2 i1 i2 hu ⟨.bl (HT.lexLt ns ms), H, I, rfl, q⟩
/-- t + u, t not empty: u empty gives t itself -/
def rCatT (K : PySem.W.Frag) : R2 := fun x y H Q => ∃ a b xs ys, x = .ref a ∧ y = .ref b ∧ SqT K H a xs ∧ SqT K H b ys ∧ xs ≠ [] ∧ xs.length + ys.length ≤ sizeLine ∧
  (ys = [] → Q (.ref a) H) ∧ (ys ≠ [] → ∀ p, H p = none → Q (.ref p) (upd H p (.tup (xs ++ ys))))
theorem Vals.nil_iff {xs : List V} {us : List Value} (r : Vals xs us) : us = [] ↔ xs = [] := by
  cases r with
  | nil => simp
  | cons _ _ => simp
theorem op_catT : OpR X (binaryOp .Add) (rCatT X.K) := by
  intro pins s σ H x y v u Q I rx ry h
  obtain ⟨a, b, xs, ys, rfl, rfl, ha, hb, hx, hz, q1, q2⟩ := h
  cases rx
  cases ry
  obtain ⟨its, r1, p1, _⟩ := I.tuple ha
  obtain ⟨its2, r2, p2, _⟩ := I.tuple hb
  refine HT.cat_tup p1 p2 (fun z => hx (r1.nil_iff.mp z)) (fun z => ⟨.ref a, H, I, rfl, q1 (r2.nil_iff.mp z)⟩) (fun z => ?_) (by rw [← r1.length, ← r2.length]; exact hz)
  refine ⟨.ref s.heap.objs.size, _, I.laid (t' := s.toks) (o := .tup (xs ++ ys)) (fun b ob q => Heap.get?_push_of_some _ q) (Nat.le_refl _) ?_, rfl, q2 (fun w => z (r2.nil_iff.mpr w)) _ (I.hok.fresh (Nat.le_refl _))⟩
  exact ⟨by rw [List.length_append]; exact hz, _, r1.append r2, IsTup.new _ _⟩
/-- tuple(t) -/
theorem call_tupleT : CallR X (.type "tuple") (fun xs H Q => ∃ a ys, xs = [.ref a] ∧ SqT X.K H a ys ∧ Q (.ref a) H) := by
  intro pins s σ H xs us Q I r h
  obtain ⟨a, ys, rfl, ha, q⟩ := h
  obtain ⟨u, rfl, ru⟩ := vals1 r
  cases ru
  obtain ⟨its, _, p1, _⟩ := I.tuple ha
  exact call_tuple_same (items := its.toArray) p1 ⟨.ref a, H, I, rfl, q⟩
end
end L2

namespace L2
open PySem PySem.Spec PyProof.Rows

/-! ### places -/
/-- the place that an index of any sign means -/
def ixN (n : Nat) (i : Int) : Option Nat := if 0 ≤ i then (if i < n then some i.toNat else none) else if -(n : Int) ≤ i then some (i + n).toNat else none
def atI {α : Type} (xs : List α) (i : Int) : Option α := (ixN xs.length i).bind fun j => xs[j]?
theorem ixN_seq {n : Nat} {i : Int} {j : Nat} (h : ixN n i = some j) : seqIndex? i n = some j ∧ j < n ∧ -(n : Int) ≤ i ∧ i < n := by
  unfold ixN at h
  by_cases h0 : 0 ≤ i
  · rw [if_pos h0] at h
    by_cases h1 : i < n
    · rw [if_pos h1] at h
      have e : i.toNat = j := Option.some.inj h
      exact ⟨by rw [seqIndex_of h0 h1, e], by omega, by omega, h1⟩
    · rw [if_neg h1] at h; cases h
  · rw [if_neg h0] at h
    by_cases h1 : -(n : Int) ≤ i
    · rw [if_pos h1] at h
      have e : (i + n).toNat = j := Option.some.inj h
      exact ⟨by rw [seqIndex_neg (by omega) h1, e], by omega, h1, by omega⟩
    · rw [if_neg h1] at h; cases h
theorem atI_get {α : Type} {xs : List α} {i : Int} {v : α} (h : atI xs i = some v) : ∃ j, seqIndex? i xs.length = some j ∧ xs[j]? = some v ∧ j < xs.length ∧ -(xs.length : Int) ≤ i ∧ i < xs.length := by
  unfold atI at h
  cases e : ixN xs.length i with
  | none => rw [e] at h; cases h
  | some j =>
    rw [e] at h
    obtain ⟨h1, h2, h3, h4⟩ := ixN_seq e
    exact ⟨j, h1, h, h2, h3, h4⟩
theorem atI_nat {α : Type} {xs : List α} {j : Nat} {v : α} (h : xs[j]? = some v) : atI xs (j : Int) = some v := by
  have hj : j < xs.length := (List.getElem?_eq_some_iff.mp h).1
  have e : ixN xs.length (j : Int) = some j := by
    unfold ixN
    rw [if_pos (by omega), if_pos (by omega)]; simp
  unfold atI; rw [e]; exact h
theorem atI_last {α : Type} (xs : List α) (v : α) : atI (xs ++ [v]) (-1) = some v := by
  have hl : (xs ++ [v]).length = xs.length + 1 := by simp
  have e : ixN (xs ++ [v]).length (-1) = some xs.length := by
    unfold ixN
    rw [hl, if_neg (by decide), if_pos (by omega)]
    congr 1
    omega
  unfold atI
  rw [e]
  show (xs ++ [v])[xs.length]? = some v
  simp

/-! ### what may be subscripted -/
/-- what stands as an index of a plain subscript -/
def PlainIx (b : Expr) : Prop := ∀ o i, subscripted b false o i = operate [o, i] (getItem o i)
/-- a subscript by values -/
def IxR (X : Cx) (r : R2) : Prop :=
  ∀ (value slice : Expr) (pins : List (Addr × Obj)) (s : Shared) (σ : St) (H : Hp) (x y : V) (v u : Value) (Q : VK), Inv X pins σ H s → RelV x v → RelV y u → r x y H Q →
    subscripted slice false v u = operate [v, u] (getItem v u) → wpAny (model X.prog X.w) X.A (subscriptTail value slice v u) (EP X pins σ Q) X.xe s
/-- a call of a builtin's method by values: the receiver, the arguments -/
def MtR (X : Cx) (id : String) (r : V → List V → Hp → VK → Prop) : Prop :=
  ∀ (pins : List (Addr × Obj)) (s : Shared) (σ : St) (H : Hp) (x : V) (xs : List V) (v : Value) (us : List Value) (Q : VK), Inv X pins σ H s → RelV x v → Vals xs us → r x xs H Q →
    wpAny (model X.prog X.w) X.A (call (.builtin id) (v :: us)) (EP X pins σ Q) X.xe s
section
variable {X : Cx} {a b : Expr} {ta tb : TE} {pos : Pos}
theorem IxR.or {r r' : R2} (h : IxR X r) (h' : IxR X r') : IxR X (fun x y H Q => r x y H Q ∨ r' x y H Q) := by
  intro value slice pins s σ H x y v u Q I rx ry q hs
  rcases q with q | q
  · exact h value slice pins s σ H x y v u Q I rx ry q hs
  · exact h' value slice pins s σ H x y v u Q I rx ry q hs
theorem MtR.or {id : String} {r r' : V → List V → Hp → VK → Prop} (h : MtR X id r) (h' : MtR X id r') : MtR X id (fun x xs H Q => r x xs H Q ∨ r' x xs H Q) := by
  intro pins s σ H x xs v us Q I rx rs q
  rcases q with q | q
  · exact h pins s σ H x xs v us Q I rx rs q
  · exact h' pins s σ H x xs v us Q I rx rs q
/-- a[b] -/
theorem pe_ix {r : R2} (hr : IxR X r) (ha : PE X a ta) (hb : PE X b tb) (hs : PlainIx b) : PE X (.Subscript a b pos) (tOp r ta tb) := by
  refine ⟨?_⟩
  intro pins s σ H Q I h
  exact Subscript_ (binT ha hb I h fun v u s2 x y H2 I2 rx ry q => hr a b pins s2 σ H2 x y v u Q I2 rx ry q (hs _ _))

def rIxL (K : PySem.W.Frag) : R2 := fun x y H Q => ∃ p xs i v, x = .ref p ∧ y = .int i ∧ SqL K H p xs ∧ atI xs i = some v ∧ Q v H
def rIxT (K : PySem.W.Frag) : R2 := fun x y H Q => ∃ p xs i v, x = .ref p ∧ y = .int i ∧ SqT K H p xs ∧ atI xs i = some v ∧ Q v H
def rIxS : R2 := fun x y H Q => ∃ z i c, x = .str z ∧ y = .int i ∧ z.length ≤ sizeLine ∧ atI z.cps.toList i = some c ∧ Q (.str ⟨#[c]⟩) H
theorem ix_list : IxR X (rIxL X.K) := by
  intro value slice pins s σ H x y v u Q I rx ry h hs
  obtain ⟨p, xs, i, z, rfl, rfl, hq, he, q⟩ := h
  cases rx
  obtain ⟨t, rfl⟩ := ry
  obtain ⟨its, r, pl, hz⟩ := I.list hq
  obtain ⟨j, h1, h2, h3, h4, h5⟩ := atI_get he
  obtain ⟨w, ew, rw'⟩ := r.get h2
  have hl := r.length
  have hn := line63
  have fin : EP X pins σ Q w s := ⟨z, H, I, rw', q⟩
  by_cases h0 : 0 ≤ i
  · have hj : i.toNat = j := by
      rw [seqIndex_of h0 h5] at h1
      exact Option.some.inj h1
    exact item_listR pl.isList h0 (by omega) (by rw [hj]; simpa using ew) fin hs
  · have hj : (i + (its.toArray.size : Int)).toNat = j := by
      rw [seqIndex_neg (by omega) h4] at h1
      rw [List.size_toArray, ← hl]
      exact Option.some.inj h1
    exact subscriptTail_builtinR (x := w) pl.isList.typeIs slot_list_getitem.lookup
      (wpAny_getItem_list_neg (Q := fun r s' => r = w ∧ EP X pins σ Q r s') pl.isList (by omega) (by rw [List.size_toArray] <;> omega) (by omega) (by rw [hj]; simpa using ew) ⟨rfl, fin⟩) hs
theorem ix_tup : IxR X (rIxT X.K) := by
  intro value slice pins s σ H x y v u Q I rx ry h hs
  obtain ⟨p, xs, i, z, rfl, rfl, hq, he, q⟩ := h
  cases rx
  obtain ⟨t, rfl⟩ := ry
  obtain ⟨its, r, pl, hz⟩ := I.tuple hq
  obtain ⟨j, h1, h2, h3, h4, h5⟩ := atI_get he
  obtain ⟨w, ew, rw'⟩ := r.get h2
  have hl := r.length
  have hn := line63
  have fin : EP X pins σ Q w s := ⟨z, H, I, rw', q⟩
  exact subscriptTail_builtinR (x := w) pl.typeIs slot_tuple_getitem.lookup
    (getItem_tuple (j := j) (Q := fun r s' => r = w ∧ EP X pins σ Q r s') pl (by omega) (by omega) (by rw [List.size_toArray, ← hl]; exact h1) (by simpa using ew) ⟨rfl, fin⟩) hs
theorem ix_str : IxR X rIxS := by
  intro value slice pins s σ H x y v u Q I rx ry h hs
  obtain ⟨z, i, c, rfl, rfl, hz, he, q⟩ := h
  obtain ⟨t, rfl⟩ := rx
  obtain ⟨t', rfl⟩ := ry
  obtain ⟨j, h1, h2, h3, h4, h5⟩ := atI_get he
  have hl : z.cps.toList.length = z.length := by simp [Str.length]
  rw [hl] at h1 h4 h5
  have hn := line63
  exact tail_any (typeIs_str s z t) slot_str_getitem.lookup (getItem_str (c := c) (by
    have e1 : decide (i < -(2 ^ 63 : Int)) = false := decide_eq_false (by omega)
    have e2 : decide (i ≥ 2 ^ 63) = false := decide_eq_false (by omega)
    rw [e1, e2, Bool.or_false]) (by rw [h1]; simpa using h2) ⟨.str ⟨#[c]⟩, H, I.tok _, ⟨_, rfl⟩, q⟩) hs
/-- list, tuple or str -/
def rIx (K : PySem.W.Frag) : R2 := fun x y H Q => rIxL K x y H Q ∨ rIxT K x y H Q ∨ rIxS x y H Q
theorem ix_seq : IxR X (rIx X.K) := ix_list.or (ix_tup.or ix_str)

/-! ### xs[i] = v, any sign -/
/-- the list's object behind a store -/
theorem mapSeq_set (its : List Value) (n j : Nat) (u : Value) : Obj.mapSeq (·.setIfInBounds j u) { cls := .type "list", data := .seq its.toArray n } = { cls := .type "list", data := .seq (its.set j u).toArray n } := by
  simp [Obj.mapSeq]
theorem Inv.lst {pins : List (Addr × Obj)} {σ : St} {H : Hp} {s : Shared} {p : Addr} {xs : List V} (I : Inv X pins σ H s) (h : H p = some (.lst xs)) :
    ∃ (its : List Value) (n : Nat), Vals xs its ∧ s.heap.get? p = some { cls := .type "list", data := .seq its.toArray n } ∧ xs.length ≤ sizeLine := by
  obtain ⟨z, its, n, r, e⟩ := I.hok p _ h
  exact ⟨its, n, r, e, z⟩
/-- the list at p is written by an update of its object -/
theorem Inv.lstUpd {pins : List (Addr × Obj)} {σ : St} {H : Hp} {s : Shared} {p : Addr} {xs ys : List V} {its its' : List Value} {n n' : Nat} {f : Obj → Obj} (I : Inv X pins σ H s) (h : H p = some (.lst xs))
    (ho : s.heap.get? p = some { cls := .type "list", data := .seq its.toArray n }) (hf : f { cls := .type "list", data := .seq its.toArray n } = { cls := .type "list", data := .seq its'.toArray n' }) (r : Vals ys its') (hz : ys.length ≤ sizeLine) (t : Nat) :
    Inv X pins σ (upd H p (.lst ys)) { s with heap := s.heap.update p f, toks := t } := by
  have e : (s.heap.update p f).get? p = some { cls := .type "list", data := .seq its'.toArray n' } := by
    rw [Heap.get?_update_self f ho (by rw [hf] <;> rfl), hf]
  refine I.write (x := p) (e := p) (by rw [h]; trivial) (.inl rfl) (fun b u hb q => (Heap.get?_update_other _ _ (Ne.symm hb)).trans q) ⟨_, e⟩ ?_
  exact ⟨hz, its', n', r, e⟩
def rSetL : V → V → V → Hp → (Hp → Prop) → Prop := fun o i v H Q => ∃ p xs k j, o = .ref p ∧ i = .int k ∧ H p = some (.lst xs) ∧ ixN xs.length k = some j ∧ Q (upd H p (.lst (xs.set j v)))
theorem set_list : PSet X rSetL := by
  intro pins s σ H o i v ov iv u Q I ro ri rv h
  obtain ⟨p, xs, k, j, rfl, rfl, hp, hj, q⟩ := h
  cases ro
  obtain ⟨t, rfl⟩ := ri
  obtain ⟨its, n, r, ho, hz⟩ := I.lst hp
  obtain ⟨h1, h2, h3, h4⟩ := ixN_seq hj
  have hl := r.length
  have hn := line63
  have I' : Inv X pins σ (upd H p (.lst (xs.set j v))) { s with heap := s.heap.update p (Obj.mapSeq (·.setIfInBounds j u)) } :=
    I.lstUpd hp ho (mapSeq_set its n j u) (r.set rv j) (by rw [List.length_set]; exact hz) s.toks
  by_cases h0 : 0 ≤ k
  · have hk : k.toNat = j := by
      rw [seqIndex_of h0 h4] at h1
      exact Option.some.inj h1
    exact PySem.W.ki_setAt ho h0 (by omega) (by rw [List.size_toArray, ← hl]; exact h4) (by rw [hk]; exact ⟨_, I', q⟩)
  · have hk : (k + (its.toArray.size : Int)).toNat = j := by
      rw [seqIndex_neg (by omega) h3] at h1
      rw [List.size_toArray, ← hl]
      exact Option.some.inj h1
    exact PySem.W.ki_setBack ho (by omega) (by rw [List.size_toArray, ← hl]; exact h3) (by omega) (by rw [hk]; exact ⟨_, I', q⟩)

/-! ### slices -/
theorem slice_bounds (lo hi : Option Int) (n : Nat) : (sliceBounds lo hi none n).1 = ((HT.sIx n 0 lo : Nat) : Int) ∧ (sliceBounds lo hi none n).2.1 = ((HT.sIx n n hi : Nat) : Int) ∧ (sliceBounds lo hi none n).2.2 = 1 := by
  refine ⟨?_, ?_, rfl⟩
  · cases lo with
    | none => simp [sliceBounds, HT.sIx]
    | some i =>
      simp only [sliceBounds, HT.sIx, Option.getD_none, show (1 : Int) > 0 by decide, if_true]
      by_cases h : i < 0
      · simp only [h, if_true] <;> omega
      · simp only [h, if_false] <;> omega
  · cases hi with
    | none => simp [sliceBounds, HT.sIx]
    | some i =>
      simp only [sliceBounds, HT.sIx, Option.getD_none, show (1 : Int) > 0 by decide, if_true]
      by_cases h : i < 0
      · simp only [h, if_true] <;> omega
      · simp only [h, if_false] <;> omega
theorem slicePick_cut (its : List Value) (lo hi : Option Int) : slicePick its.toArray lo hi none = ((its.drop (HT.sIx its.length 0 lo)).take (HT.sIx its.length its.length hi - HT.sIx its.length 0 lo)).toArray := by
  obtain ⟨h1, h2, h3⟩ := slice_bounds lo hi its.toArray.size
  unfold slicePick
  rw [h1, h2, h3]
  simp only [sliceRange_one, pick_run, List.size_toArray] <;> rfl
/-- xs[lo:hi] of a list: a new list -/
def rSlL (K : PySem.W.Frag) : V → Option Int → Option Int → Hp → VK → Prop := fun x lo hi H Q => ∃ a xs, x = .ref a ∧ SqL K H a xs ∧ ∀ p, H p = none → Q (.ref p) (upd H p (.lst (cutV xs lo hi)))
theorem sl_list : SlR X (rSlL X.K) := by
  intro pins s σ H x v vl vu lo hi sl Q I rx hs pl pu h
  obtain ⟨a, xs, rfl, hx, q⟩ := h
  cases rx
  obtain ⟨its, r, ht, hz⟩ := I.list hx
  have hlen := r.length
  refine ⟨"list", _, slot_list_getitem.lookup, ht.isList.typeIs, ?_⟩
  refine wpAny_getItem_list_slice ht.isList hs pl pu .none (by simp) ?_ (by rw [List.size_toArray] <;> omega)
  rw [slicePick_cut, ← hlen]
  refine ⟨.ref s.heap.objs.size, _, I.laid (t' := s.toks) (o := .lst (cutV xs lo hi)) (fun b ob q => Heap.get?_push_of_some _ q) (Nat.le_refl _) ?_, rfl, q _ (I.hok.fresh (Nat.le_refl _))⟩
  exact ⟨Nat.le_trans (cutV_length xs lo hi) hz, _, 0, (r.drop (HT.sIx xs.length 0 lo)).take (HT.sIx xs.length xs.length hi - HT.sIx xs.length 0 lo), Heap.get?_push_size _ rfl⟩

/-! ### in, not in: flat items -/
def flatV : V → Bool
  | .non => true
  | .bl _ => true
  | .int _ => true
  | .str _ => true
  | _ => false
/-- == of flat values -/
def eqV : V → V → Bool
  | .non, .non => true
  | .bl a, .bl b => a == b
  | .bl a, .int b => (if a then 1 else 0) == b
  | .int a, .bl b => a == (if b then 1 else 0)
  | .int a, .int b => a == b
  | .str a, .str b => a == b
  | _, _ => false
theorem eqAt_V {A : Around} {s : Shared} {y x : V} {u v : Value} (ry : RelV y u) (rx : RelV x v) (fy : flatV y = true) (fx : flatV x = true) : SeqAt.EqAt A s u v (eqV y x) := by
  cases y with
  | non =>
    cases ry
    cases x with
    | non => cases rx; exact SeqAt.EqAt.same _
    | bl b => cases rx; exact SeqAt.EqAt.none_bool b
    | int b => obtain ⟨t, rfl⟩ := rx; exact SeqAt.EqAt.none_int b t
    | str b => obtain ⟨t, rfl⟩ := rx; exact SeqAt.EqAt.none_str b t
    | _ => exact absurd (show false = true from fx) Bool.false_ne_true
  | bl a =>
    cases ry
    cases x with
    | non => cases rx; exact SeqAt.EqAt.bool_none a
    | bl b => cases rx; exact SeqAt.EqAt.bool_bool a b
    | int b => obtain ⟨t, rfl⟩ := rx; exact SeqAt.EqAt.bool_int a b t
    | str b => obtain ⟨t, rfl⟩ := rx; exact SeqAt.EqAt.bool_str a b t
    | _ => exact absurd (show false = true from fx) Bool.false_ne_true
  | int a =>
    obtain ⟨t', rfl⟩ := ry
    cases x with
    | non => cases rx; exact SeqAt.EqAt.int_none a t'
    | bl b => cases rx; exact SeqAt.EqAt.int_bool a t' b
    | int b => obtain ⟨t, rfl⟩ := rx; exact SeqAt.EqAt.int_int a t' b t
    | str b => obtain ⟨t, rfl⟩ := rx; exact SeqAt.EqAt.int_str a t' b t
    | _ => exact absurd (show false = true from fx) Bool.false_ne_true
  | str a =>
    obtain ⟨t', rfl⟩ := ry
    cases x with
    | non => cases rx; exact SeqAt.EqAt.str_none a t'
    | bl b => cases rx; exact SeqAt.EqAt.str_bool a t' b
    | int b => obtain ⟨t, rfl⟩ := rx; exact SeqAt.EqAt.str_int a t' b t
    | str b => obtain ⟨t, rfl⟩ := rx; exact SeqAt.EqAt.str_str a t' b t
    | _ => exact absurd (show false = true from fx) Bool.false_ne_true
  | _ => exact absurd (show false = true from fy) Bool.false_ne_true
/-- the items' answers, read off the values (a value's own answer does not lean on its token) -/
def eqU (x : V) (u : Value) : Bool := match u with
  | .none => eqV .non x
  | .bool b => eqV (.bl b) x
  | .int i _ => eqV (.int i) x
  | .str z _ => eqV (.str z) x
  | _ => false
theorem eqU_of {x y : V} {u : Value} (r : RelV y u) (f : flatV y = true) : eqU x u = eqV y x := by
  cases y with
  | non => cases r; rfl
  | bl b => cases r; rfl
  | int i => obtain ⟨t, rfl⟩ := r; rfl
  | str z => obtain ⟨t, rfl⟩ := r; rfl
  | _ => exact absurd (show false = true from f) Bool.false_ne_true
theorem any_eqU {x : V} : ∀ {xs : List V} {us : List Value}, Vals xs us → xs.all flatV = true → us.any (eqU x) = xs.any fun y => eqV y x
  | _, _, .nil, _ => rfl
  | y :: xs, u :: us, .cons r t, f => by
    rw [List.all_cons, Bool.and_eq_true] at f
    rw [List.any_cons, List.any_cons, eqU_of r f.1, any_eqU t f.2]
theorem mem_eqAt {A : Around} {s : Shared} {x : V} {v : Value} (rx : RelV x v) (fx : flatV x = true) : ∀ {xs : List V} {us : List Value}, Vals xs us → xs.all flatV = true → ∀ u ∈ us, SeqAt.EqAt A s u v (eqU x u)
  | _, _, .nil, _ => fun u hu => by cases hu
  | y :: xs, u :: us, .cons r t, f => fun u' hu => by
    rw [List.all_cons, Bool.and_eq_true] at f
    rcases List.mem_cons.mp hu with rfl | hu
    · rw [eqU_of r f.1]; exact eqAt_V r rx f.1 fx
    · exact mem_eqAt rx fx t f.2 u' hu
def inV (x : V) (xs : List V) : Bool := xs.any fun y => eqV y x
/-- x in a list or tuple of flat items -/
def rIn (K : PySem.W.Frag) (neg : Bool) : R2 := fun x y H Q => ∃ p xs, y = .ref p ∧ (SqL K H p xs ∨ SqT K H p xs) ∧ flatV x = true ∧ xs.all flatV = true ∧ Q (.bl (if neg then !inV x xs else inV x xs)) H
theorem op_in_seq : OpR X (compareOp .In) (rIn X.K false) := by
  intro pins s σ H x y v u Q I rx ry h
  obtain ⟨p, xs, rfl, hq, fx, fs, q⟩ := h
  cases ry
  rcases hq with hq | hq
  · obtain ⟨its, r, pl, hz⟩ := I.list hq
    refine SeqAt.in_listAt (eqU x) pl.isList (fun w hw => mem_eqAt rx fx r fs w (by simpa using hw)) ⟨.bl _, H, I, rfl, ?_⟩
    rw [show its.toArray.any (eqU x) = its.any (eqU x) by simp, any_eqU r fs]
    exact q
  · obtain ⟨its, r, pl, hz⟩ := I.tuple hq
    refine SeqAt.in_tupleAt (eqU x) pl (fun w hw => mem_eqAt rx fx r fs w (by simpa using hw)) ⟨.bl _, H, I, rfl, ?_⟩
    rw [show its.toArray.any (eqU x) = its.any (eqU x) by simp, any_eqU r fs]
    exact q
theorem op_notIn_seq : OpR X (compareOp .NotIn) (rIn X.K true) := by
  intro pins s σ H x y v u Q I rx ry h
  obtain ⟨p, xs, rfl, hq, fx, fs, q⟩ := h
  cases ry
  rcases hq with hq | hq
  · obtain ⟨its, r, pl, hz⟩ := I.list hq
    refine SeqAt.notIn_listAt (eqU x) pl.isList (fun w hw => mem_eqAt rx fx r fs w (by simpa using hw)) ⟨.bl _, H, I, rfl, ?_⟩
    rw [show its.toArray.any (eqU x) = its.any (eqU x) by simp, any_eqU r fs]
    exact q
  · obtain ⟨its, r, pl, hz⟩ := I.tuple hq
    refine SeqAt.notIn_tupleAt (eqU x) pl (fun w hw => mem_eqAt rx fx r fs w (by simpa using hw)) ⟨.bl _, H, I, rfl, ?_⟩
    rw [show its.toArray.any (eqU x) = its.any (eqU x) by simp, any_eqU r fs]
    exact q
theorem op_notIn_str : OpR X (compareOp .NotIn) (fun x y H Q => ∃ i j, x = .str i ∧ y = .str j ∧ Q (.bl (!(!(Builtin.Str.occurrences j i 0 j.length 1).isEmpty))) H) := by
  intro pins s σ H x y v u Q I rx ry h
  obtain ⟨i, j, rfl, rfl, q⟩ := h
  obtain ⟨t, rfl⟩ := rx
  obtain ⟨t', rfl⟩ := ry
  exact notIn_str ⟨.bl _, H, I, rfl, q⟩

/-! ### len, list(x), tuple(x) of any list or tuple that is read -/
theorem call_len_seq : CallR X (.builtin "len") (fun xs H Q => ∃ p ys, xs = [.ref p] ∧ (SqL X.K H p ys ∨ SqT X.K H p ys) ∧ Q (.int ys.length) H) := by
  intro pins s σ H xs us Q I r h
  obtain ⟨p, ys, rfl, hq, q⟩ := h
  obtain ⟨u, rfl, rx⟩ := vals1 r
  cases rx
  have hn := line63
  rcases hq with hq | hq
  · obtain ⟨its, r', pl, hz⟩ := I.list hq
    have hlen := r'.length
    exact Calls.call_len_list pl.isList (by simp only [List.size_toArray] <;> omega) ⟨.int ys.length, H, I.tok _, ⟨s.toks + 1, by rw [List.size_toArray, hlen]⟩, q⟩
  · obtain ⟨its, r', pl, hz⟩ := I.tuple hq
    have hlen := r'.length
    exact len_tuple pl (by simp only [List.size_toArray] <;> omega) ⟨.int ys.length, H, I.tok _, ⟨s.toks + 1, by rw [List.size_toArray, hlen]⟩, q⟩
theorem call_len_str : CallR X (.builtin "len") (fun xs H Q => ∃ z, xs = [.str z] ∧ z.length ≤ sizeLine ∧ Q (.int z.length) H) := by
  intro pins s σ H xs us Q I r h
  obtain ⟨z, rfl, hz, q⟩ := h
  obtain ⟨u, rfl, t, rfl⟩ := vals1 r
  have hn := line63
  exact len_str (by omega) ⟨.int z.length, H, I.tok _, ⟨_, rfl⟩, q⟩
theorem CallR.or {f : Value} {r r' : List V → Hp → VK → Prop} (h : CallR X f r) (h' : CallR X f r') : CallR X f (fun xs H Q => r xs H Q ∨ r' xs H Q) := by
  intro pins s σ H xs us Q I rs q
  rcases q with q | q
  · exact h pins s σ H xs us Q I rs q
  · exact h' pins s σ H xs us Q I rs q
theorem call_list_of : CallR X (.type "list") (fun xs H Q => ∃ p ys, xs = [.ref p] ∧ (SqL X.K H p ys ∨ SqT X.K H p ys) ∧ ∀ l, H l = none → Q (.ref l) (upd H l (.lst ys))) := by
  intro pins s σ H xs us Q I r h
  obtain ⟨p, ys, rfl, hq, q⟩ := h
  obtain ⟨u, rfl, rx⟩ := vals1 r
  cases rx
  have fin : ∀ (its : List Value), Vals ys its → ys.length ≤ sizeLine → ∀ (h' : Heap) (c' : Nat), (∀ b o', s.heap.get? b = some o' → h'.get? b = some o') →
      h'.get? s.heap.objs.size = some { cls := .type "list", dict := none, data := .seq its.toArray c', slots := #[] } → EP X pins σ Q (.ref s.heap.objs.size) { s with heap := h' } := fun its r' hz h' c' kp e =>
    ⟨.ref s.heap.objs.size, _, I.laid (t' := s.toks) kp (Nat.le_refl _) (show ObjOk X.prog X.w _ h' _ (.lst ys) from ⟨hz, its, c', r', e⟩), rfl, q _ (I.hok.fresh (Nat.le_refl _))⟩
  rcases hq with hq | hq
  · obtain ⟨its, r', pl, hz⟩ := I.list hq
    have hlen := r'.length
    obtain ⟨o, ho, hc, n, hd⟩ := pl.isList
    exact call_list_seq p (.inl rfl) ho hc hd (fun h' c' kp e => fin its r' hz h' c' kp e) (by simp only [List.size_toArray] <;> omega)
  · obtain ⟨its, r', pl, hz⟩ := I.tuple hq
    have hlen := r'.length
    obtain ⟨o, ho, hc, n, hd⟩ := pl
    exact call_list_seq p (.inr rfl) ho hc hd (fun h' c' kp e => fin its r' hz h' c' kp e) (by simp only [List.size_toArray] <;> omega)
theorem call_tuple_of : CallR X (.type "tuple") (fun xs H Q => ∃ p ys, xs = [.ref p] ∧ ((SqL X.K H p ys ∧ ∀ l, H l = none → Q (.ref l) (upd H l (.tup ys))) ∨ (SqT X.K H p ys ∧ Q (.ref p) H))) := by
  intro pins s σ H xs us Q I r h
  obtain ⟨p, ys, rfl, h⟩ := h
  obtain ⟨u, rfl, rx⟩ := vals1 r
  cases rx
  rcases h with ⟨hq, q⟩ | ⟨hq, q⟩
  · obtain ⟨its, r', pl, hz⟩ := I.list hq
    have hlen := r'.length
    refine call_tuple_list pl.isList (fun h' kp => ?_) (by simp only [List.size_toArray] <;> omega)
    have I1 : Inv X pins σ H { s with heap := h' } := I.kept (t' := s.toks) kp
    have I2 : Inv X pins σ (upd H h'.objs.size (.tup ys)) { s with heap := h'.push { cls := .type "tuple", data := .seq its.toArray } } :=
      I1.laid (t' := s.toks) (fun b o e => Heap.get?_push_of_some _ e) (Nat.le_refl _) (show ObjOk X.prog X.w _ _ _ (.tup ys) from ⟨hz, its, r', IsTup.new _ _⟩)
    exact ⟨.ref h'.objs.size, _, I2, rfl, q _ (I1.hok.fresh (Nat.le_refl _))⟩
  · obtain ⟨its, r', pl, hz⟩ := I.tuple hq
    exact call_tuple_same pl ⟨.ref p, H, I, rfl, q⟩

/-! ### the call of a builtin's method: o.m(..) -/
/-- the value is of that builtin type -/
def tyV (K : PySem.W.Frag) (T : String) (x : V) (H : Hp) : Prop := match x with
  | .str _ => T = "str"
  | .int _ => T = "int"
  | .ref p => (T = "list" ∧ ∃ xs, SqL K H p xs) ∨ (T = "tuple" ∧ ∃ o, K.lookup p = some o ∧ o.cls = .type "tuple" ∧ o.dict = none) ∨
      (T = "dict" ∧ ((∃ kvs, H p = some (.dK kvs)) ∨ ∃ kvs, H p = some (.dT kvs))) ∨ (T = "set" ∧ ∃ S n, H p = some (.set S n))
  | _ => False
theorem tyV_is {pins : List (Addr × Obj)} {σ : St} {H : Hp} {s : Shared} {T : String} {x : V} {v : Value} (I : Inv X pins σ H s) (r : RelV x v) (ty : tyV X.K T x H) :
    s.TypeIs v T ∧ ∀ a, v = .ref a → ∃ ob, s.heap.get? a = some ob ∧ ob.dict = none := by
  cases x with
  | str z =>
    obtain ⟨t, rfl⟩ := r
    cases (show T = "str" from ty)
    exact ⟨typeIs_str s z t, fun _ e => nomatch e⟩
  | int i =>
    obtain ⟨t, rfl⟩ := r
    cases (show T = "int" from ty)
    exact ⟨typeIs_int s i t, fun _ e => nomatch e⟩
  | ref p =>
    cases r
    rcases ty with ⟨rfl, xs, hq⟩ | ⟨rfl, o, hk, hc, hd⟩ | ⟨rfl, hk⟩ | ⟨rfl, S, n, hk⟩
    · obtain ⟨its, _, pl, _⟩ := I.list hq
      refine ⟨pl.isList.typeIs, fun a e => ?_⟩
      cases e
      obtain ⟨o, n, e, c, hd, _⟩ := pl
      exact ⟨o, e, hd⟩
    · refine ⟨⟨o, I.kIn p o hk, hc⟩, fun a e => ?_⟩
      cases e
      exact ⟨o, I.kIn _ o hk, hd⟩
    · have z : ∃ o, s.heap.get? p = some o ∧ o.ExactDict := by
        rcases hk with ⟨kvs, hk⟩ | ⟨kvs, hk⟩
        · obtain ⟨_, _, _, _, o, _, _, e, ex, _⟩ := I.hok p _ hk
          exact ⟨o, e, ex⟩
        · obtain ⟨_, _, _, _, o, _, _, e, ex, _⟩ := I.hok p _ hk
          exact ⟨o, e, ex⟩
      obtain ⟨o, e, ex⟩ := z
      refine ⟨⟨o, e, ex.1⟩, fun a e2 => ?_⟩
      cases e2
      exact ⟨o, e, ex.2.1⟩
    · obtain ⟨o, _, _, _, e, ex, _⟩ := I.hok p _ hk
      refine ⟨⟨o, e, ex.1⟩, fun a e2 => ?_⟩
      cases e2
      exact ⟨o, e, ex.2.1⟩
  | _ => exact False.elim ty
def tBM0 (K : PySem.W.Frag) (T : String) (r : V → List V → Hp → VK → Prop) (to : TE) : TE := fun σ H Q => to σ H fun x H1 => tyV K T x H1 ∧ r x [] H1 Q
def tBM (K : PySem.W.Frag) (T : String) (r : V → List V → Hp → VK → Prop) (to : TE) (t : TA) : TE := fun σ H Q => to σ H fun x H1 => tyV K T x H1 ∧ t σ H1 fun xs H2 => r x xs H2 Q
variable {o e : Expr} {es : List Expr} {to : TE} {t : TA} {name : Str} {apos cpos : Pos} {T id : String} {r : V → List V → Hp → VK → Prop}
theorem pe_bm0 (pa : PlainAttrs T) (slot : Slot T name id) (hty : typeOf (.builtin id) = pure (.type "method_descriptor")) (hm : MtR X id r) (ho : PE X o to)
    (hbase : attributeBase o name X.env (eval o X.env) = eval o X.env := by rfl) (hline : (apos.endLine == cpos.line) = true := by rfl) : PE X (.Call (.Attribute o name apos) [] [] cpos) (tBM0 X.K T r to) := by
  refine ⟨?_⟩
  intro pins s σ H Q I h
  refine wpAny_Call_method0_late hbase hline (thn (ho pins s σ H _ I h) fun v s1 ⟨x, H1, I1, r1, ty, q1⟩ => ?_)
  obtain ⟨h1, h2⟩ := tyV_is I1 r1 ty
  exact ⟨T, id, pa, slot, hty, h1, h2, Calls.callWith_builtin rfl (PySem.evalArgs_none (hm pins s1 σ H1 x [] v [] Q I1 r1 .nil q1))⟩
theorem pe_bm (pa : PlainAttrs T) (slot : Slot T name id) (hty : typeOf (.builtin id) = pure (.type "method_descriptor")) (hm : MtR X id r) (ho : PE X o to) (ha : PA X (e :: es) t)
    (hbase : attributeBase o name X.env (eval o X.env) = eval o X.env := by rfl)
    (hfew : ((backTo cpos (starEach (e :: es) X.env)).all (fun x => !x.1) && (backToKw cpos (keywordEach [] X.env)).all (fun x => x.1.isSome)
      && decide ((e :: es).length + ([] : List Keyword).length + (if ([] : List Keyword).isEmpty then 0 else 1) < 30)) = true := by rfl)
    (hline : (apos.endLine == cpos.line) = true := by rfl) (hs : starEach (e :: es) X.env = (false, eval e X.env) :: starEach es X.env := by rfl) (hplain : (backTo cpos (starEach es X.env)).any (·.1) = false := by rfl) :
    PE X (.Call (.Attribute o name apos) (e :: es) [] cpos) (tBM X.K T r to t) := by
  refine ⟨?_⟩
  intro pins s σ H Q I h
  refine wpAny_Call_method_late hbase hfew hline rfl (thn (ho pins s σ H _ I h) fun v s1 ⟨x, H1, I1, r1, ty, q1⟩ => ?_)
  obtain ⟨h1, h2⟩ := tyV_is I1 r1 ty
  refine ⟨T, id, pa, slot, hty, h1, h2, ?_⟩
  have hA := ha cpos pins s1 σ H1 _ I1 q1
  rw [hs] at hA ⊢
  refine Calls.callWith_builtin (by show (false || (backTo cpos (starEach es X.env)).any (·.1)) = false; rw [hplain] <;> rfl) (Calls.evalArgs_plain ?_)
  exact thn hA fun us s2 ⟨vs, H2, I2, r2, q2⟩ => hm pins s2 σ H2 x vs v us Q I2 r1 r2 q2
/- xs.append(e), list.index on a module's tuple .. are MtR facts of 06m -/
end
end L2

namespace L2
open PySem PySem.Spec PyProof.Rows

def MtM (X : Cx) (id : String) (r : V → List V → Hp → VK → Prop) : Prop :=
  ∀ (pins : List (Addr × Obj)) (s : Shared) (σ : St) (H : Hp) (x : V) (xs : List V) (v : Value) (us : List Value) (Q : VK), Inv X pins σ H s → RelV x v → Vals xs us → r x xs H Q →
    wpAny (model X.prog X.w) X.A (call (.builtin id) (v :: us)) (EP X pins σ Q) X.xe s

/-! ### lists of values -/
theorem Vals.one : ∀ {x : V} {us : List Value}, Vals [x] us → ∃ u, us = [u] ∧ RelV x u
  | _, _, .cons r .nil => ⟨_, rfl, r⟩
theorem Vals.two : ∀ {x y : V} {us : List Value}, Vals [x, y] us → ∃ u v, us = [u, v] ∧ RelV x u ∧ RelV y v
  | _, _, _, .cons r (.cons q .nil) => ⟨_, _, rfl, r, q⟩
theorem Vals.zero : ∀ {us : List Value}, Vals [] us → us = []
  | _, .nil => rfl
theorem Vals.dropLast {xs : List V} {us : List Value} (h : Vals xs us) : Vals xs.dropLast us.dropLast := by
  induction h with
  | nil => exact .nil
  | cons r t ih =>
    cases t with
    | nil => exact .nil
    | cons q t' => exact .cons r ih
theorem Vals.eraseIdx : ∀ {xs : List V} {us : List Value} (i : Nat), Vals xs us → Vals (xs.eraseIdx i) (us.eraseIdx i)
  | _, _, _, .nil => .nil
  | _, _, 0, .cons _ t => t
  | _, _, i + 1, .cons r t => .cons r (Vals.eraseIdx i t)
theorem Vals.reverse {xs : List V} {us : List Value} (h : Vals xs us) : Vals xs.reverse us.reverse := by
  induction h with
  | nil => exact .nil
  | cons r t ih => rw [List.reverse_cons, List.reverse_cons]; exact Vals.append ih (.cons r .nil)
theorem Vals.rep {xs : List V} {us : List Value} (h : Vals xs us) : ∀ k : Nat, Vals (List.replicate k xs).flatten (List.replicate k us).flatten
  | 0 => .nil
  | k + 1 => by
    rw [List.replicate_succ, List.replicate_succ, List.flatten_cons, List.flatten_cons]
    exact Vals.append h (Vals.rep h k)
theorem erase_last {α : Type} (l : List α) : l.eraseIdx (l.length - 1) = l.dropLast := by
  induction l with
  | nil => rfl
  | cons a r ih =>
    cases r with
    | nil => rfl
    | cons b r =>
      have e : (a :: b :: r).length - 1 = ((b :: r).length - 1) + 1 := by
        have h1 : (a :: b :: r).length = r.length + 2 := rfl
        have h2 : (b :: r).length = r.length + 1 := rfl
        omega
      rw [e, List.eraseIdx_cons_succ, ih]
      all_goals rfl
theorem len_erase {α : Type} : ∀ (l : List α) (i : Nat), (l.eraseIdx i).length ≤ l.length
  | [], _ => Nat.le_refl _
  | _ :: _, 0 => Nat.le_succ _
  | _ :: r, i + 1 => Nat.succ_le_succ (len_erase r i)
theorem foldl_rep (its : List Value) : ∀ (k : Nat) (acc : List Value),
    List.foldl (fun x1 x2 => x1 ++ x2) acc.toArray (List.replicate k its.toArray) = (acc ++ (List.replicate k its).flatten).toArray
  | 0, acc => by simp
  | k + 1, acc => by
    have e : acc.toArray ++ its.toArray = (acc ++ its).toArray := by simp
    have e2 : (acc ++ its) ++ (List.replicate k its).flatten = acc ++ (List.replicate (k + 1) its).flatten := by
      rw [List.replicate_succ, List.flatten_cons, List.append_assoc]
    rw [← e2, ← foldl_rep its k (acc ++ its), ← e, List.replicate_succ, List.foldl_cons]

section
variable {X : Cx} {pins : List (Addr × Obj)} {σ : St} {H : Hp} {s : Shared} {l b : Addr} {xs ys zs : List V}

/-! ### the two steps: a tracked list is rewritten, a new list is laid -/
theorem Inv.lset {its its' : List Value} {n : Nat} {f : Array Value → Array Value} {t' : Nat} (I : Inv X pins σ H s) (hH : H l = some (.lst xs))
    (e : s.heap.get? l = some { cls := .type "list", data := .seq its.toArray n }) (hf : f its.toArray = its'.toArray) (hv : Vals ys its') (hz : ys.length ≤ sizeLine) :
    Inv X pins σ (upd H l (.lst ys)) { s with heap := s.heap.update l (Obj.mapSeq f), toks := t' } := by
  have q := PySem.IsL.update e f
  rw [hf] at q
  refine I.write (x := l) (e := l) (by rw [hH]; exact trivial) (.inl rfl) (fun b' u hb hu => (Heap.get?_update_other s.heap (Obj.mapSeq f) (Ne.symm hb)).trans hu) ⟨_, q⟩ ?_
  exact ⟨hz, its', _, hv, q⟩
theorem Inv.lnew {its : List Value} {t' : Nat} (I : Inv X pins σ H s) (hv : Vals ys its) (hz : ys.length ≤ sizeLine) :
    Inv X pins σ (upd H s.heap.objs.size (.lst ys)) { s with heap := s.heap.push { cls := .type "list", data := .seq its.toArray }, toks := t' } :=
  I.laid (fun _ _ q => Heap.get?_push_of_some _ q) (Nat.le_refl _) ⟨hz, its, 0, hv, Heap.get?_push_size _ rfl⟩
theorem Inv.fresh (I : Inv X pins σ H s) : H s.heap.objs.size = none := I.hok.fresh (Nat.le_refl _)
theorem Inv.lstM (I : Inv X pins σ H s) (hH : H l = some (.lst xs)) : xs.length ≤ sizeLine ∧ ∃ (its : List Value) (n : Nat), Vals xs its ∧ xs.length = its.length ∧ s.heap.get? l = some { cls := .type "list", data := .seq its.toArray n } := by
  obtain ⟨z, its, n, r, e⟩ := I.hok l _ hH
  exact ⟨z, its, n, r, r.length, e⟩

theorem notLongL {n : Nat} (h : n ≤ sizeLine) : Builtin.List.listTooLong n = false := by
  unfold Builtin.List.listTooLong
  exact decide_eq_false (by omega)
end

section
variable {X : Cx}

/-! ### methods -/
def rAppend : V → List V → Hp → VK → Prop := fun x vs H Q => ∃ l xs y, x = .ref l ∧ vs = [y] ∧ H l = some (.lst xs) ∧ xs.length < sizeLine ∧ Q .non (upd H l (.lst (xs ++ [y])))
theorem mt_append : MtM X "list.append" rAppend := by
  intro pins s σ H x vs v us Q I rx rv h
  obtain ⟨l, xs, y, rfl, rfl, hH, hz, q⟩ := h
  cases rx
  obtain ⟨u, rfl, ru⟩ := rv.one
  obtain ⟨z, its, n, r, hl, e⟩ := I.lstM hH
  refine call_meets F.slot_list_append ⟨_, e, rfl⟩ F.entry_list_append (F.args_list_append_2 _ _) (PySem.list_append l its.toArray n u (by rw [List.size_toArray]; omega)) ⟨e, ?_⟩
  refine ⟨.non, _, I.lset (its' := its ++ [u]) hH e (by simp) (r.append (.cons ru .nil)) ?_, rfl, q⟩
  rw [List.length_append, List.length_singleton]
  omega

def rExtend : V → List V → Hp → VK → Prop := fun x vs H Q => ∃ l b xs zs, x = .ref l ∧ vs = [.ref b] ∧ H l = some (.lst xs) ∧ H b = some (.lst zs) ∧ xs.length + zs.length ≤ sizeLine ∧ Q .non (upd H l (.lst (xs ++ zs)))
theorem mt_extend : MtM X "list.extend" rExtend := by
  intro pins s σ H x vs v us Q I rx rv h
  obtain ⟨l, b, xs, zs, rfl, rfl, hH, hB, hz, q⟩ := h
  cases rx
  obtain ⟨u, rfl, ru⟩ := rv.one
  cases ru
  obtain ⟨z, its, n, r, hl, e⟩ := I.lstM hH
  obtain ⟨z2, its2, n2, r2, hl2, e2⟩ := I.lstM hB
  have hsz : its.toArray.size + its2.toArray.size ≤ sizeLine := by rw [List.size_toArray, List.size_toArray]; omega
  have hlong : ¬ (!its.toArray.isEmpty && Builtin.List.listTooLong (its.toArray.size + its2.toArray.size)) = true := by
    rw [notLongL hsz, Bool.and_false]
    exact Bool.false_ne_true
  refine call_meets F.slot_list_extend ⟨_, e, rfl⟩ F.entry_list_extend (F.args_list_extend_2 _ _)
    (AutoSeq1.list_extend_list_list_0 l its.toArray n b its2.toArray n2 hlong (by rw [List.size_toArray]; omega) (by omega)) ⟨e, e2, ?_⟩
  refine ⟨.non, _, I.lset (its' := its ++ its2) hH e (by simp) (r.append r2) ?_, rfl, q⟩
  rw [List.length_append]
  omega

def rPop : V → List V → Hp → VK → Prop := fun x vs H Q => ∃ l xs y, x = .ref l ∧ vs = [] ∧ H l = some (.lst xs) ∧ xs[xs.length - 1]? = some y ∧ Q y (upd H l (.lst xs.dropLast))
theorem mt_pop : MtM X "list.pop" rPop := by
  intro pins s σ H x vs v us Q I rx rv h
  obtain ⟨l, xs, y, rfl, rfl, hH, hy, q⟩ := h
  cases rx
  have hus := rv.zero
  subst hus
  obtain ⟨z, its, n, r, hl, e⟩ := I.lstM hH
  obtain ⟨u, hu, ru⟩ := r.get hy
  have hy' : its.toArray[its.toArray.size - 1]? = some u := by
    show its.toArray[its.length - 1]? = some u
    rw [← Array.getElem?_toList, ← hl]
    exact hu
  refine call_meets F.slot_list_pop ⟨_, e, rfl⟩ F.entry_list_pop (F.args_list_pop_1 _) (MeetsSeq.list_pop_last l its.toArray n u hy' (by rw [List.size_toArray]; omega)) ⟨e, ?_⟩
  refine ⟨y, _, I.lset (its' := its.dropLast) hH e ?_ r.dropLast ?_, ru, q⟩
  · show its.toArray.eraseIdxIfInBounds (its.toArray.size - 1) = its.dropLast.toArray
    rw [List.size_toArray, List.eraseIdxIfInBounds_toArray, erase_last]
  · rw [List.length_dropLast]
    omega

def rPopAt : V → List V → Hp → VK → Prop := fun x vs H Q => ∃ l xs i k y, x = .ref l ∧ vs = [.int i] ∧ H l = some (.lst xs) ∧ -(2 ^ 63) ≤ i ∧ i < 2 ^ 63 ∧ seqIndex? i xs.length = some k ∧ xs[k]? = some y ∧ Q y (upd H l (.lst (xs.eraseIdx k)))
theorem mt_popAt : MtM X "list.pop" rPopAt := by
  intro pins s σ H x vs v us Q I rx rv h
  obtain ⟨l, xs, i, k, y, rfl, rfl, hH, h1, h2, hk, hy, q⟩ := h
  cases rx
  obtain ⟨u, rfl, ru⟩ := rv.one
  obtain ⟨t, rfl⟩ := ru
  obtain ⟨z, its, n, r, hl, e⟩ := I.lstM hH
  obtain ⟨w, hw, rw'⟩ := r.get hy
  refine call_meets F.slot_list_pop ⟨_, e, rfl⟩ F.entry_list_pop (F.args_list_pop_2 _ _)
    (MeetsSeq.list_pop_at l its.toArray n i t k w (fitsIndex_both h1 h2) (by rw [List.size_toArray, ← hl]; exact hk) (by rw [← Array.getElem?_toList]; exact hw) (by rw [List.size_toArray]; omega)) ⟨e, ?_⟩
  refine ⟨y, _, I.lset (its' := its.eraseIdx k) hH e ?_ (r.eraseIdx k) ?_, rw', q⟩
  · show its.toArray.eraseIdxIfInBounds k = (its.eraseIdx k).toArray
    rw [List.eraseIdxIfInBounds_toArray]
  · have := len_erase xs k
    omega

def rReverse : V → List V → Hp → VK → Prop := fun x vs H Q => ∃ l xs, x = .ref l ∧ vs = [] ∧ H l = some (.lst xs) ∧ Q .non (upd H l (.lst xs.reverse))
theorem mt_reverse : MtM X "list.reverse" rReverse := by
  intro pins s σ H x vs v us Q I rx rv h
  obtain ⟨l, xs, rfl, rfl, hH, q⟩ := h
  cases rx
  have hus := rv.zero
  subst hus
  obtain ⟨z, its, n, r, hl, e⟩ := I.lstM hH
  refine call_meets F.slot_list_reverse ⟨_, e, rfl⟩ F.entry_list_reverse (F.args_list_reverse_1 _) (AutoSeq1.list_reverse_list_0 l its.toArray n (by rw [List.size_toArray]; omega)) ⟨e, ?_⟩
  refine ⟨.non, _, I.lset (its' := its.reverse) hH e (by simp) r.reverse ?_, rfl, q⟩
  rw [List.length_reverse]
  omega

def rClear : V → List V → Hp → VK → Prop := fun x vs H Q => ∃ l xs, x = .ref l ∧ vs = [] ∧ H l = some (.lst xs) ∧ Q .non (upd H l (.lst []))
theorem mt_clear : MtM X "list.clear" rClear := by
  intro pins s σ H x vs v us Q I rx rv h
  obtain ⟨l, xs, rfl, rfl, hH, q⟩ := h
  cases rx
  have hus := rv.zero
  subst hus
  obtain ⟨z, its, n, r, hl, e⟩ := I.lstM hH
  refine call_meets F.slot_list_clear ⟨_, e, rfl⟩ F.entry_list_clear (F.args_list_clear_1 _) (AutoSeq1.list_clear_list_0 l its.toArray n (by rw [List.size_toArray]; omega)) ⟨e, ?_⟩
  exact ⟨.non, _, I.lset (its' := []) (ys := []) hH e rfl .nil (Nat.zero_le _), rfl, q⟩

/-! ### list + list, list += list, list * int -/
def rCat : R2 := fun x y H Q => ∃ l b xs zs, x = .ref l ∧ y = .ref b ∧ H l = some (.lst xs) ∧ H b = some (.lst zs) ∧ xs.length + zs.length ≤ sizeLine ∧ ∀ p, H p = none → Q (.ref p) (upd H p (.lst (xs ++ zs)))
theorem op_cat : OpR X (binaryOp .Add) rCat := by
  intro pins s σ H x y v u Q I rx ry h
  obtain ⟨l, b, xs, zs, rfl, rfl, hH, hB, hz, q⟩ := h
  cases rx
  cases ry
  obtain ⟨z, its, n, r, hl, e⟩ := I.lstM hH
  obtain ⟨z2, its2, n2, r2, hl2, e2⟩ := I.lstM hB
  refine PySem.P.add_list e e2 ?_ (by rw [List.size_toArray, List.size_toArray]; omega)
  have ea : its.toArray ++ its2.toArray = (its ++ its2).toArray := by simp
  rw [ea]
  exact ⟨.ref _, _, I.lnew (t' := s.toks) (r.append r2) (by rw [List.length_append]; omega), rfl, q _ I.fresh⟩
/-- a list times an int (a negative one is nothing) -/
def rRep : R2 := fun x y H Q => ∃ l k xs, x = .ref l ∧ y = .int k ∧ H l = some (.lst xs) ∧ -(2 ^ 63) ≤ k ∧ k < 2 ^ 63 ∧ xs.length * k.toNat ≤ sizeLine ∧
  ∀ p, H p = none → Q (.ref p) (upd H p (.lst (List.replicate k.toNat xs).flatten))
theorem len_rep {α : Type} (xs : List α) (k : Nat) : (List.replicate k xs).flatten.length = k * xs.length := by
  induction k with
  | zero => simp
  | succ k ih => rw [List.replicate_succ, List.flatten_cons, List.length_append, ih, Nat.succ_mul, Nat.add_comm]
theorem op_rep : OpR X (binaryOp .Mult) rRep := by
  intro pins s σ H x y v u Q I rx ry h
  obtain ⟨l, k, xs, rfl, rfl, hH, h1, h2, hz, q⟩ := h
  cases rx
  obtain ⟨t, rfl⟩ := ry
  obtain ⟨z, its, n, r, hl, e⟩ := I.lstM hH
  have hlen : its.toArray.size * k.toNat ≤ sizeLine := by rw [List.size_toArray, ← hl]; exact hz
  have hcap : ¬ its.toArray.size * k.toNat > (2 ^ 63 - 1) / 8 := by
    have : (sizeLine : Nat) ≤ (2 ^ 63 - 1) / 8 := by decide
    omega
  have hfit : ¬ (!Builtin.List.listFitsIndex k) = true := by
    rw [fitsIndex_both h1 h2]
    exact Bool.false_ne_true
  have hlong : ¬ Builtin.List.listTooLong (its.toArray.size * k.toNat) = true := by
    rw [notLongL hlen]
    exact Bool.false_ne_true
  have hnew : List.foldl (fun x1 x2 => x1 ++ x2) #[] (List.replicate (if its.toArray.isEmpty = true then 0 else k.toNat) its.toArray) = (List.replicate k.toNat its).flatten.toArray := by
    have f0 : ∀ m : Nat, List.foldl (fun x1 x2 => x1 ++ x2) #[] (List.replicate m its.toArray) = (List.replicate m its).flatten.toArray := fun m => by
      have := foldl_rep its m []
      rw [List.nil_append] at this
      exact this
    rw [f0]
    cases its with
    | nil => simp
    | cons a r' => rw [if_neg (by simp)]
  refine wpAny_binaryOp_repeat_ref (T := "list") (U := "int") (by decide) ⟨_, e, rfl⟩ (fun s' => typeIs_int s' k t) noFill_list_mul F.fills_int_mul F.slot_int_rmul repeat_list F.slot_int_index.lookup
    (call_meets F.slot_int_rmul (typeIs_int s k t) F.entry_int_rmul (F.args_int_rmul_2 _ _) (int___rmul___int_list k t l its.toArray n)
      ⟨e, rfl, ⟨_, e, rfl⟩, call_meets F.slot_list_mul ⟨_, e, rfl⟩ F.entry_list_mul (F.args_list_mul_2 _ _) (AutoListH.list___mul___list_int_3 l its.toArray n k t hfit hcap hlong) ⟨e, ?_⟩⟩)
  rw [hnew]
  exact ⟨.ref _, _, I.lnew (t' := s.toks) (r.rep k.toNat) (by rw [len_rep, Nat.mul_comm]; exact hz), rfl, q _ I.fresh⟩

/-! ### del xs[i] -/
theorem del_list {pins : List (Addr × Obj)} {s : Shared} {σ : St} {H : Hp} {l : Addr} {xs : List V} {i : Int} {t : Tok} {k : Nat} {Q : Unit → Shared → Prop} (I : Inv X pins σ H s) (hH : H l = some (.lst xs))
    (h1 : -(2 ^ 63) ≤ i) (h2 : i < 2 ^ 63) (hk : seqIndex? i xs.length = some k) (h : ∀ s', Inv X pins σ (upd H l (.lst (xs.eraseIdx k))) s' → Q () s') :
    wpAny (model X.prog X.w) X.A (delItem (.ref l) (.int i t)) Q X.xe s := by
  obtain ⟨z, its, n, r, hl, e⟩ := I.lstM hH
  refine PySem.P.delItem_list (k := k) e (fitsIndex_both h1 h2) (by rw [List.size_toArray, ← hl]; exact hk) (h _ ?_) (by rw [List.size_toArray]; omega)
  refine I.lset (its' := its.eraseIdx k) (t' := s.toks) hH e ?_ (r.eraseIdx k) ?_
  · show its.toArray.eraseIdxIfInBounds k = (its.eraseIdx k).toArray
    rw [List.eraseIdxIfInBounds_toArray]
  · have := len_erase xs k
    omega
end

/-! ### xs[a:b] = ys -/
section
variable {prog : Program} {w : World} {A : Around} {E : Value → Shared → Prop} {s : Shared}
theorem splice_eq (its its2 : List Value) (a c : Nat) : its.toArray.extract 0 a ++ its2.toArray ++ its.toArray.extract c its.toArray.size = (its.take a ++ its2 ++ its.drop c).toArray := by
  apply Array.toList_inj.mp
  first
    | (simp
       exact List.take_of_length_le (by simp))
    | simp [List.take_of_length_le]
    | simp
theorem bounds_run {a c n : Nat} (hac : a ≤ c) (hc : c ≤ n) : sliceBounds (some (a : Int)) (some (c : Int)) none n = ((a : Int), (c : Int), 1) := by
  simp only [sliceBounds, Option.getD_none]
  have h1 : ¬ ((a : Int) < 0) := by omega
  have h2 : ¬ ((c : Int) < 0) := by omega
  simp only [h1, h2, if_false, show (1 : Int) > 0 by decide, if_true]
  congr 1
  · omega
  · congr 1; omega
set_option maxRecDepth 100000 in
/-- list.__setitem__ with a slice of step one and another list -/
theorem setItem_slice {l b sl : Addr} {items new : Array Value} {n n2 : Nat} {vl vu : Value} {a c : Nat} {Q : Unit → Shared → Prop}
    (e : s.heap.get? l = some { cls := .type "list", data := .seq items n }) (e2 : s.heap.get? b = some { cls := .type "list", data := .seq new n2 }) (hne : l ≠ b)
    (hs : s.heap.IsSliceOf sl vl vu .none) (pl : IsPart vl (some (a : Int))) (pu : IsPart vu (some (c : Int))) (hac : a ≤ c) (hc : c ≤ items.size)
    (hsz : items.size + new.size ≤ sizeLine) (h : Q () { s with heap := s.heap.update l (Obj.mapSeq fun xs => xs.extract 0 a ++ new ++ xs.extract c xs.size) }) :
    wpAny (model prog w) A (setItem (.ref l) (.ref sl) (.ref b)) Q E s := by
  have hl : s.heap.IsList l items := PySem.IsL.isList e
  have hb : s.heap.IsList b new := PySem.IsL.isList e2
  obtain ⟨os, hos, hcs, hds⟩ := id hs
  have hTs : s.TypeIs (.ref sl) "slice" := ⟨os, hos, hcs⟩
  have hstep : ¬ ((rawPart none == rawInt 0) = true) := Bool.false_ne_true
  have hsame : Builtin.List.listSameRef (.ref l) (.ref b) = false := by
    unfold Builtin.List.listSameRef
    exact beq_eq_false_iff_ne.mpr hne
  have hmax : (max (a : Int) (c : Int)).toNat = c := by omega
  have hz' : ((fun xs : Array Value => xs.extract 0 a ++ new ++ xs.extract c xs.size) items).size ≤ sizeLine + 1 := by
    simp only [Array.size_append, Array.size_extract]
    omega
  unfold setItem
  try with_reducible refine wpAny_holding ?_
  first | refine wpAny_bind (wpAny_pure ?_) | skip
  refine wpAny_bind (wpAny_sequenceKey hl.typeIs (by decide) ?_)
  refine wpAny_bind (wpAny_callSpecial?_slot (name := Str.ofString "__setitem__") hl.typeIs slot_list_setitem
    (wpAny_call_entry slot_list_setitem hl.typeIs entry_list_setitem ?_ (args_list_setitem _ _ _)))
  show wpAny _ _ (Builtin.List.listSubscript? (.ref sl) >>= _) _ _ s
  refine wpAny_bind ?_
  unfold Builtin.List.listSubscript?
  refine wpAny_bind (wpAny_specialOf hTs slice_no_index ?_)
  simp only [Option.isNone_none, if_true]
  refine wpAny_pure ?_
  show wpAny _ _ (typeOf (.ref sl) >>= _) _ _ s
  refine wpAny_bind (wpAny_typeOf hTs ?_)
  first
    | rw [if_neg (by decide)]
    | refine PySem.W.KFB.if_not (by decide) ?_
  rw [listSliceParts_eq]
  refine wpAny_bind (wpAny_bind (wpAny_field hos hds (x := .none) rfl (wpAny_bind (wpAny_listPart .none ?_))))
  rw [if_neg hstep]
  refine wpAny_bind (wpAny_field hos hds (x := vl) rfl (wpAny_bind (wpAny_listPart pl ?_)))
  refine wpAny_bind (wpAny_field hos hds (x := vu) rfl (wpAny_bind (wpAny_listPart pu (wpAny_pure ?_))))
  first
    | simp only [hsame, Bool.false_eq_true, if_false]
    | refine PySem.W.KFB.if_not hsame ?_
    | (dsimp only
       rw [if_neg (by rw [hsame]; exact Bool.false_ne_true)])
  refine wpAny_bind (m := Builtin.List.listAllItems (.ref b) "must assign iterable to extended slice") ?_
  unfold Builtin.List.listAllItems
  refine wpAny_bind (wpAny_typeOf hb.typeIs ?_)
  first
    | refine PySem.W.KFB.if_so (by decide) ?_
    | rw [if_pos (by decide)]
    | simp only [beq_self_eq_true, Bool.true_or, if_true]
  unfold Builtin.List.listItems
  refine wpAny_bind (wpAny_seqItems e2 rfl (wpAny_pure ?_))
  refine wpAny_bind (wpAny_bind (wpAny_seqItems e rfl (wpAny_pure ?_)))
  refine wpAny_bind (wpAny_of_eq ((sliceIndices_raw (some (a : Int)) (some (c : Int)) none items.size (by simp)).trans (congrArg (pure : Int × Int × Int → Sem (Int × Int × Int)) (bounds_run hac hc))) ?_)
  show wpAny _ _ (if ((1 : Int) == 1) = true then _ else _) _ _ s
  rw [if_pos (by decide)]
  refine wpAny_bind (wpAny_rule ?_)
  first
    | simp only [notLongL hsz, Bool.false_eq_true, if_false]
    | refine PySem.W.KFB.if_not (notLongL hsz) ?_
  first | refine wpAny_bind (wpAny_pure ?_) | skip
  show wpAny _ _ (updateSeq l (fun xs => xs.extract 0 ((a : Int)).toNat ++ new ++ xs.extract (max (a : Int) (c : Int)).toNat xs.size) >>= _) _ _ s
  rw [hmax, Int.toNat_natCast]
  refine wpAny_bind (wpAny_updateSeq (hz := Nat.le_trans (Nat.le_add_right _ _) hsz) (_hz' := hz') e rfl ?_)
  refine wpAny_bind (wpAny_letGo ?_)
  first
    | exact wpAny_bind (wpAny_pure (wpAny_pure ⟨.none, rfl, wpAny_pure h⟩))
    | exact wpAny_pure ⟨.none, rfl, wpAny_pure h⟩
end

section
variable {X : Cx}
/-- xs[a:c] = ys of another list, at the value level: sl is the slice object that was just made -/
theorem set_slice {pins : List (Addr × Obj)} {s : Shared} {σ : St} {H : Hp} {l b sl : Addr} {xs ys : List V} {a c : Int} {vl vu : Value} {Q : Unit → Shared → Prop} (I : Inv X pins σ H s)
    (hH : H l = some (.lst xs)) (hB : H b = some (.lst ys)) (hne : l ≠ b) (hs : s.heap.IsSliceOf sl vl vu .none) (ra : RelV (.int a) vl) (rc : RelV (.int c) vu) (h0 : 0 ≤ a) (hac : a ≤ c) (hc : c ≤ xs.length)
    (hz : xs.length + ys.length ≤ sizeLine) (h : ∀ s', Inv X pins σ (upd H l (.lst (xs.take a.toNat ++ ys ++ xs.drop c.toNat))) s' → Q () s') :
    wpAny (model X.prog X.w) X.A (setItem (.ref l) (.ref sl) (.ref b)) Q X.xe s := by
  obtain ⟨ta, rfl⟩ := ra
  obtain ⟨tc, rfl⟩ := rc
  obtain ⟨z, its, n, r, hl, e⟩ := I.lstM hH
  obtain ⟨z2, its2, n2, r2, hl2, e2⟩ := I.lstM hB
  obtain ⟨a', rfl⟩ := Int.eq_ofNat_of_zero_le h0
  obtain ⟨c', rfl⟩ := Int.eq_ofNat_of_zero_le (Int.le_trans h0 hac)
  simp only [Int.toNat_natCast] at h
  refine setItem_slice (a := a') (c := c') e e2 hne hs (.int _ _) (.int _ _) (by omega) (by rw [List.size_toArray]; omega) (by rw [List.size_toArray, List.size_toArray]; omega) (h _ ?_)
  refine I.lset (its' := its.take a' ++ its2 ++ its.drop c') (t' := s.toks) hH e ?_ (Vals.append (Vals.append (r.take _) r2) (r.drop _)) ?_
  · exact splice_eq its its2 a' c'
  · rw [List.length_append, List.length_append, List.length_take, List.length_drop]
    omega
end
end L2

namespace Att
open PySem PySem.W PySem.Calls PyProof.Rows

/-! ### the script -/
theorem ints_of_wellAll {P : Params} {h : Heap} : ∀ (ns : List Int) (vs : List Value), WellAll P h vs (ns.map WData.int) → IntsAre vs ns := by
  intro ns
  induction ns with
  | nil =>
    intro vs w
    rw [List.map_nil] at w
    cases w
    exact .nil
  | cons n ns ih =>
    intro vs w
    rw [List.map_cons] at w
    cases w with
    | cons a b =>
      cases a
      exact .cons _ _ (ih _ b)

theorem script_of {l : OpenLaw} {n : Nat} (hn : l.most = some n) {P : Params} {h : Heap} {args : List WData} {vals : List Value}
    (hpre : l.row.toRowW.claim.pre args = true) (hwl : WellAll P h vals args) :
    ∃ a vs ns, vals = [Value.ref a] ∧ args = [WData.list (ns.map WData.int)] ∧ h.get? a = some { cls := .type "list", data := .seq vs.toArray } ∧ IntsAre vs ns ∧ ns.length ≤ n := by
  have hsh : WShape.hasAll [] args [.list .int] = true := (pre_splitW hpre).1
  have hc : l.pre.holds [] { args := args } = true := (pre_splitW hpre).2
  obtain ⟨d, r, rfl, h1, h2⟩ := hasAllW_cons hsh
  obtain rfl := hasAllW_nil h2
  obtain ⟨xs, rfl, h3⟩ := hasW_list h1
  obtain ⟨ns, rfl⟩ := items_int h3
  have hlen : ns.length ≤ n := by
    unfold OpenLaw.pre at hc
    have h4 : (WTm.not (.lt (.lit (.int (n : Int))) (.len (.arg 0)))).holds [] { args := [.list (ns.map .int)] } = true := by
      have h4 := (holds_andW hc).1
      rw [hn] at h4
      exact h4
    have h5 := condW_of h4 (w_not (w_lt w_lit (w_len_list (w_arg rfl))))
    rw [List.length_map] at h5
    refine Nat.le_of_not_lt fun q => ?_
    have q' : (n : Int) < ((ns.length : Nat) : Int) := by omega
    first
      | (rw [decide_eq_true q'] at h5; exact absurd h5 (by decide))
      | (simp at h5; omega)
  cases hwl with
  | cons w1 w2 =>
    cases w2
    cases w1 with
    | list ho hall => exact ⟨_, _, ns, rfl, rfl, ho, ints_of_wellAll ns _ hall, hlen⟩

theorem post_true (l : OpenLaw) (args : List WData) : l.row.toRowW.claim.post args (.bool true) args = true :=
  postW_of (r := l.row.toRowW) (X := (true == true))
    (show WShape.has [] (.bool true) .bool = true by first | rfl | decide | simp [WShape.has, WShape.arms, WShape.armsAll])
    (show (WTm.eq .res (.lit (.bool true))).value [] { args := args, res := some (.bool true), after := args } = some (.bool (true == true)) from w_eq_bool (w_res rfl) w_lit) rfl

/-! ### the attachment: holds_open's last premise (the goal 'hc' behind k_head) from a wpAny of the law's body -/
theorem attach {l : OpenLaw} {n : Nat} {q : Program} {loose : List Str} {XP : (Str → Option Value) → Heap → Prop} {YP : World → Heap → Prop} {d : DefRec} {x : Str}
    (hn : l.most = some n) (hdf : d.params.defaults = [])
    (hbind : ∀ pm cd doc v : Value, bindArgs (docDef d.name d.params d.body d.scope pm cd doc) ⟨[v], []⟩ = pure [(x, v)])
    (hx : d.scope.names.lookup x = some .local ∨ d.scope.names.lookup x = some .cell)
    (hk : d.scope.kind = .function) (hco : d.scope.isCoroutine = false) (hgen : d.scope.isGenerator = false)
    (body : ∀ (w : World) (s₀ s₁ s : Shared) (mg mb : Str → Option Value) (fa : Addr) (o : Obj) (pm cd doc : Value) (a : Addr) (vs : List Value) (ns : List Int),
      Ground q loose [] XP w s₀ mg mb s₁.heap → YP w s₁.heap →
      s₁.heap.get? fa = some o → o.data = .func (docDef d.name d.params d.body d.scope pm cd doc) → s₁.heap.CodeRec cd d.name → mg d.name = some (.ref fa) →
      s₁.heap.get? a = some { cls := .type "list", data := .seq vs.toArray } → IntsAre vs ns → ns.length ≤ n →
      s.gens = #[] → s.os = s₁.os →
      Fr s₁.heap s₁.heap.objs.size s.heap (bindL (envOfC d.name d.scope s₁.heap.objs.size fa cd).kindOf [(x, .ref a)] fun _ => none) →
      Cl s₁.heap.objs.size (cellsFrom (s₁.heap.objs.size + 1) d.scope.names []) s.heap (bindC (envOfC d.name d.scope s₁.heap.objs.size fa cd).kindOf [(x, .ref a)] fun _ => none) →
      wpAny (model l.prog w) (callerA.deeper (envOfC d.name d.scope s₁.heap.objs.size fa cd)) (execs d.body (envOfC d.name d.scope s₁.heap.objs.size fa cd))
        (fun f s' => f = .ret (.bool true) ∧ OldK s₁.heap s'.heap ∧ s'.os = s₁.os ∧ AllBare s'.gens) (fun _ _ => False) s) :
    WalkO q loose XP YP l.row.toRowW d [] (fun f vs => PySem.call f vs) := by
  intro w s₀ s₁ mg mb G Y fa o pm cd doc dV kV ho hd hcd hD hmg hg args vals as hpre hlay hrd hwl hlo
  obtain rfl : dV = .none := Dflts.none hD hdf
  obtain rfl : kV = .none := Dflts.noKw hD
  obtain ⟨a, vs, ns, rfl, rfl, hobj, hints, hlen⟩ := script_of hn hpre hwl
  refine enter_call ?_
  refine call_cells_ret (o := o) (by rw [depth_caller]; decide) ho (fd_plain hd) G.T.nolimit hcd (hbind pm cd doc (.ref a)) (fun y hy => ?_) (fun h₁ tk F X => ?_) hco hgen hk
  · obtain rfl : y = (x, Value.ref a) := List.mem_singleton.mp hy
    rcases hx with e | e
    · exact .inl e
    · exact .inr ⟨e, cellsFrom_some _ _ _ (.inl e)⟩
  · refine wpAny_mono (body w s₀ s₁ { s₁ with heap := h₁, toks := tk } mg mb fa o pm cd doc a vs ns G Y ho (fd_plain hd) hcd hmg hobj hints hlen hg rfl F X) (fun f s' hq => ?_) (fun _ _ hq => hq)
    obtain ⟨rfl, h2, h3, h4⟩ := hq
    exact ⟨.inl ⟨.bool true, .bool true, [], rfl, fun _ => rfl, .bool true, post_true l _, fun _ => ⟨List.Pairwise.nil, fun _ hm => (nomatch hm)⟩⟩, h2, h3, h4⟩

/-- the same from a codeAny of the CALL (for a layer whose function contracts speak of calls) -/
theorem attach_call {l : OpenLaw} {n : Nat} {q : Program} {loose : List Str} {XP : (Str → Option Value) → Heap → Prop} {YP : World → Heap → Prop} {d : DefRec}
    (hn : l.most = some n) (hdf : d.params.defaults = [])
    (call : ∀ (w : World) (s₀ s₁ : Shared) (mg mb : Str → Option Value) (fa : Addr) (o : Obj) (pm cd doc : Value) (a : Addr) (vs : List Value) (ns : List Int),
      Ground q loose [] XP w s₀ mg mb s₁.heap → YP w s₁.heap →
      s₁.heap.get? fa = some o → o.data = .func (docDef d.name d.params d.body d.scope pm cd doc) → s₁.heap.CodeRec cd d.name → mg d.name = some (.ref fa) →
      s₁.heap.get? a = some { cls := .type "list", data := .seq vs.toArray } → IntsAre vs ns → ns.length ≤ n → s₁.gens = #[] →
      codeAny (model l.prog w) callerA (.call (.ref fa) ⟨[.ref a], []⟩) (fun r s' => r = .ok (.ret (.bool true)) ∧ OldK s₁.heap s'.heap ∧ s'.os = s₁.os ∧ AllBare s'.gens) s₁) :
    WalkO q loose XP YP l.row.toRowW d [] (fun f vs => PySem.call f vs) := by
  intro w s₀ s₁ mg mb G Y fa o pm cd doc dV kV ho hd hcd hD hmg hg args vals as hpre hlay hrd hwl hlo
  obtain rfl : dV = .none := Dflts.none hD hdf
  obtain rfl : kV = .none := Dflts.noKw hD
  obtain ⟨a, vs, ns, rfl, rfl, hobj, hints, hlen⟩ := script_of hn hpre hwl
  refine enter_call (codeAny_mono (call w s₀ s₁ mg mb fa o pm cd doc a vs ns G Y ho (fd_plain hd) hcd hmg hobj hints hlen hg) fun r s' hq => ?_)
  obtain ⟨rfl, h2, h3, h4⟩ := hq
  exact ⟨.inl ⟨.bool true, .bool true, [], rfl, fun _ => rfl, .bool true, post_true l _, fun _ => ⟨List.Pairwise.nil, fun _ hm => (nomatch hm)⟩⟩, h2, h3, h4⟩

/-- the same where the top left finished generators (o_head chose holds_openN): nothing may have changed at all and no generator may be left -/
theorem attachN {l : OpenLaw} {n : Nat} {q : Program} {loose : List Str} {XP : (Str → Option Value) → Heap → Prop} {YP : World → Heap → Prop} {d : DefRec} {x : Str}
    (hn : l.most = some n) (hdf : d.params.defaults = [])
    (hbind : ∀ pm cd doc v : Value, bindArgs (docDef d.name d.params d.body d.scope pm cd doc) ⟨[v], []⟩ = pure [(x, v)])
    (hx : d.scope.names.lookup x = some .local ∨ d.scope.names.lookup x = some .cell)
    (hk : d.scope.kind = .function) (hco : d.scope.isCoroutine = false) (hgen : d.scope.isGenerator = false)
    (body : ∀ (w : World) (s₀ s₁ s : Shared) (mg mb : Str → Option Value) (fa : Addr) (o : Obj) (pm cd doc : Value) (a : Addr) (vs : List Value) (ns : List Int),
      Ground q loose [] XP w s₀ mg mb s₁.heap → YP w s₁.heap →
      s₁.heap.get? fa = some o → o.data = .func (docDef d.name d.params d.body d.scope pm cd doc) → s₁.heap.CodeRec cd d.name → mg d.name = some (.ref fa) →
      s₁.heap.get? a = some { cls := .type "list", data := .seq vs.toArray } → IntsAre vs ns → ns.length ≤ n →
      s.gens = #[] → s.os = s₁.os →
      Fr s₁.heap s₁.heap.objs.size s.heap (bindL (envOfC d.name d.scope s₁.heap.objs.size fa cd).kindOf [(x, .ref a)] fun _ => none) →
      Cl s₁.heap.objs.size (cellsFrom (s₁.heap.objs.size + 1) d.scope.names []) s.heap (bindC (envOfC d.name d.scope s₁.heap.objs.size fa cd).kindOf [(x, .ref a)] fun _ => none) →
      wpAny (model l.prog w) (callerA.deeper (envOfC d.name d.scope s₁.heap.objs.size fa cd)) (execs d.body (envOfC d.name d.scope s₁.heap.objs.size fa cd))
        (fun f s' => f = .ret (.bool true) ∧ (∀ b o, s₁.heap.get? b = some o → s'.heap.get? b = some o) ∧ s'.os = s₁.os ∧ s'.gens = #[]) (fun _ _ => False) s) :
    WalkN q loose XP YP l.row.toRowW d [] (fun f vs => PySem.call f vs) := by
  intro w s₀ s₁ mg mb G Y fa o pm cd doc dV kV ho hd hcd hD hmg hg args vals as hpre hlay hrd hwl hlo
  obtain rfl : dV = .none := Dflts.none hD hdf
  obtain rfl : kV = .none := Dflts.noKw hD
  obtain ⟨a, vs, ns, rfl, rfl, hobj, hints, hlen⟩ := script_of hn hpre hwl
  refine enter_callW ?_
  refine call_cells_ret (o := o) (by rw [depth_caller]; decide) ho (fd_plain hd) G.T.nolimit hcd (hbind pm cd doc (.ref a)) (fun y hy => ?_) (fun h₁ tk F X => ?_) hco hgen hk
  · obtain rfl : y = (x, Value.ref a) := List.mem_singleton.mp hy
    rcases hx with e | e
    · exact .inl e
    · exact .inr ⟨e, cellsFrom_some _ _ _ (.inl e)⟩
  · refine wpAny_mono (body w s₀ s₁ { s₁ with heap := h₁, toks := tk } mg mb fa o pm cd doc a vs ns G Y ho (fd_plain hd) hcd hmg hobj hints hlen hg rfl F X) (fun f s' hq => ?_) (fun _ _ hq => hq)
    obtain ⟨rfl, h2, h3, h4⟩ := hq
    exact ⟨.inl ⟨.bool true, .bool true, [], rfl, fun _ => rfl, .bool true, post_true l _, fun _ => ⟨List.Pairwise.nil, fun _ hm => (nomatch hm)⟩⟩, h2, h3, h4⟩

/-! ### rules over ANY heap (no ledger) from facts about the written part K: the library's own take a ledger (News) for what they write -/
section
variable {prog : Program} {w : World} {A : Around} {E : Value → Shared → Prop} {s : Shared} {K : Frag}

/-- a def of the module, or a method (qual 'C.m'), entered: the frame is the next address; cells behind it -/
theorem call_fn {R : Result → Shared → Prop} {name qual : Str} {params : Arguments} {body : List Stmt} {scope : Scope} {dV kV doc pm cdv ct oc : Value} {an od : Option Addr} {osl : Array (Option Value)} {f : Addr} {args : Args} {binds : List (Str × Value)}
    (X : K.In s.heap) (hlim : s.heap.NoLimit) (ho : K.lookup f = some ⟨oc, od, .func (fnOf name qual params body scope dV kV doc pm an cdv ct), osl⟩) (hcd : codeIn K cdv qual = true) (hroom : A.depth < recursionLimit)
    (hbind : BindsTo s (fnOf name qual params body scope dV kV doc pm an cdv ct) args binds)
    (hkind : (binds.all fun y => scope.names.lookup y.1 == some .local || scope.names.lookup y.1 == some .cell) = true)
    (h : ∀ s₁, InCallC s s.heap.objs.size (bindL (envOfC qual scope s.heap.objs.size f cdv).kindOf binds fun _ => none) (cellsFrom (s.heap.objs.size + 1) scope.names [])
        (bindC (envOfC qual scope s.heap.objs.size f cdv).kindOf binds fun _ => none) s₁ →
      wpAny (model prog w) (A.deeper (envOfC qual scope s.heap.objs.size f cdv)) (execs body (envOfC qual scope s.heap.objs.size f cdv))
        (fun fl s' => R (.ok (.ret (match fl with | .ret v => v | _ => .none))) s')
        (fun e s' => wpAny (model prog w) (A.deeper (envOfC qual scope s.heap.objs.size f cdv)) (leaving (envOfC qual scope s.heap.objs.size f cdv) e) (fun _ s'' => R (.error e) s'') (fun e' s'' => R (.error e') s'') s') s₁)
    (hco : scope.isCoroutine = false) (hgen : scope.isGenerator = false) (hk : scope.kind = .function) : codeAny (model prog w) A (.call (.ref f) args) R s := by
  refine codeAny_call_function hroom (X _ _ ho) rfl hco hgen rfl (codeRec_of X hcd) (hbind _ _ _ _ ?_)
  refine wpAny_newFunctionEnv_cells hk (kindsX hkind _) fun env he s₁ x => ?_
  subst he
  exact ⟨hlim.keeps x.toInCall.keep, codeAny_func (h s₁ x)⟩

/-- C(..): dict at size, instance at size + 1, then __init__ -/
theorem make_obj {R : Result → Shared → Prop} {C fI : Addr} {rest : List Value} {kw : List (Str × Value)}
    (X : K.In s.heap) (hm : makesIn K C = true) (hi : findIn K (.ref C) "__init__" = some (some (.ref fI))) (hf : isFn K (.ref fI) = true)
    (h : codeAny (model prog w) (A.under (.builtin "type.__call__" ⟨.ref C :: rest, kw⟩)) (.call (.ref fI) ⟨.ref (s.heap.objs.size + 1) :: rest, kw⟩) (InitBack (s.heap.objs.size + 1) R)
      { s with heap := (s.heap.push emptyDict).push (instObj C s.heap.objs.size) }) : codeAny (model prog w) A (.call (.ref C) ⟨rest, kw⟩) R s := by
  obtain ⟨hh, g, d, t, os⟩ := s
  exact make_core (makes_of X hm) (looks_findIn X hi) (fun self => bind_fn X self (beq_iff_eq.mp hf)) (.inl rfl) h

/-- x.name where the instance's dict holds the name and the class does not -/
theorem get_field {x C : Addr} {ox : Obj} {es : List DictEntry} {n : Nat} {name : Str} {expr : Bool} {v : Value} {Q : Value → Shared → Prop}
    (X : K.In s.heap) (I : PySem.W.InstAt s.heap x ox C (some (dictOf es n))) (hg : plainGet K C name = true) (hh : hasDictIn K C = true) (ha : findIn K (.ref C) name = some none)
    (hl : getL name es = some (some v)) (hv : handedIn v = true) (h : Q v { s with toks := s.toks + 1 }) : wpAny (model prog w) A (getAttr (.ref x) name expr) Q E s :=
  get_value X I (plainGet_of hg).1 (findObj_own hh ha rfl hl) hv h

/-- x.m(..): the method found in the class -/
theorem get_method {x C f : Addr} {ox : Obj} {es : List DictEntry} {n : Nat} {name : Str} {pl : Sem Bool} {Q : Value × List Value → Shared → Prop}
    (X : K.In s.heap) (I : PySem.W.InstAt s.heap x ox C (some (dictOf es n))) (hg : plainGet K C name = true) (hf : findIn K (.ref C) name = some (some (.ref f))) (ht : isFn K (.ref f) = true)
    (hl : getL name es = some none) (h : Q (.ref f, [.ref x]) s) : wpAny (model prog w) A (getMethod (.ref x) name pl) Q E s :=
  method_fn X I (plainGet_of hg).1 (plainGet_of hg).2 hf (beq_iff_eq.mp ht) (by show (lookIn name (dictOf es n)).map _ = _; rw [lookIn_dict, hl]; rfl) h

/-! the whole heap as the ledger: makes every rule that writes through a ledger a rule over any heap -/
def noObjs (h : Heap) : Heap := { h with objs := #[] }
theorem noObjs_get (h : Heap) (b : Addr) : (noObjs h).get? b = none := by
  cases e : (noObjs h).get? b with
  | none => rfl
  | some o => exact absurd (Heap.lt_size e) (Nat.not_lt_zero _)
def ledger (h : Heap) (L d : Addr) : List (Addr × Obj) := (List.range h.objs.size).filterMap fun a => if a = L ∨ a = d then none else (h.get? a).map fun o => (a, o)
theorem mem_ledger {h : Heap} {L d a : Addr} {o : Obj} : (a, o) ∈ ledger h L d ↔ a ≠ L ∧ a ≠ d ∧ h.get? a = some o := by
  unfold ledger
  rw [List.mem_filterMap]
  constructor
  · rintro ⟨b, _, e⟩
    split at e
    · cases e
    · rename_i hb
      obtain ⟨o', ho, e'⟩ := Option.map_eq_some_iff.mp e
      cases e'
      exact ⟨fun q => hb (.inl q), fun q => hb (.inr q), ho⟩
  · rintro ⟨n1, n2, ho⟩
    refine ⟨a, List.mem_range.mpr (Heap.lt_size ho), ?_⟩
    rw [if_neg (show ¬ (a = L ∨ a = d) from fun q => q.elim n1 n2), ho] <;> rfl
theorem news_ledger {h : Heap} {L d : Addr} {od : Obj} (hne : d ≠ L) (ho : h.get? d = some od) : News (noObjs h) L h ([] ++ (d, od) :: ledger h L d) := by
  rintro ⟨a, o⟩ hp
  rcases List.mem_cons.mp hp with e | hp
  · cases e
    exact ⟨ho, hne, noObjs_get _ _⟩
  · obtain ⟨n1, n2, e⟩ := mem_ledger.mp hp
    exact ⟨e, n1, noObjs_get _ _⟩
theorem fr_all {h : Heap} {L : Addr} {m : Str → Option Value} (n : h.Ns L m) : Fr (noObjs h) L h m :=
  ⟨n, fun b o e => (by rw [noObjs_get] at e; cases e), Nat.zero_le _⟩
/-- Upd of the head entry (for append_K, setItem_K ..) -/
theorem upd_ledger {h : Heap} {L d : Addr} {o o' : Obj} : Upd d o o' ((d, o) :: ledger h L d) ((d, o') :: ledger h L d) :=
  .head fun ⟨_, _⟩ hp => (mem_ledger.mp hp).2.1

/-- x.name = v over any heap: L is any namespace of the heap (the frame's, say): its map stays, its object is not told; all else but the dict stays -/
theorem set_field {x C dx L : Addr} {ox : Obj} {m : Str → Option Value} {es es' : List DictEntry} {n n' : Nat} {name : Str} {v : Value} {Q : Unit → Shared → Prop}
    (X : K.In s.heap) (I : PySem.W.InstAt s.heap x ox C (some (dictOf es n))) (hd : ox.dict = some dx) (hL : s.heap.Ns L m) (hne : dx ≠ L)
    (hs : findIn K (.ref C) "__setattr__" = some (some (.builtin "object.__setattr__"))) (hp : plainOver K C = true) (ht : takerIn K C name = some none) (hh : hasDictIn K C = true) (hl : (getL name es).isSome = true)
    (e : (putL name (PyData.keyHash w.params name) (.str name (s.toks + 1)) v es, putN name es n) = (es', n')) (hz : es'.length ≤ 1000)
    (h : ∀ h' : Heap, h'.Ns L m → h'.get? dx = some (dictOf es' n') → (∀ b o, b ≠ dx → b ≠ L → s.heap.get? b = some o → h'.get? b = some o) → Q () { s with heap := h', toks := s.toks + 2 }) :
    wpAny (model prog w) A (setAttr (.ref x) name v) Q E s := by
  obtain ⟨e1, e2⟩ := Prod.mk.inj e
  have hdx : s.heap.get? dx = some (dictOf es n) := by
    have := I.dict
    rw [hd] at this
    exact this
  refine set_plain X I hs (osa_dict (s := { s with toks := s.toks + 1 }) (h₀ := noObjs s.heap) (L := L) (m := m) (od := dictOf es n) (od' := dictOf es' n') (es := es') (n := n') (pre := []) (post := ledger s.heap L dx)
    (fr_all hL) (news_ledger hne hdx) X I hd hp ht hh hl (fun _ q => nomatch q) (fun ⟨_, _⟩ q => (mem_ledger.mp q).2.1) (by rw [putName_dict, e1, e2]) rfl hz fun h' F' N' => ?_)
  exact h h' F'.ns (N'.get (List.Mem.head _)) fun b o n1 n2 ho => N'.get (List.Mem.tail _ (mem_ledger.mpr ⟨n2, n1, ho⟩))
end
end Att

namespace L2
open PySem PySem.Spec PyProof.Rows

theorem vals_ints : ∀ {vs : List Value} {ns : List Int}, IntsAre vs ns → Vals (ns.map V.int) vs
  | _, _, .nil => .nil
  | _, _, .cons n t h => .cons ⟨t, rfl⟩ (vals_ints h)

/-- nothing is tracked but the script, known to the object (or it is an object of the module) -/
def Only (H : Hp) : Prop := ∀ b, H b = none ∨ ∃ o xs, H b = some (.frz o (.lst xs))

/-- THE HEAD: the law's promise, at the heap behind the top. F, the promise of the law's def, may use that base is part of the heap (so K.In base, base.Ns mainGlobals mg stand in Mod) -/
theorem law_call {P : Program} {w : World} {K : PySem.W.Frag} {mg mb : Str → Option Value} {CX : CXT} {k : Nat} {fa a : Addr} {fd : FuncData} {x : Str} {sp : Sp} {s₁ : Shared} {vs : List Value} {ns : List Int}
    (KX : K.In s₁.heap) (hns : s₁.heap.Ns mainGlobals mg) (hb : s₁.heap.Ns builtinsNs mb) (hbb : ∀ x : Str, x ≠ "__name__" → mb x = bootBuiltins x) (hlim : s₁.heap.NoLimit) (hg : s₁.gens = #[])
    (ha : s₁.heap.get? a = some { cls := .type "list", data := .seq vs.toArray }) (hi : IntsAre vs ns) (hl : ns.length ≤ sizeLine) (hr : Room k callerA)
    (F : ∀ base : Heap, K.In base → base.Ns mainGlobals mg → FnOk P w K mg base CX k fa fd [x] sp) (hbind : ∀ (s : Shared) (u : Value), BindsTo s fd ⟨[u], []⟩ [(x, u)])
    (hsp : ∀ H : Hp, Only H → SqL K H a (ns.map V.int) → sp [.ref a] H (fun v _ => v = .bl true) fun _ _ _ => False)
    (hCX : ∀ H e s', CX [] H s₁ (fun _ _ _ => False) e s' → False) :
    codeAny (model P w) callerA (.call (.ref fa) ⟨[.ref a], []⟩) (fun r s' => r = .ok (.ret (.bool true)) ∧ OldK s₁.heap s'.heap ∧ s'.os = s₁.os ∧ AllBare s'.gens) s₁ := by
  have rv := vals_ints hi
  have lenV := hi.length
  -- from an abstract heap in which nothing but the script may be tracked
  have core : ∀ H : Hp, Only H → SqL K H a (ns.map V.int) → HOk P w H s₁.heap → (∀ b, H b ≠ none → b = a) → (H a ≠ none → K.lookup a = none) →
      codeAny (model P w) callerA (.call (.ref fa) ⟨[.ref a], []⟩) (fun r s' => r = .ok (.ret (.bool true)) ∧ OldK s₁.heap s'.heap ∧ s'.os = s₁.os ∧ AllBare s'.gens) s₁ := by
    intro H hO hS hok hA hK
    have base_of : ∀ {b : Addr} {o : Obj}, s₁.heap.get? b = some o → H b = none → (hidT s₁.heap H).get? b = some o := fun e n => hidT_get e n
    have noA : ∀ {b : Addr} {o : Obj} {es : Array DictEntry} {ep : Nat}, s₁.heap.get? b = some o → o.data = .dict es ep → H b = none := fun {b o es ep} e d => by
      cases q : H b with
      | none => rfl
      | some u =>
        have e' : b = a := hA b (by rw [q]; simp)
        subst e'
        rw [ha] at e; cases e
        have d' : Data.seq vs.toArray _ = Data.dict es ep := d
        cases d'
    have nsK : ∀ {b : Addr} {m : Str → Option Value}, s₁.heap.Ns b m → (hidT s₁.heap H).Ns b m := fun {b m} ⟨o, es, ep, e, d, r⟩ => ⟨o, es, ep, base_of e (noA e d), d, r⟩
    have hKb : K.In (hidT s₁.heap H) := fun b o e => base_of (KX b o e) (by
      cases q : H b with
      | none => rfl
      | some u =>
        have e' : b = a := hA b (by rw [q]; simp)
        subst e'
        rw [hK (by rw [q]; simp)] at e; cases e)
    have hM : Mod K mg (hidT s₁.heap H) := ⟨hKb, nsK hns, ⟨mb, nsK hb, hbb⟩, let ⟨mc, h1, h2⟩ := hlim; ⟨mc, nsK h1, h2⟩⟩
    have e0 : Env0 P w K mg (hidT s₁.heap H) callerA [] s₁ H := ⟨rfl, hM, fun b o e => of_hidT e, Nat.le_of_eq (hidT_size _ _), trivial, fun b hb => absurd (show b ∈ ([] : List Addr) from hb) (by simp), hok, .of_eq hg⟩
    refine codeAny_mono ((F _ hKb (nsK hns)).run callerA [] s₁ H ⟨[.ref a], []⟩ [.ref a] [.ref a] _ _ hr e0 (hbind s₁ (.ref a)) (.cons rfl .nil) (hsp H hO hS)) fun r s' h => ?_
    cases r with
    | error e => exact (hCX H e s' h).elim
    | ok fl =>
      cases fl with
      | next => exact False.elim h
      | brk => exact False.elim h
      | cont => exact False.elim h
      | ret u =>
        obtain ⟨v, H', os, bare, un, hok', r', q⟩ := h
        have q' : v = .bl true := q
        subst q'
        obtain rfl : u = Value.bool true := r'
        refine ⟨rfl, OldK.of_keep fun b o e => ?_, os, bare⟩
        cases q : H b with
        | none => exact un.keep b o e q (by intro z; exact absurd (show b ∈ ([] : List Addr) from z) (by simp)) (by simp)
        | some u =>
          rcases hO b with z | ⟨ob, xs, z⟩
          · rw [q] at z; cases z
          · have z2 := un.frzs b ob _ z
            obtain ⟨e1, _⟩ := hok b _ z
            obtain ⟨e2, _⟩ := hok' b _ z2
            rw [e] at e1; cases e1
            exact e2
  cases hk : K.lookup a with
  | some o =>
    -- the script is one of the module's own objects
    have e := KX a o hk
    rw [ha] at e
    cases e
    refine core (fun _ => none) (fun _ => .inl rfl) (.inr ⟨_, vs.toArray, _, hk, rfl, rfl, rfl, by rw [List.size_toArray, lenV]; exact hl, by simpa using rv⟩) (fun b u z => by have z' : (none : Option HO) = some u := z; cases z') (fun b z => absurd rfl z) fun z => absurd rfl z
  | none =>
    refine core (fun b => if b = a then some (.frz { cls := .type "list", data := .seq vs.toArray } (.lst (ns.map V.int))) else none) (fun b => ?_) (.inl (.inr ⟨{ cls := .type "list", data := .seq vs.toArray }, if_pos rfl⟩)) (fun b u z => ?_) (fun b z => ?_) fun _ => hk
    · by_cases hb : b = a
      · exact .inr ⟨_, _, if_pos hb⟩
      · exact .inl (if_neg hb)
    · by_cases hb : b = a
      · have z' := (if_pos hb).symm.trans z
        cases z'
        subst hb
        exact ⟨ha, by rw [List.length_map]; exact hl, vs, _, rv, ha⟩
      · have z' := (if_neg hb).symm.trans z
        cases z'
    · by_cases hb : b = a
      · exact hb
      · exact absurd (if_neg hb) z
end L2

namespace L2
open PySem PySem.Spec PyProof.Rows

abbrev KOf {K : PySem.W.Frag} {h : Heap} (_ : K.In h) : PySem.W.Frag := K

/-- the goal that k_head leaves (case hc), from the law's promise. F gives the function object fd (K's own) once, then the promise over every base -/
theorem walk_of {l : PySem.W.OpenLaw} {n k : Nat} {q : Program} {loose : List Str} {XP : (Str → Option Value) → Heap → Prop} {YP : World → Heap → Prop} {d : DefRec} {K : Params → PySem.W.Frag} {CX : World → CXT} {sp : World → Sp} {x : Str}
    (hn : l.most = some n) (hn2 : n ≤ sizeLine) (hdf : d.params.defaults = []) (hr : Room k callerA)
    (hY : ∀ (w : World) (h : Heap), YP w h → (K w.params).In h)
    (F : ∀ (w : World) (mg : Str → Option Value) (fa : Addr) (h : Heap), (K w.params).In h → h.Ns mainGlobals mg → mg d.name = some (.ref fa) →
      ∃ fd : FuncData, (∀ (s : Shared) (u : Value), BindsTo s fd ⟨[u], []⟩ [(x, u)]) ∧
        ∀ base : Heap, (K w.params).In base → base.Ns mainGlobals mg → FnOk l.prog w (K w.params) mg base (CX w) k fa fd [x] (sp w))
    (hsp : ∀ (w : World) (H : Hp) (a : Addr) (ns : List Int), ns.length ≤ n → Only H → SqL (K w.params) H a (ns.map V.int) → sp w [.ref a] H (fun v _ => v = .bl true) fun _ _ _ => False)
    (hCX : ∀ (w : World) (H : Hp) (s : Shared) (e : Value) (s' : Shared), CX w [] H s (fun _ _ _ => False) e s' → False) :
    PySem.W.WalkO q loose XP YP l.row.toRowW d [] (fun f vs => PySem.call f vs) := by
  refine Att.attach_call hn hdf fun w s₀ s₁ mg mb fa o pm cd doc a vs ns G Y ho hd hcd hmg hobj hints hlen hg => ?_
  have KX := hY w _ Y
  obtain ⟨fd, hb, hF⟩ := F w mg fa _ KX G.T.g hmg
  exact law_call KX G.T.g G.T.b G.T.builtins G.T.nolimit hg hobj hints (Nat.le_trans hlen hn2) hr hF hb (fun H hO hS => hsp w H a ns hlen hO hS) fun H e s' => hCX w H s₁ e s'
/-- the same where the promise hangs on the written part alone: (sp := My.sp_law), no hole under a binder -/
theorem walk_ofK {l : PySem.W.OpenLaw} {n k : Nat} {q : Program} {loose : List Str} {XP : (Str → Option Value) → Heap → Prop} {YP : World → Heap → Prop} {d : DefRec} {K : Params → PySem.W.Frag} {CX : CXT} {sp : PySem.W.Frag → Sp} {x : Str}
    (hn : l.most = some n) (hn2 : n ≤ sizeLine) (hdf : d.params.defaults = []) (hr : Room k callerA)
    (hY : ∀ (w : World) (h : Heap), YP w h → (K w.params).In h)
    (F : ∀ (w : World) (mg : Str → Option Value) (fa : Addr) (h : Heap), (K w.params).In h → h.Ns mainGlobals mg → mg d.name = some (.ref fa) →
      ∃ fd : FuncData, (∀ (s : Shared) (u : Value), BindsTo s fd ⟨[u], []⟩ [(x, u)]) ∧
        ∀ base : Heap, (K w.params).In base → base.Ns mainGlobals mg → FnOk l.prog w (K w.params) mg base CX k fa fd [x] (sp (K w.params)))
    (hsp : ∀ (K : PySem.W.Frag) (H : Hp) (a : Addr) (ns : List Int), ns.length ≤ n → Only H → SqL K H a (ns.map V.int) → sp K [.ref a] H (fun v _ => v = .bl true) fun _ _ _ => False)
    (hCX : ∀ (H : Hp) (s : Shared) (e : Value) (s' : Shared), CX [] H s (fun _ _ _ => False) e s' → False) :
    PySem.W.WalkO q loose XP YP l.row.toRowW d [] (fun f vs => PySem.call f vs) :=
  walk_of (K := K) (CX := fun _ => CX) (sp := fun w => sp (K w.params)) hn hn2 hdf hr hY F (fun w H a ns h1 h2 h3 => hsp (K w.params) H a ns h1 h2 h3) fun _ H s e s' => hCX H s e s'
end L2

/-! SHORT WORDS over the layer: a def of the text, its body, what a loop and a test want. -/
namespace L2
open PySem PySem.Spec PyProof.Rows

/-! ### the text by places -/
/-- the j-th statement of a class's body -/
def inClass (s : Stmt) (j : Nat) : Stmt := match s with
  | .ClassDef _ _ _ body _ _ _ _ _ _ _ => body.getD j (.Pass ⟨0, 0, 0, 0⟩)
  | _ => .Pass ⟨0, 0, 0, 0⟩
def defArgs (s : Stmt) : Arguments := match s with
  | .FunctionDef _ a _ _ _ _ _ _ _ _ => a
  | _ => { posonlyargs := [], args := [], vararg := none, kwonlyargs := [], kw_defaults := [], kwarg := none, defaults := [] }
def defBody (s : Stmt) : List Stmt := match s with
  | .FunctionDef _ _ b _ _ _ _ _ _ _ => b
  | _ => []
def defScope (s : Stmt) : Scope := match s with
  | .FunctionDef _ _ _ _ _ _ sc _ _ _ => sc
  | _ => { kind := .function, names := [], isGenerator := false, isCoroutine := false }

/-! ### no exception leaves a def -/
abbrev CX0 : CXT := fun _ _ _ _ _ _ => False
abbrev E0 : XK := fun _ _ _ => False
theorem pass0 {X : Cx} : Passes CX0 X E0 := fun _ _ _ _ _ _ _ h => h.elim

/-! ### a def (or method) of the text as it stands behind the top -/
structure Fun (K : PySem.W.Frag) (x qual : Str) (st : Stmt) (f : Addr) (fd : FuncData) : Prop where
  ex : ∃ (oc : Value) (od : Option Addr) (kV doc pm : Value) (an : Option Addr) (cdv ct : Value) (osl : Array (Option Value)),
    fd = PySem.W.fnOf x qual (defArgs st) (defBody st) (defScope st) .none kV doc pm an cdv ct ∧ K.lookup f = some ⟨oc, od, .func fd, osl⟩ ∧ PySem.W.codeIn K cdv qual = true
  kp : PySem.W.keepIn K (.ref f) = true
section
variable {P : Program} {w : World} {K : PySem.W.Frag} {mg : Str → Option Value} {base : Heap}
/-- THE RULE for a def: its body as a term of rules, and the reading of that term -/
theorem Fun.ok {x qual : Str} {st : Stmt} {f : Addr} {fd : FuncData} {N ps : List Str} {k : Nat} {sp : Sp} (F : Fun K x qual st f fd) (S : FnScope N ps (defScope st)) (len : ∀ vs H Q E, sp vs H Q E → vs.length = ps.length)
    (hbody : ∀ (cdv : Value) (A : Around) (outer : List Env) (s : Shared) (H : Hp) (vs : List V) (Q : VK) (E : XK), Room k (A.deeper (envOfC qual (defScope st) s.heap.objs.size f cdv)) → sp vs H Q E →
      ∃ t, PSs (cxOf CX0 P w K mg base N qual (defScope st) f cdv A outer s H E).nox (defBody st) t ∧ t { nx := fun _ H' => Q .non H', rt := Q } (start N vs) H) : FnOk P w K mg base CX0 (k + 1) f fd ps sp := by
  obtain ⟨oc, od, kV, doc, pm, an, cdv, ct, osl, rfl, lk, hcd⟩ := F.ex
  refine fn_of lk hcd S len fun A outer s H vs Q E hr hsp => ?_
  obtain ⟨t, h, q⟩ := hbody cdv A outer s H vs Q E hr hsp
  exact ⟨t, h.nox, q⟩
/-- how its arguments bind (no defaults): h is «fun _ _ _ _ _ _ us hl => match us, hl with | [_, _], _ => rfl», one _ a parameter -/
theorem Fun.binds {x qual : Str} {st : Stmt} {f : Addr} {fd : FuncData} {ps : List Str} (F : Fun K x qual st f fd)
    (h : ∀ (kV doc pm : Value) (an : Option Addr) (cdv ct : Value) (us : List Value), us.length = ps.length → bindArgs (PySem.W.fnOf x qual (defArgs st) (defBody st) (defScope st) .none kV doc pm an cdv ct) ⟨us, []⟩ = pure (ps.zip us)) : Binds K fd ps [] := by
  obtain ⟨oc, od, kV, doc, pm, an, cdv, ct, osl, rfl, lk, hcd⟩ := F.ex
  exact .all (h kV doc pm an cdv ct)
theorem fun_mk {x qual : Str} {st : Stmt} {f : Addr} {oc : Value} {od an : Option Addr} {osl : Array (Option Value)} {kV doc pm cdv ct : Value} (l : K.lookup f = some ⟨oc, od, .func (PySem.W.fnOf x qual (defArgs st) (defBody st) (defScope st) .none kV doc pm an cdv ct), osl⟩)
    (c : PySem.W.codeIn K cdv qual = true) (k : PySem.W.keepIn K (.ref f) = true) : Fun K x qual st f (PySem.W.fnOf x qual (defArgs st) (defBody st) (defScope st) .none kV doc pm an cdv ct) := ⟨⟨oc, od, kV, doc, pm, an, cdv, ct, osl, rfl, l, c⟩, k⟩
end
theorem hu_of {A : Around} {k : Nat} (hr : Room k A) : A.units + 1 < cLine := Nat.lt_of_le_of_lt (Nat.add_le_add_left (by decide : 1 ≤ 64) _) hr.units
theorem small1000 {n : Nat} (h : n ≤ 1000) : n < sizeLine := Nat.lt_of_le_of_lt h (by decide)

/-! ### expressions in short: the name that stands in the i-th slot -/
section
variable {X : Cx}
theorem pv (i : Nat) {x : Str} {pos : Pos} (hN : X.N[i]? = some x := by rfl) (hv : Vis X.env.scope x := by first | exact Or.inl rfl | exact Or.inr (Or.inl rfl) | exact Or.inr (Or.inr rfl)) (hd : (x == ("__debug__" : Str)) = false := by decide)
    (hcd : (x == ("__classdict__" : Str)) = false := by decide) : PE X (.Name x pos) (tVar i) := pe_var hN hv hd hcd
end

/-! ### tests -/
theorem iteF {A B : Prop} (h : B) : if false = true then A else B := by
  rw [if_neg Bool.false_ne_true]
  exact h
theorem iteT {A B : Prop} (h : A) : if true = true then A else B := by
  rw [if_pos rfl]
  exact h
theorem ite2 {c A B : Prop} [Decidable c] (h1 : c → A) (h2 : ¬ c → B) : if c then A else B := by
  by_cases h : c
  · rw [if_pos h]
    exact h1 h
  · rw [if_neg h]
    exact h2 h
theorem iteNS {c A B : Prop} [Decidable c] (hc : c) (h : B) : if (!decide c) = true then A else B := by
  rw [decide_eq_true hc]
  exact iteF h

/-! ### heaps -/
/-- all that was tracked is as it was -/
def Same (H H' : Hp) : Prop := ∀ b o, H b = some o → H' b = some o
theorem Same.refl (H : Hp) : Same H H := fun _ _ h => h
theorem Same.trans {H H1 H2 : Hp} (a : Same H H1) (b : Same H1 H2) : Same H H2 := fun c o h => b c o (a c o h)
theorem Same.free {H H' : Hp} (e : Same H H') {l : Addr} (h : H' l = Option.none) : H l = Option.none := by
  cases q : H l with
  | none => rfl
  | some o =>
    rw [e l o q] at h
    cases h
theorem Same.seq {K : PySem.W.Frag} {H H' : Hp} {a : Addr} {xs : List V} (e : Same H H') (h : SqL K H a xs) : SqL K H' a xs := by
  rcases h with (h | ⟨o, h⟩) | h
  · exact .inl (.inl (e _ _ h))
  · exact .inl (.inr ⟨o, e _ _ h⟩)
  · exact .inr h

end L2

set_option Elab.async false
set_option linter.all false
set_option maxRecDepth 100000
namespace L2
open PySem PySem.Spec PyProof.Rows

/-! ## a list comprehension of one clause, with at most one test, over the layer's contexts -/
theorem lookup_relabel_free {env : Env} : ∀ {names : List (Str × NameKind)} {x : Str}, names.lookup x = some .free →
    (names.map fun (n, k) => if (k == NameKind.free && env.scope.kind == .function && env.kindOf n == some .cell) then (n, NameKind.cell) else (n, k)).lookup x = some .free ∨
    (names.map fun (n, k) => if (k == NameKind.free && env.scope.kind == .function && env.kindOf n == some .cell) then (n, NameKind.cell) else (n, k)).lookup x = some .cell
  | [], _, h => by simp at h
  | (n, k) :: r, x, h => by
    have ih := @lookup_relabel_free env r x
    show List.lookup x ((if (k == NameKind.free && env.scope.kind == .function && env.kindOf n == some .cell) = true then (n, NameKind.cell) else (n, k)) :: _) = _ ∨ List.lookup x ((if (k == NameKind.free && env.scope.kind == .function && env.kindOf n == some .cell) = true then (n, NameKind.cell) else (n, k)) :: _) = _
    cases hx : x == n with
    | true =>
      simp only [List.lookup_cons, hx] at h
      cases h
      by_cases hc : (NameKind.free == NameKind.free && env.scope.kind == .function && env.kindOf n == some .cell) = true
      · rw [if_pos hc]; exact .inr (by simp only [List.lookup_cons, hx])
      · rw [if_neg hc]; exact .inl (by simp only [List.lookup_cons, hx])
    | false =>
      simp only [List.lookup_cons, hx] at h
      by_cases hc : (k == NameKind.free && env.scope.kind == .function && env.kindOf n == some .cell) = true
      · rw [if_pos hc]; simp only [List.lookup_cons, hx]; exact ih h
      · rw [if_neg hc]; simp only [List.lookup_cons, hx]; exact ih h
/-- what of the relabelled names is a cell or free was free -/
theorem relabel_back {env : Env} : ∀ {names : List (Str × NameKind)} {x : Str} {kd : NameKind}, (∀ y ∈ names, y.2 ≠ .cell) → kd = .cell ∨ kd = .free →
    (names.map fun (n, k) => if (k == NameKind.free && env.scope.kind == .function && env.kindOf n == some .cell) then (n, NameKind.cell) else (n, k)).lookup x = some kd → names.lookup x = some .free
  | [], _, _, _, _, h => by simp at h
  | (n, k) :: r, x, kd, hn, hk, h => by
    have ih := @relabel_back env r x kd (fun y hy => hn y (List.mem_cons_of_mem _ hy)) hk
    have h' : List.lookup x ((if (k == NameKind.free && env.scope.kind == .function && env.kindOf n == some .cell) = true then (n, NameKind.cell) else (n, k)) :: (r.map fun (n, k) => if (k == NameKind.free && env.scope.kind == .function && env.kindOf n == some .cell) then (n, NameKind.cell) else (n, k))) = some kd := h
    have hkc : k ≠ .cell := hn (n, k) List.mem_cons_self
    by_cases hc : (k == NameKind.free && env.scope.kind == .function && env.kindOf n == some .cell) = true
    · rw [if_pos hc] at h'
      have hkf : k = .free := by
        simp only [Bool.and_eq_true, beq_iff_eq] at hc
        exact hc.1.1
      subst hkf
      cases hx : x == n with
      | true => simp only [List.lookup_cons, hx]
      | false => simp only [List.lookup_cons, hx] at h' ⊢; exact ih h'
    · rw [if_neg hc] at h'
      cases hx : x == n with
      | true =>
        simp only [List.lookup_cons, hx] at h' ⊢
        have e : k = kd := Option.some.inj h'
        subst e
        rcases hk with hk | hk
        · exact absurd hk hkc
        · rw [hk]
      | false => simp only [List.lookup_cons, hx] at h' ⊢; exact ih h'

/-- the closure: the free names' cells -/
def closOf (cells : List (Str × Addr)) : List (Str × NameKind) → List (Str × Addr) → List (Str × Addr)
  | [], acc => acc
  | (n, k) :: r, acc => closOf cells r (if k = .free then match cells.lookup n with | some c => (n, c) :: acc | none => acc else acc)
theorem closureFor_eq {scope : Scope} {env : Env} (h : ∀ y ∈ scope.names, y.2 = .free → ∃ c, env.cells.lookup y.1 = some c) : closureFor scope env = pure (closOf env.cells scope.names []) := by
  have go : ∀ (l : List (Str × NameKind)) (acc : List (Str × Addr)), (∀ y ∈ l, y.2 = .free → ∃ c, env.cells.lookup y.1 = some c) →
      (forIn l acc fun x (r : List (Str × Addr)) => (match x with | (name, kind) => if (kind == NameKind.free) = true then do let c ← cellOf env name; pure (ForInStep.yield ((name, c) :: r)) else pure (ForInStep.yield r) : Sem (ForInStep (List (Str × Addr))))) = pure (closOf env.cells l acc) := by
    intro l
    induction l with
    | nil => intro acc _; rfl
    | cons x l ih =>
      intro acc hl
      obtain ⟨n, k⟩ := x
      rw [List.forIn_cons]
      by_cases hk : k = .free
      · subst hk
        obtain ⟨c, hc⟩ := hl (n, .free) List.mem_cons_self rfl
        have e1 : cellOf env n = pure c := by unfold cellOf; rw [hc]
        simp only [beq_self_eq_true, if_true, e1, pure_bind]
        rw [ih _ fun y hy => hl y (List.mem_cons_of_mem _ hy)]
        show _ = pure (closOf env.cells l (if NameKind.free = .free then match env.cells.lookup n with | some c => (n, c) :: acc | none => acc else acc))
        rw [if_pos rfl, hc]
      · have hb : (k == NameKind.free) = false := by simpa using hk
        simp only [hb, Bool.false_eq_true, if_false, pure_bind]
        rw [ih _ fun y hy => hl y (List.mem_cons_of_mem _ hy)]
        show _ = pure (closOf env.cells l (if k = .free then _ else acc))
        rw [if_neg hk]
  unfold closureFor
  have := go scope.names [] h
  simp only [bind_pure_comp] at this ⊢
  first
    | exact this
    | simpa using this
theorem closOf_lookup {cells : List (Str × Addr)} {x : Str} {c : Addr} : ∀ (l : List (Str × NameKind)) (acc : List (Str × Addr)), (∀ d, acc.lookup x = some d → cells.lookup x = some d) → (closOf cells l acc).lookup x = some c → cells.lookup x = some c
  | [], acc, h, e => h c e
  | (n, k) :: r, acc, h, e => by
    refine closOf_lookup r _ (fun d hd => ?_) e
    split at hd
    · split at hd
      · rename_i c' hc'
        cases hx : x == n with
        | true =>
          simp only [List.lookup_cons, hx] at hd
          have : x = n := by simpa using hx
          subst this
          rw [hc']; exact hd
        | false => simp only [List.lookup_cons, hx] at hd; exact h d hd
      · exact h d hd
    · exact h d hd
theorem closOf_has {cells : List (Str × Addr)} {x : Str} {c : Addr} (hc : cells.lookup x = some c) : ∀ (l : List (Str × NameKind)) (acc : List (Str × Addr)), (acc.lookup x = some c ∨ (x, NameKind.free) ∈ l) → (∀ d, acc.lookup x = some d → d = c) → (closOf cells l acc).lookup x = some c
  | [], acc, h, _ => by
    rcases h with h | h
    · exact h
    · cases h
  | (n, k) :: r, acc, h, u => by
    by_cases hk : k = .free
    · subst hk
      show (closOf cells r (if NameKind.free = .free then match cells.lookup n with | some c => (n, c) :: acc | none => acc else acc)).lookup x = some c
      rw [if_pos rfl]
      by_cases hx : x = n
      · subst hx
        rw [hc]
        refine closOf_has hc r _ (.inl (by simp)) fun d hd => ?_
        simp at hd
        exact hd.symm
      · have hb : (x == n) = false := by simpa using hx
        have keep : ∀ (a2 : List (Str × Addr)), (match cells.lookup n with | some c => (n, c) :: acc | none => acc) = a2 → a2.lookup x = acc.lookup x := by
          intro a2 e
          subst e
          cases cells.lookup n with
          | none => rfl
          | some c' => simp only [List.lookup_cons, hb]
        refine closOf_has hc r _ ?_ fun d hd => u d (by rw [keep _ rfl] at hd; exact hd)
        rcases h with h | h
        · exact .inl (by rw [keep _ rfl]; exact h)
        · rcases List.mem_cons.mp h with h | h
          · exact absurd (congrArg Prod.fst h) hx
          · exact .inr h
    · show (closOf cells r (if k = .free then _ else acc)).lookup x = some c
      rw [if_neg hk]
      refine closOf_has hc r _ ?_ u
      rcases h with h | h
      · exact .inl h
      · rcases List.mem_cons.mp h with h | h
        · exact absurd (congrArg Prod.snd h).symm hk
        · exact .inr h

/-- the context of a comprehension's block -/
abbrev cmpCx (X : Cx) (N : List Str) (scope : Scope) (cl : List (Str × Addr)) (C : Addr) (s2 : Shared) (H2 : Hp) (fp : List Addr) : Cx :=
  { X with N := N, s₀ := s2, H₀ := H2, env := compEnvC scope cl C X.env, outer := X.stack, ex := fp, fn := fun _ => false, pn := [], xe := fun _ _ => False }
/-- the block's names: its own, and those that it reads from around (their slots there) -/
def innerSt (sl : List (Option Nat)) (σ : St) : St := sl.map fun o => match o with | some i => (σ[i]?).join | none => none
/-- the scope of a comprehension that the rule takes: N its names, sl their slots outside -/
structure CompScope (X : Cx) (N : List Str) (sl : List (Option Nat)) (scope : Scope) : Prop where
  kind : scope.kind = .function
  nocell : ∀ y ∈ scope.names, y.2 ≠ .cell
  locs : ∀ y ∈ scope.names, y.2 = .local → scope.names.lookup y.1 = some .local
  frees : ∀ y ∈ scope.names, y.2 = .free → X.env.kindOf y.1 = some .cell ∨ X.env.kindOf y.1 = some .free
  len : sl.length = N.length
  out : ∀ (j i : Nat) (x : Str), N[j]? = some x → sl[j]? = some (some i) → X.N[i]? = some x ∧ scope.names.lookup x = some .free

/-- the test of a comprehension: none, or one -/
def PIf (X : Cx) (ifs : List Expr) (t : TT) : Prop :=
  ∀ (pins : List (Addr × Obj)) (s : Shared) (σ : St) (H : Hp) (Q : Bool → Hp → Prop), Inv X pins σ H s → t σ H Q →
    wpAny (model X.prog X.w) X.A (forIn ifs true fun c r => if r = true then do let ok ← isTrue c X.env (eval c X.env); pure (ForInStep.yield ok) else pure (ForInStep.yield r)) (TP X pins σ Q) X.xe s
def tAll : TT := fun _ H Q => Q true H
theorem pif_none {X : Cx} : PIf X [] tAll := fun pins s σ H Q I h => by
  rw [List.forIn_nil]
  exact wpAny_pure ⟨H, I, h⟩
theorem pif_one {X : Cx} {c : Expr} {t : TT} (h : PT X c t) : PIf X [c] t := fun pins s σ H Q I q => by
  rw [List.forIn_cons]
  refine wpAny_bind ?_
  rw [if_pos rfl]
  refine wpAny_bind (thn (h pins s σ H Q I q) fun b s1 r => wpAny_pure ?_)
  show wpAny _ _ (forIn [] b _) _ _ _
  rw [List.forIn_nil]
  exact wpAny_pure r
/-- W: the invariant by turn, measure and heap; the list grows at D -/
def compW (J : It) (D : Addr) (st : St) (g : TG) (tif : TT) (te : TE) (Q : VK) (H1 : Hp) : Prop := ∃ W : Nat → Nat → Hp → Prop,
  (∃ m, W 0 m (upd H1 D (.lst []))) ∧ ∀ i m H2, W i m H2 →
    (J.stop i H2 ∧ Q (.ref D) H2) ∨ (J.go i H2 ∧ ∀ x H', J.yld i H2 x H' → g x st H' fun σ3 H3 => tif σ3 H3 fun b H4 =>
      if b = true then te σ3 H4 fun y H5 => ∃ ys, H5 D = some (.lst ys) ∧ ys.length < sizeLine ∧ ∃ m', m' < m ∧ W (i + 1) m' (upd H5 D (.lst (ys ++ [y]))) else ∃ m', m' < m ∧ W (i + 1) m' H4)
def tComp (wi : TI) (sl : List (Option Nat)) (g : TG) (tif : TT) (te : TE) : TE := fun σ H Q => wi σ H fun J H1 => ∀ D, H1 D = none → compW J D (innerSt sl σ) g tif te Q H1
end L2

set_option Elab.async false
set_option linter.all false
set_option maxRecDepth 100000
namespace L2
open PySem PySem.Spec PyProof.Rows
section
variable {X : Cx} {N : List Str} {sl : List (Option Nat)} {scope : Scope}

theorem innerSt_get {σ : St} {j : Nat} {v : V} (h : (innerSt sl σ)[j]? = some (some v)) : ∃ i, sl[j]? = some (some i) ∧ σ[i]? = some (some v) := by
  unfold innerSt at h
  rw [List.getElem?_map] at h
  cases e : sl[j]? with
  | none => rw [e] at h; cases h
  | some o =>
    rw [e] at h
    cases o with
    | none => cases h
    | some i =>
      refine ⟨i, rfl, ?_⟩
      have h' : (σ[i]?).join = some v := Option.some.inj h
      cases e2 : σ[i]? with
      | none => rw [e2] at h'; cases h'
      | some q => rw [e2] at h'; exact congrArg some h'

theorem CompScope.clos (S : CompScope X N sl scope) (ok : X.Ok) : closureFor scope X.env = pure (closOf X.env.cells scope.names []) :=
  closureFor_eq fun y hy hf => ok.has y.1 (S.frees y hy hf)
theorem CompScope.cell (S : CompScope X N sl scope) (ok : X.Ok) {x : Str} (hf : scope.names.lookup x = some .free) {c : Addr} (hc : X.env.cells.lookup x = some c) : (closOf X.env.cells scope.names []).lookup x = some c :=
  closOf_has hc _ _ (.inr (PySem.mem_of_lookup hf)) fun d hd => by simp at hd
theorem CompScope.back {x : Str} {c : Addr} (h : (closOf X.env.cells scope.names []).lookup x = some c) : X.env.cells.lookup x = some c :=
  closOf_lookup _ _ (fun d hd => by simp at hd) h

/-- the block's context is well -/
theorem CompScope.ok (S : CompScope X N sl scope) {pins : List (Addr × Obj)} {σ : St} {H2 : Hp} {s2 : Shared} {fp : List Addr} {C : Addr} (I : Inv X pins σ H2 s2) (hf : ∀ b ∈ fp, FpOk X pins H2 b) (hlt : ∀ b ∈ fp, b < s2.heap.objs.size) (hC : s2.heap.objs.size ≤ C) :
    (cmpCx X N scope (closOf X.env.cells scope.names []) C s2 H2 fp).Ok where
  mod := I.ok.mod
  kind := S.kind
  glob := I.ok.glob
  blt := I.ok.blt
  above := hC
  inj := fun x y c h1 h2 => I.ok.inj x y c (CompScope.back h1) (CompScope.back h2)
  has := fun x hx => by
    have hx' : scope.names.lookup x = some .free := by
      rcases hx with hx | hx
      · exact relabel_back S.nocell (.inl rfl) hx
      · exact relabel_back S.nocell (.inr rfl) hx
    obtain ⟨c, hc⟩ := I.ok.has x (S.frees _ (PySem.mem_of_lookup hx') rfl)
    exact ⟨c, S.cell I.ok hx' hc⟩
  cab := fun x c h => absurd (show false = true from h) Bool.false_ne_true
  hd := I.ok.hd
  frames := I.ok.frames
  stk := .inl rfl
  exf := fun b hb => ⟨Nat.ne_of_lt (Nat.lt_of_lt_of_le (hlt b hb) hC), fun x c h => (hf b hb).2.2.2.2.1 x c (CompScope.back h)⟩
  bs := I.bs
  bsz := Nat.le_trans I.ok.bsz I.sz
  noex := fun b o e hb => by
    rcases (hf b hb).2.2.2.1 with z | z
    · exact I.ok.noex b o e z
    · exact absurd (Nat.lt_of_lt_of_le (Nat.lt_of_lt_of_le (Heap.lt_size e) I.ok.bsz) z) (Nat.lt_irrefl _)
  exfs := fun b hb z => by
    rcases List.mem_cons.mp (I.stkSub b z) with e | e
    · exact (hf b hb).2.1 e
    · exact (hf b hb).2.2.1 e
  funs := I.stack
  frf := I.stkFree

/-- the names read from around, at any later state of the block -/
theorem CompScope.again (S : CompScope X N sl scope) {pins : List (Addr × Obj)} {σ : St} {H2 : Hp} {s2 : Shared} {fp : List Addr} {C : Addr} (I : Inv X pins σ H2 s2) (hf : ∀ b ∈ fp, FpOk X pins H2 b)
    {pins' : List (Addr × Obj)} {σ' : St} {H' : Hp} {s' : Shared} (J : Inv (cmpCx X N scope (closOf X.env.cells scope.names []) C s2 H2 fp) pins' σ' H' s') :
    Inv (cmpCx X N scope (closOf X.env.cells scope.names []) C s2 H2 fp) pins' (innerSt sl σ) H' s' := by
  obtain ⟨m, hn, _⟩ := J.loc
  refine ⟨J.ok, J.os, J.bare, J.base, ⟨m, hn, fun j x v e1 e2 _ => ?_⟩, J.cell, J.free, J.freeC, J.pin, J.hok, ?_⟩
  · obtain ⟨i, h1, h2⟩ := innerSt_get e2
    obtain ⟨hN, hfree⟩ := S.out j i x e1 h1
    have hk := S.frees _ (PySem.mem_of_lookup hfree) rfl
    obtain ⟨m0, hn0, hl0⟩ := I.loc
    have hv : Vis X.env.scope x := by
      rcases hk with hk | hk
      · exact .inr (.inl hk)
      · exact .inr (.inr hk)
    obtain ⟨u, r, l⟩ := hl0 i x v hN h2 hv
    refine ⟨u, r, .inr ⟨?_, ?_⟩⟩
    · rcases lookup_relabel_free (env := X.env) hfree with z | z
      · exact .inr z
      · exact .inl z
    · rcases l with ⟨z, _⟩ | ⟨_, c, hc, q⟩
      · rcases hk with hk | hk
        · have hk' : X.env.kindOf x = some .cell := hk
          rw [hk'] at z; cases z
        · have hk' : X.env.kindOf x = some .free := hk
          rw [hk'] at z; cases z
      · refine ⟨c, S.cell I.ok hfree hc, ?_⟩
        obtain ⟨o, ho, hd⟩ := q
        have ncfp : c ∉ fp := fun z => (hf c z).2.2.2.2.1 x c hc rfl
        obtain ⟨sl', e⟩ := J.base.any ho (I.freeC x c hc) ncfp
        exact ⟨_, e, hd⟩
  · unfold innerSt
    rw [List.length_map]
    exact S.len

theorem comp_run {elt tg iter : Expr} {ifs : List Expr} {pos pos2 : Pos} {wi : TI} {g : TG} {tif : TT} {te : TE} {use : Option (Value → Sem Unit)} {QQ : Value → Shared → Prop} (S : CompScope X N sl scope) (hcalm : X.calm = true) (hi : PI X tg iter wi)
    (hg : ∀ cl C s2 H2 fp, PG (cmpCx X N scope cl C s2 H2 fp) tg g) (hif : ∀ cl C s2 H2 fp, PIf (cmpCx X N scope cl C s2 H2 fp) ifs tif) (he : ∀ cl C s2 H2 fp, PE (cmpCx X N scope cl C s2 H2 fp) elt te)
    (hs : ∀ x, foldedSetIterable iter X.env x = pure x) {pins : List (Addr × Obj)} {s : Shared} {σ : St} {H : Hp} {Q : VK} (I : Inv X pins σ H s) (h : tComp wi sl g tif te σ H Q)
    (hend : ∀ (D C : Addr) (H3 : Hp) (s4 : Shared) (fl : Flow), Inv X pins σ H3 s4 → H3 C = none → C ≠ X.env.locals → C ∉ X.fs → X.s₀.heap.objs.size ≤ C → (∀ x c, X.env.cells.lookup x = some c → c ≠ C) → (∀ p ∈ X.pn ++ pins, p.1 ≠ C) → (∃ m, s4.heap.Ns C m) → Q (.ref D) H3 →
      compPost (model X.prog X.w) X.A X.xe use QQ (.ref D) C (.ok fl) s4) :
    wpAny (model X.prog X.w) X.A (comprehension (.ListComp elt [⟨tg, iter, ifs, 0⟩] scope pos) scope X.env pos2 (newList []) false (eval iter X.env) use) QQ X.xe s := by
  refine wpAny_comprehension_free (use := use) rfl hs (S.clos I.ok) S.kind S.locs (wpAny_mono (hi pins s σ H _ I h) (fun xv s1 h1 => wpAny_mono h1 (fun itv s2 h2 => ?_) fun _ _ e => e) fun _ _ e => e)
  obtain ⟨it, fp, tn, J, H2, rfl, I2, T, st2, f2, hR⟩ := h2
  obtain ⟨W, ⟨m0, w0⟩, turn⟩ := hR _ I2.fresh
  refine wpAny_newObj_type (wpAny_newFunctionEnv S.nocell (by intro y hy; simp at hy) (fun h₁ hns₁ hsb₁ => ?_) S.kind)
  dsimp only at hns₁ hsb₁ ⊢
  generalize hP : s2.heap.push { cls := .type "list", dict := none, data := .seq ([] : List Value).toArray } = P2 at hns₁ hsb₁ ⊢
  have hC : P2.objs.size = s2.heap.objs.size + 1 := by rw [← hP, Heap.size_push]
  have hDC : s2.heap.objs.size ≠ P2.objs.size := by rw [hC]; exact Nat.ne_of_lt (Nat.lt_succ_self _)
  have hCle : s2.heap.objs.size ≤ P2.objs.size := by rw [hC]; exact Nat.le_succ _
  have hlt : ∀ b ∈ fp, b < s2.heap.objs.size := fun b hb => let ⟨o, e, _⟩ := T.obj 0 _ st2 b hb; Heap.lt_size e
  have old : ∀ b o, s2.heap.get? b = some o → h₁.get? b = some o := fun b o e => hsb₁.extBut b o (Nat.ne_of_lt (Nat.lt_of_lt_of_le (Heap.lt_size e) hCle)) (Heap.get?_push_of_some _ (hP ▸ Heap.get?_push_of_some _ e))
  have hD1 : h₁.get? s2.heap.objs.size = some { cls := .type "list", dict := none, data := .seq ([] : List Value).toArray } := hsb₁.extBut _ _ hDC (Heap.get?_push_of_some _ (hP ▸ Heap.get?_push_size _ rfl))
  have hok := S.ok (C := P2.objs.size) I2 f2 hlt hCle
  have hokH : HOk X.prog X.w (upd H2 s2.heap.objs.size (.lst [])) h₁ := I2.hok.laid old (Nat.le_refl _) ⟨Nat.zero_le _, [], _, .nil, hD1⟩
  have hUn : Un (frs X.stack) fp H2 (upd H2 s2.heap.objs.size (.lst [])) s2.heap h₁ := Un.laid old (Nat.le_refl _) I2.fresh
  have hcellK : ∀ x c, (closOf X.env.cells scope.names []).lookup x = some c → ∃ v, h₁.IsCell c v := fun x c hc => by
    obtain ⟨v, o, ho, hd⟩ := I2.cell x c (CompScope.back hc)
    exact ⟨v, o, old c o ho, hd⟩
  have hfreeK : ∀ x c, (closOf X.env.cells scope.names []).lookup x = some c → upd H2 s2.heap.objs.size (.lst []) c = none := fun x c hc => by
    obtain ⟨v, q⟩ := I2.cell x c (CompScope.back hc)
    rw [upd_ne (Nat.ne_of_lt q.lt)]
    exact I2.freeC x c (CompScope.back hc)
  have hfreeC : upd H2 s2.heap.objs.size (.lst []) P2.objs.size = none := by
    rw [upd_ne (Ne.symm hDC)]
    exact I2.hok.fresh hCle
  have start : ∀ tk : Nat, Inv (cmpCx X N scope (closOf X.env.cells scope.names []) P2.objs.size s2 H2 fp) [] (innerSt sl σ) (upd H2 s2.heap.objs.size (.lst [])) { s2 with heap := h₁, toks := tk } := fun tk => by
    have J0 : Inv (cmpCx X N scope (closOf X.env.cells scope.names []) P2.objs.size s2 H2 fp) [] (List.replicate N.length none) (upd H2 s2.heap.objs.size (.lst [])) { s2 with heap := h₁, toks := tk } :=
      ⟨hok, rfl, I2.bare, hUn, ⟨_, hns₁, fun i x v e1 e2 _ => by
        rw [List.getElem?_replicate] at e2
        split at e2 <;> cases e2⟩, hcellK, hfreeC, hfreeK, fun p hp => absurd (show p ∈ ([] : List (Addr × Obj)) from hp) (by simp), hokH, by simp⟩
    exact S.again I2 f2 J0
  have stK : tn 0 h₁ := T.keep _ _ _ st2 fun b hb o e => old b o e
  have fr1 : ∀ b ∈ fp, upd H2 s2.heap.objs.size (.lst []) b = none := fun b hb => by
    rw [upd_ne (Nat.ne_of_lt (hlt b hb))]
    exact (f2 b hb).1
  -- what stays true of the iterator's objects
  have stat : ∀ {H' : Hp}, (∀ b ∈ fp, H' b = none) → ∀ b ∈ fp, FpOk (cmpCx X N scope (closOf X.env.cells scope.names []) P2.objs.size s2 H2 fp) [] H' b := fun hn b hb =>
    ⟨hn b hb, Nat.ne_of_lt (Nat.lt_of_lt_of_le (hlt b hb) hCle), fun z => hok.exfs b hb z, .inl hb, fun x c hc => (hok.exf b hb).2 x c hc, fun p hp => absurd (show p ∈ ([] : List (Addr × Obj)) from hp) (by simp)⟩
  have loop : ∀ tk : Nat, codeAny (model X.prog X.w) X.A (.compLoop (.ListComp elt [⟨tg, iter, ifs, 0⟩] scope pos) 0 (.ref it) (.ref s2.heap.objs.size) (compEnvC scope (closOf X.env.cells scope.names []) P2.objs.size X.env))
      (compPost (model X.prog X.w) X.A X.xe use QQ (.ref s2.heap.objs.size) P2.objs.size) { s2 with heap := h₁, toks := tk } := fun tk => by
    refine codeAny_loop rfl (fun n s' => ∃ i H', Inv (cmpCx X N scope (closOf X.env.cells scope.names []) P2.objs.size s2 H2 fp) [] (innerSt sl σ) H' s' ∧ tn i s'.heap ∧ (∀ b ∈ fp, H' b = none) ∧ W i n H') ?_ m0 ⟨0, _, start tk, stK, fr1, w0⟩
    rintro n s3 ⟨i, H3, I3, st3, fr3, w3⟩
    show wpAny _ X.A ((compTurn (.ListComp elt [⟨tg, iter, ifs, 0⟩] scope pos) 0 (.ref it) (.ref s2.heap.objs.size) (compEnvC scope (closOf X.env.cells scope.names []) P2.objs.size X.env)).onRaise (fun x => do noteFrame x (compEnvC scope (closOf X.env.cells scope.names []) P2.objs.size X.env); theTreesLotGoes x)) _ _ s3
    refine wpAny_noted ?_
    rw [compTurn_list]
    rcases turn i n H3 w3 with ⟨stop, qn⟩ | ⟨go, step⟩
    · refine wpAny_bind (wpAny_standAt (wpAny_bind (wpAny_mono (T.done (cmpCx X N scope (closOf X.env.cells scope.names []) P2.objs.size s2 H2 fp) rfl rfl rfl hcalm i [] s3 _ H3 _ I3 (stat fr3) st3 stop) (fun r s4 ⟨hr, I4⟩ => ?_) fun _ _ z => z)))
      subst hr
      refine wpAny_pure ?_
      obtain ⟨m4, hn4, _⟩ := I4.loc
      have u0 : Un (frs X.stack) fp H2 H3 s2.heap s4.heap := I4.base
      have hI : Inv X pins σ H3 s4 := I2.call' (s' := s4) (ch := fp) I4.os u0 I4.hok I4.bare fun b hb => ⟨(f2 b hb).2.2.2.1, (f2 b hb).2.1, (f2 b hb).2.2.2.2.1, (f2 b hb).2.2.2.2.2⟩
      have hC' := I2.fpOk (H' := H3) hCle I4.free
      exact hend _ _ H3 s4 _ hI I4.free hC'.2.1 hC'.2.2.1 (Nat.le_trans I2.sz hCle) hC'.2.2.2.2.1 hC'.2.2.2.2.2 ⟨m4, hn4⟩ qn
    · refine wpAny_bind (wpAny_standAt (wpAny_bind (wpAny_mono (T.item (cmpCx X N scope (closOf X.env.cells scope.names []) P2.objs.size s2 H2 fp) rfl rfl rfl hcalm i [] s3 _ H3 (fun _ _ => False) I3 (stat fr3) st3 go) (fun r s4 ⟨u, hr, h4⟩ => ?_) fun _ _ z => z.elim)))
      subst hr
      refine wpAny_bind (wpAny_mono h4 (fun _ s5 ⟨x, H5, I5, r5, y5, st5, fr5⟩ => ?_) fun _ _ z => z.elim)
      have I5' := I5.pinned (stat fr5) (T.obj _ _ st5)
      refine wpAny_bind (wpAny_mono (hg _ _ _ _ _ _ s5 _ H5 x u _ I5' r5 (step x H5 y5)) (fun _ s6 ⟨σ6, H6, I6, q6⟩ => ?_) fun _ _ z => (show False from z).elim)
      have again : ∀ {σ7 : St} {H7 : Hp} {s7 : Shared}, Inv (cmpCx X N scope (closOf X.env.cells scope.names []) P2.objs.size s2 H2 fp) ([] ++ pinsAt fp s5.heap) σ7 H7 s7 → (∃ m', m' < n ∧ W (i + 1) m' H7) →
          ∃ m', m' < n ∧ ∃ i H', Inv (cmpCx X N scope (closOf X.env.cells scope.names []) P2.objs.size s2 H2 fp) [] (innerSt sl σ) H' s7 ∧ tn i s7.heap ∧ (∀ b ∈ fp, H' b = none) ∧ W i m' H' := fun {σ7 H7 s7} I7 ⟨m', hm, w7⟩ => by
        refine ⟨m', hm, i + 1, H7, S.again I2 f2 I7.unpinned, T.keep _ _ _ st5 fun b hb o e => (I7.pin (b, o) (List.mem_append_right _ (List.mem_append_right _ (mem_pinsAt hb e)))).1, fun b hb => ?_, w7⟩
        obtain ⟨o, e, d⟩ := T.obj _ _ st5 b hb
        exact (I7.pin (b, o) (List.mem_append_right _ (List.mem_append_right _ (mem_pinsAt hb e)))).2.1
      refine wpAny_bind (wpAny_mono (hif _ _ _ _ _ _ s6 σ6 H6 _ I6 q6) (fun ok s7 ⟨H7, I7, q7⟩ => ?_) fun _ _ z => (show False from z).elim)
      cases ok with
      | false =>
        exact wpAny_pure ⟨rfl, again I7 (by simpa using q7)⟩
      | true =>
        rw [if_pos rfl] at q7
        refine wpAny_bind (wpAny_bind (wpAny_mono ((he _ _ _ _ _).out _ s7 σ6 H7 _ I7 q7) (fun y s8 ⟨yv, H8, I8, r8, ys, hys, hlen, w8⟩ => ?_) fun _ _ z => (show False from z).elim))
        refine wpAny_bind (wpAny_mono (mt_append (X := cmpCx X N scope (closOf X.env.cells scope.names []) P2.objs.size s2 H2 fp) _ s8 σ6 H8 (.ref s2.heap.objs.size) [yv] (.ref s2.heap.objs.size) [y]
          (fun v H9 => v = .non ∧ ∃ m', m' < n ∧ W (i + 1) m' H9) I8 rfl (.cons r8 .nil) ⟨_, ys, yv, rfl, rfl, hys, hlen, rfl, w8⟩) (fun r s9 ⟨v9, H9, I9, r9, e9, w9⟩ => ?_) fun _ _ z => (show False from z).elim)
        exact wpAny_pure (wpAny_pure ⟨rfl, again I9 w9⟩)
  exact codeAny_compStart_list (loop _) (T.self _ 0 _ _ _ stK (loop _))
theorem pe_comp {elt tg iter : Expr} {ifs : List Expr} {pos : Pos} {wi : TI} {g : TG} {tif : TT} {te : TE} (S : CompScope X N sl scope) (hcalm : X.calm = true) (hi : PI X tg iter wi)
    (hg : ∀ cl C s2 H2 fp, PG (cmpCx X N scope cl C s2 H2 fp) tg g) (hif : ∀ cl C s2 H2 fp, PIf (cmpCx X N scope cl C s2 H2 fp) ifs tif) (he : ∀ cl C s2 H2 fp, PE (cmpCx X N scope cl C s2 H2 fp) elt te)
    (hs : ∀ x, foldedSetIterable iter X.env x = pure x := by intro _; rfl) :
    PE X (.ListComp elt [⟨tg, iter, ifs, 0⟩] scope pos) (tComp wi sl g tif te) := by
  refine ⟨?_⟩
  intro pins s σ H Q I h
  rw [eval_ListComp]
  refine comp_run S hcalm hi hg hif he hs I h fun D C H3 s4 fl I4 n1 n2 n3 n4 n5 n6 ⟨m, hn⟩ q => ?_
  exact ⟨m, hn, fun h' hsb => ⟨.ref D, H3, I4.turned (t' := s4.toks) (fun b o hb e => (hsb.2 b hb).trans e) n1 n2 (.inr n4) n5 n6, rfl, q⟩⟩
/-- a name given a comprehension on one row: stored ahead of letting the block's names go -/
theorem ps_setC {i : Nat} {x : Str} {elt tg iter : Expr} {ifs : List Expr} {cpos pos pos' : Pos} {wi : TI} {g : TG} {tif : TT} {te : TE} (hN : X.N.Nodup) (hi' : X.N[i]? = some x) (hx : Loc X.env.scope x) (S : CompScope X N sl scope) (hcalm : X.calm = true) (hi : PI X tg iter wi)
    (hg : ∀ cl C s2 H2 fp, PG (cmpCx X N scope cl C s2 H2 fp) tg g) (hif : ∀ cl C s2 H2 fp, PIf (cmpCx X N scope cl C s2 H2 fp) ifs tif) (he : ∀ cl C s2 H2 fp, PE (cmpCx X N scope cl C s2 H2 fp) elt te)
    (hsw : swapsWith (.ListComp elt [⟨tg, iter, ifs, 0⟩] scope cpos) (some (.Name x pos')) pos.line X.env = pure true := by rfl)
    (hs : ∀ x, foldedSetIterable iter X.env x = pure x := by intro _; rfl) (hf : X.fn x = true ∨ X.env.scope.names.lookup x = some .local := by first | exact .inl rfl | exact .inr rfl | assumption) :
    PS X (.Assign [.Name x pos'] (.ListComp elt [⟨tg, iter, ifs, 0⟩] scope cpos) pos) (tAsg (tComp wi sl g tif te) (gName i)) := by
  refine ⟨?_⟩
  intro pins s σ H D0 I h
  rw [exec_Assign_Name_used _ _ _ _ hsw]
  refine wpAny_bind (wpAny_standAt (wpAny_bind ?_))
  show wpAny _ X.A (do let _ ← comprehension (.ListComp elt [⟨tg, iter, ifs, 0⟩] scope cpos) scope X.env _ (newList []) false (eval iter X.env) (some (assign (.Name x pos') X.env))) _ _ s
  refine wpAny_bind (wpAny_mono (comp_run (QQ := fun _ s' => ∃ σ' H', Inv X pins σ' H' s' ∧ D0.nx σ' H') (use := some (assign (.Name x pos') X.env)) S hcalm hi hg hif he hs I h fun D C H3 s4 fl I4 n1 n2 n3 n4 n5 n6 hm q => ?_)
    (fun _ s' hq => wpAny_pure (wpAny_pure hq)) fun _ _ e => e)
  obtain ⟨m, hn⟩ := hm
  show wpAny _ X.A (assign (.Name x pos') X.env (.ref D)) _ _ _
  refine wpAny_assign_Name (store_ok2 I4 hN hi' hx (show RelV (.ref D) (.ref D) from rfl) (fun s5 I5 ⟨a, hsb, ha⟩ => ?_) hf)
  have hCa : C ≠ a := by
    rcases ha with rfl | ha
    · exact n2
    · exact fun z => n5 _ _ ha z.symm
  refine ⟨m, hn.sameBut hsb hCa, fun h' hsb' => ⟨_, H3, I5.turned (t' := s5.toks) (fun b o hb e => (hsb'.2 b hb).trans e) n1 n2 (.inr n4) n5 n6, q⟩⟩
end
end L2

set_option Elab.async false
set_option linter.all false
set_option maxRecDepth 100000
namespace L2
open PySem PySem.Spec PyProof.Rows

/-! ## whole numbers of any size that fits -/
section
variable {X : Cx}
def CMulO (i j : Int) : Prop := IntMulOk i j
/-- // by a divisor of either sign, not too long -/
def CDivW (i j : Int) : Prop := j ≠ 0 ∧ j.natAbs < 2 ^ 9000
theorem CDivW.py {i j : Int} (h : CDivW i j) : Builtin.divisionGoesByPylong i j = false := by
  refine PyProof.noPylong_of_log2 ?_
  have h0 : j.natAbs ≠ 0 := fun z => h.1 (Int.natAbs_eq_zero.mp z)
  exact (Nat.log2_lt h0).mpr h.2
theorem op_mulO : OpR X (binaryOp .Mult) (rI CMulO fun i j => .int (i * j)) := opI fun _ _ _ _ _ _ _ hc q => mul_int q hc
theorem iop_mulO : OpR X (inplaceOp .Mult) (rI CMulO fun i j => .int (i * j)) := opI fun _ _ _ _ _ _ _ hc q => imul_int q hc
theorem op_fdivW : OpR X (binaryOp .FloorDiv) (rI CDivW fun i j => .int (i.fdiv j)) := opI fun _ _ _ _ _ _ _ hc q => floordiv_int hc.1 q (.inl hc.py)
theorem mulOk {a b : Int} {m n : Nat} (ha : a.natAbs < 2 ^ m) (hb : b.natAbs < 2 ^ n) (h : m + n ≤ 134217728) : CMulO a b :=
  IntMulOk.of_le (intBits_le_iff.mpr ha) (intBits_le_iff.mpr hb) h
theorem mulOkL {a b : Int} (h1 : -(2 ^ 64) < a) (h2 : a < 2 ^ 64) : CMulO a b := .of_left (intBits_le_64 h1 h2)
theorem mulOkR {a b : Int} (h1 : -(2 ^ 64) < b) (h2 : b < 2 ^ 64) : CMulO a b := .of_right (intBits_le_64 h1 h2)

/-! ## is, is not beside True, False, None -/
def isPlain : V → Bool
  | .non => true
  | .bl _ => true
  | _ => false
theorem RelV.beq_plain {x y : V} {v u : Value} (rx : RelV x v) (ry : RelV y u) (hy : isPlain y = true) : plainIs v u = true ∧ (v == u) = decide (x = y) := by
  cases y with
  | non =>
    cases ry
    cases x <;> first | (cases rx; exact ⟨rfl, rfl⟩) | (obtain ⟨t, rfl⟩ := rx; exact ⟨rfl, rfl⟩)
  | bl b =>
    cases ry
    cases x with
    | bl c =>
      cases rx
      refine ⟨rfl, ?_⟩
      cases b <;> cases c <;> rfl
    | non => cases rx; exact ⟨rfl, rfl⟩
    | ref a => cases rx; exact ⟨rfl, rfl⟩
    | ty n => cases rx; exact ⟨rfl, rfl⟩
    | int _ => obtain ⟨t, rfl⟩ := rx; exact ⟨rfl, rfl⟩
    | str _ => obtain ⟨t, rfl⟩ := rx; exact ⟨rfl, rfl⟩
    | byt _ => obtain ⟨t, rfl⟩ := rx; exact ⟨rfl, rfl⟩
    | flt _ => obtain ⟨t, rfl⟩ := rx; exact ⟨rfl, rfl⟩
  | _ => exact absurd (show false = true from hy) Bool.false_ne_true
theorem op_is : OpR X (compareOp .Is) (fun x y H Q => isPlain y = true ∧ Q (.bl (decide (x = y))) H) := by
  intro pins s σ H x y v u Q I rx ry h
  obtain ⟨hy, q⟩ := h
  obtain ⟨p, e⟩ := rx.beq_plain ry hy
  exact wpAny_is_plain p (fin_bl I q e.symm)
theorem op_isnot : OpR X (compareOp .IsNot) (fun x y H Q => isPlain y = true ∧ Q (.bl (!decide (x = y))) H) := by
  intro pins s σ H x y v u Q I rx ry h
  obtain ⟨hy, q⟩ := h
  obtain ⟨p, e⟩ := rx.beq_plain ry hy
  exact wpAny_isNot_plain p (fin_bl I q (congrArg not e.symm))

/-! ## isinstance of a built-in type -/
inductive TyB (K : PySem.W.Frag) (H : Hp) : V → String → Prop where
  | non : TyB K H .non "NoneType"
  | bl (x : Bool) : TyB K H (.bl x) "bool"
  | int (i : Int) : TyB K H (.int i) "int"
  | str (x : Str) : TyB K H (.str x) "str"
  | lst {a : Addr} {xs : List V} (e : SqL K H a xs) : TyB K H (.ref a) "list"
  | tup {a : Addr} {xs : List V} (e : SqT K H a xs) : TyB K H (.ref a) "tuple"
theorem call_isinst : CallR X (.builtin "isinstance") (fun xs H Q => ∃ x T T' b, xs = [x, .ty T'] ∧ TyB X.K H x T ∧ PySem.W.kitOne X.K (.type T) (.type T') = some b ∧ Q (.bl b) H) := by
  intro pins s σ H xs us Q I rv h
  obtain ⟨x, T, T', b, rfl, ty, e, q⟩ := h
  obtain ⟨u, w', rfl, rx, rt⟩ := vals2 rv
  obtain rfl : w' = Value.type T' := rt
  have fin : ∀ tk, EP X pins σ Q (.bool b) { s with toks := tk } := fun tk => ⟨.bl b, H, I.tok tk, rfl, q⟩
  cases ty with
  | non => cases (show u = Value.none from rx); exact PySem.W.kia_one PySem.W.kitx_none I.kIn True.intro e (fun z => nomatch z) fin
  | bl y => cases (show u = Value.bool y from rx); exact PySem.W.kia_one PySem.W.kitx_bool I.kIn True.intro e (fun z => nomatch z) fin
  | int i => obtain ⟨t, q'⟩ := (show ∃ t, u = Value.int i t from rx); cases q'; exact PySem.W.kia_one PySem.W.kitx_int I.kIn True.intro e (fun z => nomatch z) fin
  | str y => obtain ⟨t, q'⟩ := (show ∃ t, u = Value.str y t from rx); cases q'; exact PySem.W.kia_one PySem.W.kitx_str I.kIn True.intro e (fun z => nomatch z) fin
  | @lst a ys ea =>
    cases (show u = Value.ref a from rx)
    obtain ⟨its, _, ⟨o, n, h1, h2, _⟩, _⟩ := I.list ea
    exact PySem.W.kia_one PySem.W.kitx_list I.kIn ⟨o, h1, h2⟩ e (fun z => nomatch z) fin
  | @tup a ys ea =>
    cases (show u = Value.ref a from rx)
    obtain ⟨its, _, ⟨o, h1, h2, _⟩, _⟩ := I.tuple ea
    exact PySem.W.kia_one PySem.W.kitx_tuple I.kIn ⟨o, h1, h2⟩ e (fun z => nomatch z) fin

/-! ## deep data: what a value reads as -/
inductive Den (K : PySem.W.Frag) (H : Hp) : V → PyData → Prop where
  | non : Den K H .non .none
  | bl (b : Bool) : Den K H (.bl b) (.bool b)
  | int (i : Int) : Den K H (.int i) (.int i)
  | str (x : Str) : Den K H (.str x) (.str x)
  | lst {a : Addr} {xs : List V} {ds : List PyData} : SqL K H a xs → xs.length = ds.length → (∀ (i : Nat) x d, xs[i]? = some x → ds[i]? = some d → Den K H x d) → Den K H (.ref a) (.list ds)
  | tup {a : Addr} {xs : List V} {ds : List PyData} : SqT K H a xs → xs.length = ds.length → (∀ (i : Nat) x d, xs[i]? = some x → ds[i]? = some d → Den K H x d) → Den K H (.ref a) (.tuple ds)
theorem readsAll_of {h : Heap} : ∀ {us : List Value} {ds : List PyData}, us.length = ds.length → (∀ (i : Nat) u d, us[i]? = some u → ds[i]? = some d → ∃ as, Reads h u d as) → ∃ as, ReadsAll h us ds as
  | [], [], _, _ => ⟨[], .nil⟩
  | [], _ :: _, e, _ => by simp at e
  | _ :: _, [], e, _ => by simp at e
  | u :: us, d :: ds, e, f => by
    obtain ⟨as, r⟩ := f 0 u d rfl rfl
    obtain ⟨bs, rs⟩ := readsAll_of (us := us) (ds := ds) (by simpa using e) fun i u d h1 h2 => f (i + 1) u d (by simpa using h1) (by simpa using h2)
    exact ⟨as ++ bs, .cons r rs⟩
theorem Vals.back {xs : List V} {us : List Value} (r : Vals xs us) {i : Nat} {u : Value} (h : us[i]? = some u) : ∃ x, xs[i]? = some x ∧ RelV x u := by
  have hi : i < us.length := (List.getElem?_eq_some_iff.mp h).1
  have hx : i < xs.length := by rw [r.length]; exact hi
  obtain ⟨u', h', rel⟩ := r.get (List.getElem?_eq_getElem hx)
  rw [h] at h'; cases h'
  exact ⟨_, List.getElem?_eq_getElem hx, rel⟩
theorem Den.reads {pins : List (Addr × Obj)} {σ : St} {H : Hp} {s : Shared} (I : Inv X pins σ H s) {v : V} {d : PyData} (D : Den X.K H v d) : ∀ {u : Value}, RelV v u → ∃ as, Reads s.heap u d as := by
  induction D with
  | non => intro u r; cases (show u = Value.none from r); exact ⟨_, .none⟩
  | bl b => intro u r; cases (show u = Value.bool b from r); exact ⟨_, .bool b⟩
  | int i => intro u r; obtain ⟨t, rfl⟩ := (show ∃ t, u = Value.int i t from r); exact ⟨_, .int i t⟩
  | str x => intro u r; obtain ⟨t, rfl⟩ := (show ∃ t, u = Value.str x t from r); exact ⟨_, .str x t⟩
  | @lst a xs ds q hl _ ih =>
    intro u r
    cases (show u = Value.ref a from r)
    obtain ⟨its, rv, ⟨o, n, h1, h2, h3, h4⟩, _⟩ := I.list q
    obtain ⟨as, ra⟩ := readsAll_of (h := s.heap) (us := its) (ds := ds) (by rw [← rv.length]; exact hl) fun i u d e1 e2 => by
      obtain ⟨x, ex, rel⟩ := rv.back e1
      exact ih i x d ex e2 rel
    exact ⟨_, .list h1 h2 h4 (by simpa using ra)⟩
  | @tup a xs ds q hl _ ih =>
    intro u r
    cases (show u = Value.ref a from r)
    obtain ⟨its, rv, ⟨o, h1, h2, n, h4⟩, _⟩ := I.tuple q
    obtain ⟨as, ra⟩ := readsAll_of (h := s.heap) (us := its) (ds := ds) (by rw [← rv.length]; exact hl) fun i u d e1 e2 => by
      obtain ⟨x, ex, rel⟩ := rv.back e1
      exact ih i x d ex e2 rel
    exact ⟨_, .tuple h1 h2 h4 (by simpa using ra)⟩
theorem Same.tup {K : PySem.W.Frag} {H H' : Hp} {a : Addr} {xs : List V} (e : Same H H') (h : SqT K H a xs) : SqT K H' a xs := by
  rcases h with (h | ⟨o, h⟩) | h
  · exact .inl (.inl (e _ _ h))
  · exact .inl (.inr ⟨o, e _ _ h⟩)
  · exact .inr h
theorem Den.same {K : PySem.W.Frag} {H H' : Hp} (e : Same H H') {v : V} {d : PyData} (D : Den K H v d) : Den K H' v d := by
  induction D with
  | non => exact .non
  | bl b => exact .bl b
  | int i => exact .int i
  | str x => exact .str x
  | lst q hl _ ih => exact .lst (e.seq q) hl ih
  | tup q hl _ ih => exact .tup (e.tup q) hl ih
def rEqD (K : PySem.W.Frag) (neg : Bool) : R2 := fun x y H Q => ∃ d e, Den K H x d ∧ Den K H y e ∧ SeqAt.shaped d = true ∧ SeqAt.shaped e = true ∧ Q (.bl (if neg then !PyData.eqv d e else PyData.eqv d e)) H
theorem op_eqD (hu : X.A.units + 64 < cLine) : OpR X (compareOp .Eq) (rEqD X.K false) := by
  intro pins s σ H x y v u Q I rx ry h
  obtain ⟨d, e, Dx, Dy, sd, se, q⟩ := h
  obtain ⟨as, ra⟩ := Dx.reads I rx
  obtain ⟨bs, rb⟩ := Dy.reads I ry
  exact SeqAt.compareEq_shaped ra rb sd se hu (fin_bl I q rfl)
theorem op_neD (hu : X.A.units + 64 < cLine) : OpR X (compareOp .NotEq) (rEqD X.K true) := by
  intro pins s σ H x y v u Q I rx ry h
  obtain ⟨d, e, Dx, Dy, sd, se, q⟩ := h
  obtain ⟨as, ra⟩ := Dx.reads I rx
  obtain ⟨bs, rb⟩ := Dy.reads I ry
  exact SeqAt.compareNe_shaped ra rb sd se hu (fin_bl I q rfl)
/-- a flat row of scalars -/
def scalD : V → Option PyData
  | .non => some .none
  | .bl b => some (.bool b)
  | .int i => some (.int i)
  | .str x => some (.str x)
  | _ => none
theorem den_scal {K : PySem.W.Frag} {H : Hp} {v : V} {d : PyData} (h : scalD v = some d) : Den K H v d := by
  cases v <;> first | (cases h; constructor) | cases h
def scalDs : List V → Option (List PyData)
  | [] => some []
  | v :: r => match scalD v, scalDs r with
    | some d, some ds => some (d :: ds)
    | _, _ => none
theorem scalDs_ok : ∀ {xs : List V} {ds : List PyData}, scalDs xs = some ds → xs.length = ds.length ∧ ∀ (i : Nat) x d, xs[i]? = some x → ds[i]? = some d → scalD x = some d
  | [], ds, h => by cases h; exact ⟨rfl, fun i x d h => by simp at h⟩
  | v :: r, ds, h => by
    unfold scalDs at h
    cases e1 : scalD v with
    | none => rw [e1] at h; cases h
    | some d0 =>
      cases e2 : scalDs r with
      | none => rw [e1, e2] at h; cases h
      | some dr =>
        rw [e1, e2] at h
        cases h
        obtain ⟨hl, hx⟩ := scalDs_ok e2
        refine ⟨by simp [hl], fun i x d h1 h2 => ?_⟩
        cases i with
        | zero => simp at h1 h2; rw [← h1, ← h2]; exact e1
        | succ i => exact hx i x d (by simpa using h1) (by simpa using h2)
theorem den_lst {K : PySem.W.Frag} {H : Hp} {a : Addr} {xs : List V} {ds : List PyData} (q : SqL K H a xs) (h : scalDs xs = some ds) : Den K H (.ref a) (.list ds) :=
  .lst q (scalDs_ok h).1 fun i x d h1 h2 => den_scal ((scalDs_ok h).2 i x d h1 h2)
theorem den_tup {K : PySem.W.Frag} {H : Hp} {a : Addr} {xs : List V} {ds : List PyData} (q : SqT K H a xs) (h : scalDs xs = some ds) : Den K H (.ref a) (.tuple ds) :=
  .tup q (scalDs_ok h).1 fun i x d h1 h2 => den_scal ((scalDs_ok h).2 i x d h1 h2)
theorem scalDs_ints : ∀ (ns : List Int), scalDs (ns.map V.int) = some (ns.map PyData.int)
  | [] => rfl
  | n :: ns => by
    show (match scalD (.int n), scalDs (ns.map V.int) with | some d, some ds => some (d :: ds) | _, _ => none) = _
    rw [scalDs_ints ns]
    rfl

/-! ## all, any over a list of truths -/
theorem boolsAre_of : ∀ {bs : List Bool} {us : List Value}, Vals (bs.map V.bl) us → LSm.BoolsAre us bs
  | [], _, .nil => .nil
  | b :: bs, _, .cons r t => by
    cases (show _ = Value.bool b from r)
    exact .cons b (boolsAre_of t)
theorem call_all (hc : X.calm = true) : CallR X (.builtin "all") (fun xs H Q => ∃ p, ∃ bs : List Bool, xs = [.ref p] ∧ SqL X.K H p (bs.map V.bl) ∧ Q (.bl (bs.all id)) H) := by
  intro pins s σ H xs us Q I rv h
  obtain ⟨p, bs, rfl, hq, q⟩ := h
  obtain ⟨u, rfl, ru⟩ := vals1 rv
  cases (show u = Value.ref p from ru)
  obtain ⟨its, r, hp, _⟩ := I.list hq
  have hb := boolsAre_of r
  have hl := hp.isList
  have hlt : p < s.heap.objs.size := by obtain ⟨_, e, _⟩ := hl; exact Heap.lt_size e
  refine call_all_walk (wpAny_pyIter_list hl ?_)
  refine ⟨s.heap.objs.size, [s.heap.objs.size, p], [s.heap.objs.size], its.toArray.size, _, _, fun i => (bs[i]?).getD true, rfl, Walks.list (A := X.A.in1) (I.ok.hd hc) _ p (Nat.ne_of_lt hlt) its.toArray,
    ⟨⟨_, Heap.get?_push_size _ rfl, rfl, rfl⟩, hl.push _⟩, fun i v s' Q' E' hP hQ => ?_, fun h' tk hk => ?_⟩
  · obtain ⟨b, e, rfl⟩ := hb.get i v (by simpa using hP)
    simp only [e, Option.getD_some] at hQ
    exact wpAny_truthy_bool hQ
  · have e : ((List.range its.toArray.size).all fun i => (bs[i]?).getD true) = bs.all id := by
      rw [List.size_toArray, hb.length]; exact LSm.range_all bs
    rw [e]
    exact ⟨.bl _, H, I.kept (h' := h') (t' := tk) (LSm.kept_iter hk), rfl, q⟩
theorem call_any (hc : X.calm = true) : CallR X (.builtin "any") (fun xs H Q => ∃ p, ∃ bs : List Bool, xs = [.ref p] ∧ SqL X.K H p (bs.map V.bl) ∧ Q (.bl (bs.any id)) H) := by
  intro pins s σ H xs us Q I rv h
  obtain ⟨p, bs, rfl, hq, q⟩ := h
  obtain ⟨u, rfl, ru⟩ := vals1 rv
  cases (show u = Value.ref p from ru)
  obtain ⟨its, r, hp, _⟩ := I.list hq
  have hb := boolsAre_of r
  have hl := hp.isList
  have hlt : p < s.heap.objs.size := by obtain ⟨_, e, _⟩ := hl; exact Heap.lt_size e
  refine call_any_walk (wpAny_pyIter_list hl ?_)
  refine ⟨s.heap.objs.size, [s.heap.objs.size, p], [s.heap.objs.size], its.toArray.size, _, _, fun i => (bs[i]?).getD false, rfl, Walks.list (A := X.A.in1) (I.ok.hd hc) _ p (Nat.ne_of_lt hlt) its.toArray,
    ⟨⟨_, Heap.get?_push_size _ rfl, rfl, rfl⟩, hl.push _⟩, fun i v s' Q' E' hP hQ => ?_, fun h' tk hk => ?_⟩
  · obtain ⟨b, e, rfl⟩ := hb.get i v (by simpa using hP)
    simp only [e, Option.getD_some] at hQ
    exact wpAny_truthy_bool hQ
  · have e : ((List.range its.toArray.size).any fun i => (bs[i]?).getD false) = bs.any id := by
      rw [List.size_toArray, hb.length]; exact LSm.range_any bs
    rw [e]
    exact ⟨.bl _, H, I.kept (h' := h') (t' := tk) (LSm.kept_iter hk), rfl, q⟩
end

/-! ## a def, its text and its promise in one -/
structure Src (K : PySem.W.Frag) (mg : Str → Option Value) (x : Str) (st : Stmt) (ps : List Str) : Prop where
  ex : ∃ f fd, Fun K x x st f fd ∧ Binds K fd ps [] ∧ mg x = some (.ref f)
structure Dfn (P : Program) (w : World) (K : PySem.W.Frag) (mg : Str → Option Value) (base : Heap) (k : Nat) (x : Str) (ps : List Str) (sp : Sp) : Prop where
  ex : ∃ f fd, FnOk P w K mg base CX0 k f fd ps sp ∧ Binds K fd ps [] ∧ PySem.W.keepIn K (.ref f) = true ∧ mg x = some (.ref f)
section
variable {P : Program} {w : World} {K : PySem.W.Frag} {mg : Str → Option Value} {base : Heap}
theorem Src.ok {x : Str} {st : Stmt} {N ps : List Str} {k : Nat} {sp : Sp} (F : Src K mg x st ps) (S : FnScope N ps (defScope st)) (len : ∀ vs H Q E, sp vs H Q E → vs.length = ps.length)
    (hbody : ∀ (f : Addr) (cdv : Value) (A : Around) (outer : List Env) (s : Shared) (H : Hp) (vs : List V) (Q : VK) (E : XK), Room k (A.deeper (envOfC x (defScope st) s.heap.objs.size f cdv)) → sp vs H Q E →
      ∃ t, PSs (cxOf CX0 P w K mg base N x (defScope st) f cdv A outer s H E).nox (defBody st) t ∧ t { nx := fun _ H' => Q .non H', rt := Q } (start N vs) H) : Dfn P w K mg base (k + 1) x ps sp := by
  obtain ⟨f, fd, F, B, M⟩ := F.ex
  exact ⟨f, fd, F.ok S len (hbody f), B, F.kp, M⟩
theorem Dfn.imp {k : Nat} {x : Str} {ps : List Str} {sp sp' : Sp} (D : Dfn P w K mg base k x ps sp) (h : ∀ vs H Q E, sp' vs H Q E → sp vs H Q E) : Dfn P w K mg base k x ps sp' := by
  obtain ⟨f, fd, F, B, kp, M⟩ := D.ex
  exact ⟨f, fd, F.imp h, B, kp, M⟩
theorem src_mk {x : Str} {st : Stmt} {ps : List Str} {f : Addr} {oc : Value} {od an : Option Addr} {osl : Array (Option Value)} {kV doc pm cdv ct : Value} {h : Heap} (X : K.In h) (G : h.Ns mainGlobals mg)
    (a : PySem.W.nsIn K mainGlobals x = some (some (.ref f))) (l : K.lookup f = some ⟨oc, od, .func (PySem.W.fnOf x x (defArgs st) (defBody st) (defScope st) .none kV doc pm an cdv ct), osl⟩) (c : PySem.W.codeIn K cdv x = true) (k : PySem.W.keepIn K (.ref f) = true)
    (hb : ∀ (kV doc pm : Value) (an : Option Addr) (cdv ct : Value) (us : List Value), us.length = ps.length → bindArgs (PySem.W.fnOf x x (defArgs st) (defBody st) (defScope st) .none kV doc pm an cdv ct) ⟨us, []⟩ = pure (ps.zip us)) : Src K mg x st ps :=
  ⟨f, _, fun_mk l c k, (fun_mk l c k).binds hb, PySem.W.mg_of X G a⟩
end
/-- f(e, ..), f a def of the text by its promise -/
theorem pe_def {X : Cx} {k n : Nat} {x : Str} {ps : List Str} {sp : Sp} {e : Expr} {es : List Expr} {t : TA} {p pos : Pos} (D : Dfn X.prog X.w X.K X.mg X.base k x ps sp) (hr : Room n X.A) (ha : PA X (e :: es) t) (hle : k ≤ n := by decide) (hg : Gl X x := by rfl)
    (hdb : (x == ("__debug__" : Str)) = false := by decide) (he : starEach (e :: es) X.env = (false, eval e X.env) :: starEach es X.env := by rfl) (hpl : (backTo pos (starEach es X.env)).any (·.1) = false := by rfl) :
    PE X (.Call (.Name x p) (e :: es) [] pos) (tCall sp [] E0 t) := by
  obtain ⟨f, fd, F, B, kp, M⟩ := D.ex
  exact pe_call F (hr.mono hle) hg M kp B .nil pass0 ha hdb he hpl
/-- f() -/
theorem pe_def0 {X : Cx} {k n : Nat} {x : Str} {ps : List Str} {sp : Sp} {p pos : Pos} (D : Dfn X.prog X.w X.K X.mg X.base k x ps sp) (hr : Room n X.A) (hle : k ≤ n := by decide) (hg : Gl X x := by rfl)
    (hdb : (x == ("__debug__" : Str)) = false := by decide) : PE X (.Call (.Name x p) [] [] pos) (tCall sp [] E0 tNil) := by
  obtain ⟨f, fd, F, B, kp, M⟩ := D.ex
  exact pe_call0 F (hr.mono hle) hg M kp B .nil pass0 hdb
theorem same_new {H : Hp} {p : Addr} (h : H p = none) (o : HO) : Same H (upd H p o) := fun b u q => by rw [upd_ne (ne_of_none q h)]; exact q
end L2
namespace L2
open PySem PySem.Spec PyProof.Rows
def compOk (osc : Scope) (ON N : List Str) (sl : List (Option Nat)) (scope : Scope) : Bool :=
  decide (scope.kind = .function) && scope.names.all (fun y => decide (y.2 ≠ .cell)) && scope.names.all (fun y => decide (y.2 = .local → scope.names.lookup y.1 = some .local)) &&
  scope.names.all (fun y => decide (y.2 = .free → osc.names.lookup y.1 = some .cell ∨ osc.names.lookup y.1 = some .free)) && decide (sl.length = N.length) &&
  (List.range N.length).all fun j => match N[j]?, sl[j]? with
    | some x, some (some i) => decide (ON[i]? = some x ∧ scope.names.lookup x = some .free)
    | _, _ => true
theorem compScope_mk {X : Cx} {N : List Str} {sl : List (Option Nat)} {scope : Scope} (osc : Scope) (ON : List Str) (h1 : X.env.scope = osc) (h2 : X.N = ON) (hb : compOk osc ON N sl scope = true) : CompScope X N sl scope := by
  unfold compOk at hb
  simp only [Bool.and_eq_true, decide_eq_true_eq, List.all_eq_true] at hb
  obtain ⟨⟨⟨⟨⟨b1, b2⟩, b3⟩, b4⟩, b5⟩, b6⟩ := hb
  refine ⟨b1, b2, b3, fun y hy hf => ?_, b5, fun j i x e1 e2 => ?_⟩
  · have := b4 y hy hf
    show X.env.scope.names.lookup y.1 = _ ∨ X.env.scope.names.lookup y.1 = _
    rw [h1]
    exact this
  · have hj : j < N.length := (List.getElem?_eq_some_iff.mp e1).1
    have := b6 j (List.mem_range.mpr hj)
    rw [e1, e2] at this
    have q := of_decide_eq_true this
    rw [h2]
    exact q
theorem bt_len : bootBuiltins "len" = some (.builtin "len") := by decide +kernel
theorem bt_abs : bootBuiltins "abs" = some (.builtin "abs") := by decide +kernel
theorem bt_isinstance : bootBuiltins "isinstance" = some (.builtin "isinstance") := by decide +kernel
theorem bt_all : bootBuiltins "all" = some (.builtin "all") := by decide +kernel
theorem bt_any : bootBuiltins "any" = some (.builtin "any") := by decide +kernel
theorem bt_min : bootBuiltins "min" = some (.builtin "min") := by decide +kernel
theorem bt_max : bootBuiltins "max" = some (.builtin "max") := by decide +kernel
theorem bt_sorted : bootBuiltins "sorted" = some (.builtin "sorted") := by decide +kernel
theorem bt_sum : bootBuiltins "sum" = some (.builtin "sum") := by decide +kernel
theorem bt_int : bootBuiltins "int" = some (.type "int") := by decide +kernel
theorem bt_bool : bootBuiltins "bool" = some (.type "bool") := by decide +kernel
theorem bt_str : bootBuiltins "str" = some (.type "str") := by decide +kernel
theorem bt_list : bootBuiltins "list" = some (.type "list") := by decide +kernel
theorem bt_tuple : bootBuiltins "tuple" = some (.type "tuple") := by decide +kernel
end L2

namespace L2
open PySem PySem.Spec PyProof.Rows
/-! ## readings that name the written part alone (a comprehension's block shares it) -/
def rIsi (K : PySem.W.Frag) : List V → Hp → VK → Prop := fun xs H Q => ∃ x T T' b, xs = [x, .ty T'] ∧ TyB K H x T ∧ PySem.W.kitOne K (.type T) (.type T') = some b ∧ Q (.bl b) H
def rAllB (K : PySem.W.Frag) : List V → Hp → VK → Prop := fun xs H Q => ∃ p, ∃ bs : List Bool, xs = [.ref p] ∧ SqL K H p (bs.map V.bl) ∧ Q (.bl (bs.all id)) H
def rAnyB (K : PySem.W.Frag) : List V → Hp → VK → Prop := fun xs H Q => ∃ p, ∃ bs : List Bool, xs = [.ref p] ∧ SqL K H p (bs.map V.bl) ∧ Q (.bl (bs.any id)) H
def rLenS (K : PySem.W.Frag) : List V → Hp → VK → Prop := fun xs H Q => ∃ p ys, xs = [.ref p] ∧ (SqL K H p ys ∨ SqT K H p ys) ∧ Q (.int ys.length) H
section
variable {X : Cx} {K : PySem.W.Frag}
theorem callK_isinst (h : X.K = K) : CallR X (.builtin "isinstance") (rIsi K) := by subst h; exact call_isinst
theorem callK_all (h : X.K = K) (hc : X.calm = true) : CallR X (.builtin "all") (rAllB K) := by subst h; exact call_all hc
theorem callK_any (h : X.K = K) (hc : X.calm = true) : CallR X (.builtin "any") (rAnyB K) := by subst h; exact call_any hc
theorem callK_len (h : X.K = K) : CallR X (.builtin "len") (rLenS K) := by subst h; exact call_len_seq
theorem ixK_list (h : X.K = K) : IxR X (rIxL K) := by subst h; exact ix_list
theorem ixK_tup (h : X.K = K) : IxR X (rIxT K) := by subst h; exact ix_tup
theorem slK_list (h : X.K = K) : SlR X (rSlL K) := by subst h; exact sl_list
theorem slK_tup (h : X.K = K) : SlR X (rSlT K) := by subst h; exact sl_tup
theorem opK_in (h : X.K = K) : OpR X (compareOp .In) (rIn K false) := by subst h; exact op_in_seq
theorem opK_notIn (h : X.K = K) : OpR X (compareOp .NotIn) (rIn K true) := by subst h; exact op_notIn_seq
theorem opK_eqD (h : X.K = K) (hu : X.A.units + 64 < cLine) : OpR X (compareOp .Eq) (rEqD K false) := by subst h; exact op_eqD hu
theorem opK_neD (h : X.K = K) (hu : X.A.units + 64 < cLine) : OpR X (compareOp .NotEq) (rEqD K true) := by subst h; exact op_neD hu
theorem opK_catT (h : X.K = K) : OpR X (binaryOp .Add) (rCatT K) := by subst h; exact op_catT
theorem piK_list {tg l : Expr} {tl : TE} (h : X.K = K) (hl : PE X l tl) : PI X tg l (iList K tl) := by subst h; exact pi_list hl
theorem piK_tup {tg l : Expr} {tl : TE} (h : X.K = K) (hl : PE X l tl) : PI X tg l (iTup K tl) := by subst h; exact pi_tup hl
theorem pgK_tup {es : List Expr} {k : Nat} {t : TGs} {n : Nat} {pos : Pos} (hK : X.K = K) (hc : X.calm = true) (h : PGs X es t)
    (hn : (assignEach es X.env).length = n := by rfl) (hst : (assignEach es X.env).findIdx? (·.1) = none := by rfl) : PG X (.Tuple es k pos) (gTup K n t) := by subst hK; exact pg_tup hc h hn hst
end
end L2

set_option Elab.async false
set_option linter.all false
set_option maxRecDepth 100000
namespace L2
open PySem PySem.Spec PyProof.Rows

/-! ## sizes of whole numbers, by powers of two that are not reckoned out -/
def Bd (m : Nat) (x : Int) : Prop := x.natAbs < 2 ^ m
theorem Bd.mono {m n : Nat} {x : Int} (h : Bd m x) (hmn : m ≤ n) : Bd n x := Nat.lt_of_lt_of_le h (Nat.pow_le_pow_right (by decide) hmn)
theorem Bd.bits {m : Nat} {x : Int} (h : Bd m x) : Builtin.Int.intBits x ≤ m := intBits_le_iff.mpr h
theorem Bd.of_bits {m : Nat} {x : Int} (h : Builtin.Int.intBits x ≤ m) : Bd m x := intBits_le_iff.mp h
theorem Bd.mul {m n : Nat} {x y : Int} (hx : Bd m x) (hy : Bd n y) : Bd (m + n) (x * y) := .of_bits (intBits_mul_le hx.bits hy.bits)
theorem Bd.add {m n : Nat} {x y : Int} (hx : Bd m x) (hy : Bd n y) : Bd (max m n + 1) (x + y) := .of_bits (intBits_add_le hx.bits hy.bits)
theorem Bd.sub {m n : Nat} {x y : Int} (hx : Bd m x) (hy : Bd n y) : Bd (max m n + 1) (x - y) := .of_bits (intBits_sub_le hx.bits hy.bits)
theorem Bd.neg {m : Nat} {x : Int} (hx : Bd m x) : Bd m (-x) := .of_bits (intBits_neg_le hx.bits)
theorem Bd.le {m : Nat} {x y : Int} (h : x.natAbs ≤ y.natAbs) (hy : Bd m y) : Bd m x := Nat.lt_of_le_of_lt h hy
theorem Bd.fdiv {m : Nat} {x y : Int} (hx : Bd m x) : Bd m (x.fdiv y) := .of_bits (intBits_fdiv_le hx.bits)
theorem Bd.ok {m n : Nat} {x y : Int} (hx : Bd m x) (hy : Bd n y) (h : m + n ≤ 134217728 := by decide) : CMulO x y := mulOk hx hy h
theorem Bd.dv {m : Nat} {i j : Int} (h : Bd m j) (h0 : j ≠ 0) (hm : m ≤ 9000 := by decide) : CDivW i j := ⟨h0, h.mono hm⟩
theorem Bd.lit {x : Int} {m : Nat} (h : x.natAbs.log2 < m) (h0 : x.natAbs ≠ 0) : Bd m x := (Nat.log2_lt h0).mp h
theorem Bd.small {x : Int} (h1 : -(2 ^ 64) < x) (h2 : x < 2 ^ 64) : Bd 64 x := by unfold Bd; omega

theorem atI_get_nat {α : Type} {xs : List α} {i : Int} (h0 : 0 ≤ i) (h1 : i.toNat < xs.length) : atI xs i = some xs[i.toNat] := by
  have e : i = ((i.toNat : Nat) : Int) := by omega
  have q : atI xs ((i.toNat : Nat) : Int) = some xs[i.toNat] := atI_nat (List.getElem?_eq_getElem h1)
  rw [← e] at q
  exact q
theorem atI_mem {α : Type} {xs : List α} {i : Int} (h0 : 0 ≤ i) (h1 : i < xs.length) : ∃ v, atI xs i = some v ∧ v ∈ xs := by
  have hi : i.toNat < xs.length := by omega
  exact ⟨xs[i.toNat], atI_get_nat h0 hi, List.getElem_mem hi⟩
theorem fmod_range (x : Int) {y : Int} (hy : 0 < y) : 0 ≤ x.fmod y ∧ x.fmod y < y := ⟨Int.fmod_nonneg_of_pos x hy, Int.fmod_lt_of_pos x hy⟩

theorem len_ok {α : Type} {xs : List α} (h : decide (xs.length ≤ 1000) = true) : xs.length ≤ sizeLine := Nat.le_trans (of_decide_eq_true h) (by decide)
/-! ## the greatest common divisor -/
theorem gcd_step (x y : Int) (hy : 0 < y) : Int.gcd y (x.fmod y) = Int.gcd x y := by
  rw [Int.fmod_eq_emod_of_nonneg x (Int.le_of_lt hy), Int.gcd_comm x y, Int.emod_def, Int.gcd_comm y]
  simp
  exact Int.gcd_comm ..
def gcdI (a b : Int) : Int := (Int.gcd a b : Int)
/-- a fraction in lowest terms -/
def frD (t b : Int) : Int := if b < 0 then -gcdI t b else gcdI t b
def fr (t b : Int) : Int × Int := (t.fdiv (frD t b), b.fdiv (frD t b))
structure FrSpec (t b t' b' d : Int) : Prop where
  d0 : d ≠ 0
  ht : t = d * t'
  hb : b = d * b'
  pos : 0 < b'
  cop : Int.gcd t' b' = 1
theorem fr_spec {t b : Int} (h : b ≠ 0) : FrSpec t b (fr t b).1 (fr t b).2 (frD t b) := by
  have hg : Int.gcd t b ≠ 0 := fun z => h (Int.gcd_eq_zero_iff.mp z).2
  have hgp : 0 < gcdI t b := by unfold gcdI; omega
  have hd0 : frD t b ≠ 0 := by unfold frD; split <;> omega
  have hdt : frD t b ∣ t := by
    have : gcdI t b ∣ t := Int.gcd_dvd_left ..
    unfold frD; split
    · exact Int.neg_dvd.mpr this
    · exact this
  have hdb : frD t b ∣ b := by
    have : gcdI t b ∣ b := Int.gcd_dvd_right ..
    unfold frD; split
    · exact Int.neg_dvd.mpr this
    · exact this
  obtain ⟨t', et⟩ := hdt
  obtain ⟨b', eb⟩ := hdb
  have e1 : (fr t b).1 = t' := by
    show t.fdiv (frD t b) = t'
    have : (frD t b * t').fdiv (frD t b) = t' := Int.mul_fdiv_cancel_left t' hd0
    rw [← et] at this
    exact this
  have e2 : (fr t b).2 = b' := by
    show b.fdiv (frD t b) = b'
    have : (frD t b * b').fdiv (frD t b) = b' := Int.mul_fdiv_cancel_left b' hd0
    rw [← eb] at this
    exact this
  rw [e1, e2]
  have hab : (frD t b).natAbs = Int.gcd t b := by
    unfold frD gcdI; split <;> simp
  refine ⟨hd0, et, eb, ?_, ?_⟩
  · rcases Int.lt_trichotomy b 0 with hb | hb | hb
    · have hd : frD t b < 0 := by unfold frD; rw [if_pos hb]; omega
      rw [eb] at hb
      exact Int.pos_of_mul_neg_right hb hd |> fun z => z
    · exact absurd hb h
    · have hd : 0 < frD t b := by unfold frD; rw [if_neg (by omega)]; exact hgp
      have hb' : 0 < frD t b * b' := by rw [← eb]; exact hb
      exact Int.pos_of_mul_pos_right hb' hd |> fun z => z
  · have e3 : Int.gcd (frD t b * t') (frD t b * b') = (frD t b).natAbs * Int.gcd t' b' := Int.gcd_mul_left ..
    rw [← et, ← eb, hab] at e3
    have hp : 0 < Int.gcd t b := by omega
    have e4 : Int.gcd t b * Int.gcd t' b' = Int.gcd t b * 1 := by omega
    exact Nat.eq_of_mul_eq_mul_left hp e4
theorem FrSpec.cross {t b t' b' d : Int} (s : FrSpec t b t' b' d) : t' * b = t * b' := by
  rw [s.hb, s.ht]
  ac_rfl
theorem abs_le_mul {d x : Int} (h : d ≠ 0) : x.natAbs ≤ (d * x).natAbs := by
  rw [Int.natAbs_mul]
  have : 0 < d.natAbs := by omega
  exact Nat.le_mul_of_pos_left _ this
theorem FrSpec.le1 {t b t' b' d : Int} (s : FrSpec t b t' b' d) : t'.natAbs ≤ t.natAbs := by rw [s.ht]; exact abs_le_mul s.d0
theorem FrSpec.le2 {t b t' b' d : Int} (s : FrSpec t b t' b' d) : b'.natAbs ≤ b.natAbs := by rw [s.hb]; exact abs_le_mul s.d0
theorem FrSpec.led {t b t' b' d : Int} (s : FrSpec t b t' b' d) : d.natAbs ≤ b.natAbs := by
  rw [s.hb, Int.mul_comm]
  exact abs_le_mul (by have := s.pos; omega)
end L2
namespace L2
open PySem PySem.Spec PyProof.Rows
/-! ## small helps for readings -/
theorem pick {xs : List V} {i : Int} {P : Int → Prop} (h0 : 0 ≤ i) (h1 : i < xs.length) (hP : ∀ v ∈ xs, ∃ n, v = .int n ∧ P n) : ∃ n, atI xs i = some (.int n) ∧ P n := by
  obtain ⟨v, e, hm⟩ := atI_mem h0 h1
  obtain ⟨n, rfl, p⟩ := hP v hm
  exact ⟨n, e, p⟩
theorem iteN {c A B : Prop} [Decidable c] (h : ¬ c) (hB : B) : if decide c = true then A else B := by
  rw [decide_eq_false h]
  exact iteF hB
theorem iteY {c A B : Prop} [Decidable c] (h : c) (hA : A) : if decide c = true then A else B := by
  rw [decide_eq_true h]
  exact iteT hA
theorem qT {Q : VK} {c : Prop} [Decidable c] {H : Hp} (hc : c) (q : Q (.bl true) H) : Q (.bl (decide c)) H := by
  rw [decide_eq_true hc]
  exact q
theorem qB {Q : VK} {b : Bool} {H : Hp} (hc : b = true) (q : Q (.bl true) H) : Q (.bl b) H := by
  rw [hc]
  exact q
/-! ## comprehensions over a list, over a range -/
def CW (n : Nat) (D : Addr) (Pv : Nat → List V → Hp → Prop) : Nat → Nat → Hp → Prop := fun i m H2 => m = n - i ∧ i ≤ n ∧ ∃ ys, H2 D = some (.lst ys) ∧ ys.length ≤ i ∧ Pv i ys H2
theorem CW.emit {n : Nat} {D : Addr} {Pv : Nat → List V → Hp → Prop} {i m : Nat} {ys : List V} {y : V} {H5 : Hp} (hm : m = n - i) (hi : i < n) (hn : n ≤ sizeLine) (hy : H5 D = some (.lst ys)) (hl : ys.length ≤ i)
    (p : Pv (i + 1) (ys ++ [y]) (upd H5 D (.lst (ys ++ [y])))) : ∃ ys, H5 D = some (.lst ys) ∧ ys.length < sizeLine ∧ ∃ m', m' < m ∧ CW n D Pv (i + 1) m' (upd H5 D (.lst (ys ++ [y]))) :=
  ⟨ys, hy, by omega, n - (i + 1), by omega, rfl, hi, ys ++ [y], upd_same, by simp; omega, p⟩
theorem CW.skip {n : Nat} {D : Addr} {Pv : Nat → List V → Hp → Prop} {i m : Nat} {ys : List V} {H4 : Hp} (hm : m = n - i) (hi : i < n) (hy : H4 D = some (.lst ys)) (hl : ys.length ≤ i) (p : Pv (i + 1) ys H4) :
    ∃ m', m' < m ∧ CW n D Pv (i + 1) m' H4 := ⟨n - (i + 1), by omega, rfl, hi, ys, hy, by omega, p⟩
theorem comp_list {K : PySem.W.Frag} {a D : Addr} {xs : List V} {st : St} {g : TG} {tif : TT} {te : TE} {H1 : Hp} {Q : VK} (Pv : Nat → List V → Hp → Prop) (h0 : Pv 0 [] (upd H1 D (.lst [])))
    (hl : ∀ i ys H2, H2 D = some (.lst ys) → Pv i ys H2 → SqL K H2 a xs)
    (hs : ∀ i m x ys H2, m = xs.length - i → i < xs.length → xs[i]? = some x → H2 D = some (.lst ys) → ys.length ≤ i → Pv i ys H2 → g x st H2 fun σ3 H3 => tif σ3 H3 fun b H4 =>
      if b = true then te σ3 H4 fun y H5 => ∃ ys, H5 D = some (.lst ys) ∧ ys.length < sizeLine ∧ ∃ m', m' < m ∧ CW xs.length D Pv (i + 1) m' (upd H5 D (.lst (ys ++ [y]))) else ∃ m', m' < m ∧ CW xs.length D Pv (i + 1) m' H4)
    (hd : ∀ ys H2, H2 D = some (.lst ys) → Pv xs.length ys H2 → Q (.ref D) H2) :
    compW (Itl K a) D st g tif te Q H1 := by
  refine ⟨CW xs.length D Pv, ⟨xs.length, by simp, Nat.zero_le _, [], upd_same, Nat.le_refl _, h0⟩, ?_⟩
  rintro i m H2 ⟨hm, hi, ys, hy, hlen, p⟩
  have q := hl i ys H2 hy p
  by_cases hlt : i < xs.length
  · refine .inr ⟨⟨xs, xs[i], q, by simp [hlt]⟩, fun x H' y => ?_⟩
    obtain ⟨e, y⟩ := y
    subst e
    exact hs i m x ys _ hm hlt (y xs q) hy hlen p
  · have e : i = xs.length := by omega
    subst e
    exact .inl ⟨⟨xs, q, Nat.le_refl _⟩, hd ys H2 hy p⟩
theorem comp_range {lo : Int} {n : Nat} {D : Addr} {st : St} {g : TG} {tif : TT} {te : TE} {H1 : Hp} {Q : VK} (Pv : Nat → List V → Hp → Prop) (h0 : Pv 0 [] (upd H1 D (.lst [])))
    (hs : ∀ i m ys H2, m = n - i → i < n → H2 D = some (.lst ys) → ys.length ≤ i → Pv i ys H2 → g (.int (lo + i)) st H2 fun σ3 H3 => tif σ3 H3 fun b H4 =>
      if b = true then te σ3 H4 fun y H5 => ∃ ys, H5 D = some (.lst ys) ∧ ys.length < sizeLine ∧ ∃ m', m' < m ∧ CW n D Pv (i + 1) m' (upd H5 D (.lst (ys ++ [y]))) else ∃ m', m' < m ∧ CW n D Pv (i + 1) m' H4)
    (hd : ∀ ys H2, H2 D = some (.lst ys) → Pv n ys H2 → Q (.ref D) H2) :
    compW (Itr lo n) D st g tif te Q H1 := by
  refine ⟨CW n D Pv, ⟨n, by simp, Nat.zero_le _, [], upd_same, Nat.le_refl _, h0⟩, ?_⟩
  rintro i m H2 ⟨hm, hi, ys, hy, hlen, p⟩
  by_cases hlt : i < n
  · refine .inr ⟨hlt, fun x H' y => ?_⟩
    obtain ⟨e, y⟩ := y
    subst e y
    exact hs i m ys _ hm hlt hy hlen p
  · have e : i = n := by omega
    subst e
    exact .inl ⟨Nat.le_refl _, hd ys H2 hy p⟩
end L2

set_option Elab.async false
set_option linter.all false
set_option maxRecDepth 100000
namespace L2
open PySem PySem.Spec PyProof.Rows
/-! ## how often a number goes into another -/
structure IsVal (p n : Int) (v : Nat) : Prop where
  dv : p ^ v ∣ n
  no : ¬ p ^ (v + 1) ∣ n
theorem pow_ne_zero' {p : Int} (hp : p ≠ 0) : ∀ v : Nat, p ^ v ≠ 0
  | 0 => by rw [Int.pow_zero]; decide
  | v + 1 => by rw [Int.pow_succ]; exact Int.mul_ne_zero (pow_ne_zero' hp v) hp
theorem pow_dvd_pow' (p : Int) {v w : Nat} (h : v ≤ w) : p ^ v ∣ p ^ w := by
  obtain ⟨k, rfl⟩ := Nat.exists_eq_add_of_le h
  exact ⟨p ^ k, Int.pow_add p v k⟩
theorem IsVal.uniq {p n : Int} {v w : Nat} (a : IsVal p n v) (b : IsVal p n w) : v = w := by
  rcases Nat.lt_trichotomy v w with h | h | h
  · exact absurd (Int.dvd_trans (pow_dvd_pow' p h) b.dv) a.no
  · exact h
  · exact absurd (Int.dvd_trans (pow_dvd_pow' p h) a.dv) b.no
theorem IsVal.of {p n m : Int} {v : Nat} (hp : p ≠ 0) (h : n = p ^ v * m) (hm : ¬ p ∣ m) : IsVal p n v := by
  refine ⟨⟨m, h⟩, fun ⟨k, hk⟩ => hm ?_⟩
  rw [h, Int.pow_succ, Int.mul_assoc] at hk
  exact ⟨k, Int.eq_of_mul_eq_mul_left (pow_ne_zero' hp v) hk⟩
theorem IsVal.fac {p n : Int} {v : Nat} (h : IsVal p n v) : ∃ m, n = p ^ v * m ∧ ¬ p ∣ m := by
  obtain ⟨m, e⟩ := h.dv
  refine ⟨m, e, fun ⟨k, hk⟩ => h.no ⟨k, ?_⟩⟩
  rw [e, hk, Int.pow_succ, Int.mul_assoc]
def primes : List Int := [2, 3, 5, 7, 11, 13, 17, 19, 23, 29, 31, 37, 41, 43, 47]
theorem prime_div : ∀ p ∈ ([2, 3, 5, 7, 11, 13, 17, 19, 23, 29, 31, 37, 41, 43, 47] : List Nat), ∀ g < 48, p % g = 0 → g = 1 ∨ g = p ∨ g = 0 := by decide +kernel
theorem primes_nat {p : Int} (h : p ∈ primes) : ∃ q : Nat, p = (q : Int) ∧ q ∈ ([2, 3, 5, 7, 11, 13, 17, 19, 23, 29, 31, 37, 41, 43, 47] : List Nat) := by
  simp only [primes, List.mem_cons, List.not_mem_nil, or_false] at h
  rcases h with rfl | rfl | rfl | rfl | rfl | rfl | rfl | rfl | rfl | rfl | rfl | rfl | rfl | rfl | rfl
  · exact ⟨2, rfl, by decide⟩
  · exact ⟨3, rfl, by decide⟩
  · exact ⟨5, rfl, by decide⟩
  · exact ⟨7, rfl, by decide⟩
  · exact ⟨11, rfl, by decide⟩
  · exact ⟨13, rfl, by decide⟩
  · exact ⟨17, rfl, by decide⟩
  · exact ⟨19, rfl, by decide⟩
  · exact ⟨23, rfl, by decide⟩
  · exact ⟨29, rfl, by decide⟩
  · exact ⟨31, rfl, by decide⟩
  · exact ⟨37, rfl, by decide⟩
  · exact ⟨41, rfl, by decide⟩
  · exact ⟨43, rfl, by decide⟩
  · exact ⟨47, rfl, by decide⟩
theorem primes_range {p : Int} (h : p ∈ primes) : 2 ≤ p ∧ p ≤ 47 := by
  simp only [primes, List.mem_cons, List.not_mem_nil, or_false] at h
  omega
/-- a number whose only divisors are one and itself goes into a product just where it goes into a factor -/
theorem nat_euclid {q a b : Nat} (hq : ∀ g, g ∣ q → g = 1 ∨ g = q) (h : q ∣ a * b) : q ∣ a ∨ q ∣ b := by
  rcases hq (Nat.gcd q a) (Nat.gcd_dvd_left q a) with e | e
  · exact .inr (Nat.Coprime.dvd_of_dvd_mul_left (m := a) e h)
  · exact .inl (e ▸ Nat.gcd_dvd_right q a)
theorem int_euclid {q : Nat} (hq : ∀ g, g ∣ q → g = 1 ∨ g = q) {a b : Int} (h : (q : Int) ∣ a * b) : (q : Int) ∣ a ∨ (q : Int) ∣ b := by
  have h' : q ∣ a.natAbs * b.natAbs := by
    rw [← Int.natAbs_mul]
    exact Int.ofNat_dvd_left.mp h
  rcases nat_euclid hq h' with z | z
  · exact .inl (Int.ofNat_dvd_left.mpr z)
  · exact .inr (Int.ofNat_dvd_left.mpr z)
theorem prime_nat {q : Nat} (h : q ∈ ([2, 3, 5, 7, 11, 13, 17, 19, 23, 29, 31, 37, 41, 43, 47] : List Nat)) : ∀ g, g ∣ q → g = 1 ∨ g = q := by
  intro g hg
  have hq : 0 < q ∧ q < 48 := by
    simp only [List.mem_cons, List.not_mem_nil, or_false] at h
    omega
  have hle : g ≤ q := Nat.le_of_dvd hq.1 hg
  rcases prime_div q h g (by omega) (Nat.mod_eq_zero_of_dvd hg) with e | e | e
  · exact .inl e
  · exact .inr e
  · subst e
    exact absurd (Nat.eq_zero_of_zero_dvd hg) (by omega)
theorem prime_euclid {p : Int} (h : p ∈ primes) {a b : Int} (hd : p ∣ a * b) : p ∣ a ∨ p ∣ b := by
  obtain ⟨q, rfl, hq⟩ := primes_nat h
  exact int_euclid (prime_nat hq) hd
theorem IsVal.mul {p a b : Int} {v w : Nat} (hp : p ≠ 0) (he : ∀ x y : Int, p ∣ x * y → p ∣ x ∨ p ∣ y) (ha : IsVal p a v) (hb : IsVal p b w) : IsVal p (a * b) (v + w) := by
  obtain ⟨m, e1, h1⟩ := ha.fac
  obtain ⟨n, e2, h2⟩ := hb.fac
  refine IsVal.of hp (m := m * n) ?_ fun z => ?_
  · rw [e1, e2, Int.pow_add]; ac_rfl
  · rcases he _ _ z with z | z
    · exact h1 z
    · exact h2 z
/-- every number other than 0 has a size -/
theorem exists_val {p : Int} (hp : 2 ≤ p) {n : Int} (hn : n ≠ 0) : ∃ v, IsVal p n v := by
  have go : ∀ (k : Nat) (n : Int), n ≠ 0 → n.natAbs ≤ k → ∃ v, IsVal p n v := by
    intro k
    induction k with
    | zero => intro n h0 h1; exact absurd (by omega) h0
    | succ k ih =>
      intro n h0 h1
      by_cases hd : p ∣ n
      · obtain ⟨m, rfl⟩ := hd
        have hm : m ≠ 0 := fun z => h0 (by rw [z]; simp)
        have hlt : m.natAbs < (p * m).natAbs := by
          rw [Int.natAbs_mul]
          have h2 : 2 ≤ p.natAbs := by omega
          have h3 : 0 < m.natAbs := by omega
          calc m.natAbs < 2 * m.natAbs := by omega
            _ ≤ p.natAbs * m.natAbs := Nat.mul_le_mul_right _ h2
        obtain ⟨v, hv⟩ := ih m hm (by omega)
        obtain ⟨c, ec, hc⟩ := hv.fac
        exact ⟨v + 1, IsVal.of (by omega) (m := c) (by rw [ec, Int.pow_succ]; ac_rfl) hc⟩
      · exact ⟨0, IsVal.of (by omega) (m := n) (by simp) hd⟩
  exact go n.natAbs n hn (Nat.le_refl _)
/-- how a fraction's size comes of unreduced top and bottom -/
theorem val_frac {p t b t' b' d : Int} {v w v' w' : Nat} (hp : p ∈ primes) (S : FrSpec t b t' b' d) (hv : IsVal p t v) (hw : IsVal p b w) (hv' : IsVal p t' v') (hw' : IsVal p b' w') : (v : Int) - w = (v' : Int) - w' := by
  have h2 := (primes_range hp).1
  obtain ⟨z, hz⟩ := exists_val h2 S.d0
  have he := fun (x y : Int) (h : p ∣ x * y) => prime_euclid hp h
  have e1 : v = z + v' := hv.uniq (by rw [S.ht]; exact IsVal.mul (by omega) he hz hv')
  have e2 : w = z + w' := hw.uniq (by rw [S.hb]; exact IsVal.mul (by omega) he hz hw')
  omega
theorem fmod_dvd {x y : Int} (hy : 0 < y) : x.fmod y = 0 ↔ y ∣ x := by
  rw [Int.fmod_eq_emod_of_nonneg x (Int.le_of_lt hy)]
  exact ⟨Int.dvd_of_emod_eq_zero, Int.emod_eq_zero_of_dvd⟩
theorem fdiv_exact {y m : Int} (hy : y ≠ 0) : (y * m).fdiv y = m := Int.mul_fdiv_cancel_left m hy
end L2
namespace L2
theorem Same.free_upd {H H' : Hp} {D : PySem.Addr} (g : Same H H') (hD : H D = none) (o : HO) : Same H (upd H' D o) := fun b u q => by rw [upd_ne (ne_of_none q hD)]; exact g b u q
theorem iteS {c A B : Prop} [Decidable c] (h : ¬ c) (hA : A) : if (!decide c) = true then A else B := by
  rw [decide_eq_false h]
  exact iteT hA
theorem four {H : Hp} {p1 p2 p3 p4 : PySem.Addr} {o1 o2 o3 o4 : HO} (n1 : H p1 = none) (n2 : upd H p1 o1 p2 = none) (n3 : upd (upd H p1 o1) p2 o2 p3 = none) (n4 : upd (upd (upd H p1 o1) p2 o2) p3 o3 p4 = none) :
    ∃ H1, H1 = upd (upd (upd (upd H p1 o1) p2 o2) p3 o3) p4 o4 ∧ Same H H1 ∧ H1 p1 = some o1 ∧ H1 p2 = some o2 ∧ H1 p3 = some o3 ∧ H1 p4 = some o4 := by
  have g1 := same_new n1 o1
  have g2 := same_new n2 o2
  have g3 := same_new n3 o3
  have g4 := same_new n4 o4
  exact ⟨_, rfl, g1.trans (g2.trans (g3.trans g4)), g4 _ _ (g3 _ _ (g2 _ _ upd_same)), g4 _ _ (g3 _ _ upd_same), g4 _ _ upd_same, upd_same⟩
end L2
namespace L2
open PySem PySem.Spec PyProof.Rows
/-- a tuple of whole numbers at the top of a file -/
def tupInts (o : Obj) (ns : List Int) : Bool := decide (o.cls = .type "tuple") && match o.data with
  | .seq its _ => decide (its.size ≤ 1000) && decide (its.toList.map absV = ns.map fun n => some (V.int n))
  | _ => false
theorem vals_of_abs : ∀ {us : List Value} {ns : List Int}, us.map absV = ns.map (fun n => some (V.int n)) → Vals (ns.map V.int) us
  | [], [], _ => .nil
  | [], _ :: _, h => by simp at h
  | _ :: _, [], h => by simp at h
  | u :: us, n :: ns, h => by
    simp only [List.map_cons, List.cons.injEq] at h
    refine .cons ?_ (vals_of_abs h.2)
    have e := h.1
    cases u <;> simp [absV] at e
    subst e
    exact ⟨_, rfl⟩
theorem tupInts_ok {K : PySem.W.Frag} {H : Hp} {a : Addr} {o : Obj} {ns : List Int} (h : K.lookup a = some o) (t : tupInts o ns = true) : SqT K H a (ns.map V.int) := by
  unfold tupInts at t
  rw [Bool.and_eq_true] at t
  obtain ⟨t1, t2⟩ := t
  have hc := of_decide_eq_true t1
  cases hd : o.data with
  | seq its n =>
    rw [hd] at t2
    rw [Bool.and_eq_true] at t2
    have h1 := of_decide_eq_true t2.1
    have h2 := of_decide_eq_true t2.2
    exact .inr ⟨o, its, n, h, hc, hd, Nat.le_trans h1 (by decide), vals_of_abs h2⟩
  | _ => rw [hd] at t2; exact absurd t2 Bool.false_ne_true
end L2

set_option Elab.async false
set_option linter.all false
set_option maxRecDepth 100000
namespace L2
open PySem PySem.Spec PyProof.Rows
/-! ## data of whole numbers, None, lists, tuples: its shape, and when two are alike -/
inductive Fl : Nat → PyData → Prop where
  | non {n : Nat} : Fl n .none
  | int {n : Nat} (i : Int) : Fl n (.int i)
  | lst {n : Nat} {ds : List PyData} : (∀ d ∈ ds, Fl n d) → Fl (n + 1) (.list ds)
  | tup {n : Nat} {ds : List PyData} : (∀ d ∈ ds, Fl n d) → Fl (n + 1) (.tuple ds)
theorem canLayAll_of : ∀ {ds : List PyData}, (∀ d ∈ ds, PyData.canLay0 d = true) → PyData.canLayAll0 ds = true
  | [], _ => by simp [PyData.canLayAll0]
  | d :: ds, h => by
    simp only [PyData.canLayAll0, Bool.and_eq_true]
    exact ⟨h d List.mem_cons_self, canLayAll_of fun e he => h e (List.mem_cons_of_mem _ he)⟩
theorem depthAll_of {n : Nat} : ∀ {ds : List PyData}, (∀ d ∈ ds, PyData.depth d ≤ n) → PyData.depthAll ds ≤ n
  | [], _ => by simp [PyData.depthAll]
  | d :: ds, h => by
    simp only [PyData.depthAll]
    exact Nat.max_le.mpr ⟨h d List.mem_cons_self, depthAll_of fun e he => h e (List.mem_cons_of_mem _ he)⟩
theorem Fl.both {n : Nat} {d : PyData} (h : Fl n d) : PyData.canLay0 d = true ∧ PyData.depth d ≤ n := by
  induction h with
  | non => exact ⟨by simp [PyData.canLay0], by simp [PyData.depth]⟩
  | int i => exact ⟨by simp [PyData.canLay0], by simp [PyData.depth]⟩
  | lst _ ih => exact ⟨by simp only [PyData.canLay0]; exact canLayAll_of fun d hd => (ih d hd).1, by simp only [PyData.depth]; exact Nat.succ_le_succ (depthAll_of fun d hd => (ih d hd).2)⟩
  | tup _ ih => exact ⟨by simp only [PyData.canLay0]; exact canLayAll_of fun d hd => (ih d hd).1, by simp only [PyData.depth]; exact Nat.succ_le_succ (depthAll_of fun d hd => (ih d hd).2)⟩
theorem Fl.shaped {n : Nat} {d : PyData} (h : Fl n d) (hn : n ≤ 64) : SeqAt.shaped d = true := by
  unfold SeqAt.shaped
  rw [Bool.and_eq_true]
  exact ⟨h.both.1, decide_eq_true (Nat.le_trans h.both.2 hn)⟩
theorem Fl.self {n : Nat} {d : PyData} (h : Fl n d) : PyData.eqv d d = true := SeqAt.eqv_refl d h.both.1
mutual
theorem eqv_eq : ∀ {n m : Nat} {d e : PyData}, Fl n d → Fl m e → PyData.eqv d e = true → d = e
  | _, _, _, _, .non, .non, _ => rfl
  | _, _, _, _, .non, .int _, h => by simp [PyData.eqv] at h
  | _, _, _, _, .non, .lst _, h => by simp [PyData.eqv] at h
  | _, _, _, _, .non, .tup _, h => by simp [PyData.eqv] at h
  | _, _, _, _, .int _, .non, h => by simp [PyData.eqv] at h
  | _, _, _, _, .int i, .int j, h => by
    simp only [PyData.eqv, beq_iff_eq] at h
    rw [h]
  | _, _, _, _, .int _, .lst _, h => by simp [PyData.eqv] at h
  | _, _, _, _, .int _, .tup _, h => by simp [PyData.eqv] at h
  | _, _, _, _, .lst _, .non, h => by simp [PyData.eqv] at h
  | _, _, _, _, .lst _, .int _, h => by simp [PyData.eqv] at h
  | _, _, .list ds, .list es, .lst a, .lst b, h => by
    simp only [PyData.eqv] at h
    rw [eqvAll_eq a b h]
  | _, _, _, _, .lst _, .tup _, h => by simp [PyData.eqv] at h
  | _, _, _, _, .tup _, .non, h => by simp [PyData.eqv] at h
  | _, _, _, _, .tup _, .int _, h => by simp [PyData.eqv] at h
  | _, _, _, _, .tup _, .lst _, h => by simp [PyData.eqv] at h
  | _, _, .tuple ds, .tuple es, .tup a, .tup b, h => by
    simp only [PyData.eqv] at h
    rw [eqvAll_eq a b h]
theorem eqvAll_eq : ∀ {n m : Nat} {ds es : List PyData}, (∀ d ∈ ds, Fl n d) → (∀ d ∈ es, Fl m d) → PyData.eqvAll ds es = true → ds = es
  | _, _, [], [], _, _, _ => rfl
  | _, _, [], _ :: _, _, _, h => by simp [PyData.eqvAll] at h
  | _, _, _ :: _, [], _, _, h => by simp [PyData.eqvAll] at h
  | _, _, d :: ds, e :: es, a, b, h => by
    simp only [PyData.eqvAll, Bool.and_eq_true] at h
    rw [eqv_eq (a d List.mem_cons_self) (b e List.mem_cons_self) h.1, eqvAll_eq (fun x hx => a x (List.mem_cons_of_mem _ hx)) (fun x hx => b x (List.mem_cons_of_mem _ hx)) h.2]
end
noncomputable instance : DecidableEq PyData := fun a b => Classical.propDecidable _
theorem eqv_dec {n m : Nat} {d e : PyData} (a : Fl n d) (b : Fl m e) : PyData.eqv d e = decide (d = e) := by
  cases h : PyData.eqv d e with
  | true => exact (decide_eq_true (eqv_eq a b h)).symm
  | false =>
    refine (decide_eq_false fun z => ?_).symm
    subst z
    rw [a.self] at h
    cases h
/-! ### lists of whole numbers -/
abbrev dI (ns : List Int) : PyData := .list (ns.map .int)
theorem fl_ints (ns : List Int) : Fl 1 (dI ns) := .lst fun d hd => by
  obtain ⟨i, _, rfl⟩ := List.mem_map.mp hd
  exact .int i
theorem dI_inj {a b : List Int} (h : dI a = dI b) : a = b := by
  have h' : a.map PyData.int = b.map PyData.int := PyData.list.inj h
  induction a generalizing b with
  | nil =>
    cases b with
    | nil => rfl
    | cons _ _ => simp at h'
  | cons x a ih =>
    cases b with
    | nil => simp at h'
    | cons y b =>
      simp only [List.map_cons, List.cons.injEq, PyData.int.injEq] at h'
      rw [h'.1, ih (congrArg PyData.list h'.2) h'.2]
theorem eqv_ints (a b : List Int) : PyData.eqv (dI a) (dI b) = decide (a = b) := by
  rw [eqv_dec (fl_ints a) (fl_ints b)]
  by_cases h : a = b
  · rw [decide_eq_true h, decide_eq_true (congrArg dI h)]
  · rw [decide_eq_false h, decide_eq_false fun z => h (dI_inj z)]
/-- == of two lists of whole numbers -/
theorem eqL {K : PySem.W.Frag} {H : Hp} {a b : Addr} {xs ys : List Int} {Q : VK} (ha : SqL K H a (xs.map V.int)) (hb : SqL K H b (ys.map V.int)) (q : Q (.bl (decide (xs = ys))) H) : rEqD K false (.ref a) (.ref b) H Q :=
  ⟨dI xs, dI ys, den_lst ha (scalDs_ints _), den_lst hb (scalDs_ints _), (fl_ints _).shaped (by decide), (fl_ints _).shaped (by decide), by
    show Q (.bl (PyData.eqv (dI xs) (dI ys))) H
    rw [eqv_ints]; exact q⟩
theorem neL {K : PySem.W.Frag} {H : Hp} {a b : Addr} {xs ys : List Int} {Q : VK} (ha : SqL K H a (xs.map V.int)) (hb : SqL K H b (ys.map V.int)) (q : Q (.bl (!decide (xs = ys))) H) : rEqD K true (.ref a) (.ref b) H Q :=
  ⟨dI xs, dI ys, den_lst ha (scalDs_ints _), den_lst hb (scalDs_ints _), (fl_ints _).shaped (by decide), (fl_ints _).shaped (by decide), by
    show Q (.bl (!PyData.eqv (dI xs) (dI ys))) H
    rw [eqv_ints]; exact q⟩
/-- two that read as the same -/
theorem eqSame {K : PySem.W.Frag} {H : Hp} {x y : V} {d : PyData} {n : Nat} {Q : VK} (ha : Den K H x d) (hb : Den K H y d) (f : Fl n d) (hn : n ≤ 64) (q : Q (.bl true) H) : rEqD K false x y H Q :=
  ⟨d, d, ha, hb, f.shaped hn, f.shaped hn, by show Q (.bl (PyData.eqv d d)) H; rw [f.self]; exact q⟩
theorem neSame {K : PySem.W.Frag} {H : Hp} {x y : V} {d : PyData} {n : Nat} {Q : VK} (ha : Den K H x d) (hb : Den K H y d) (f : Fl n d) (hn : n ≤ 64) (q : Q (.bl false) H) : rEqD K true x y H Q :=
  ⟨d, d, ha, hb, f.shaped hn, f.shaped hn, by show Q (.bl (!PyData.eqv d d)) H; rw [f.self]; exact q⟩
end L2

set_option Elab.async false
set_option linter.all false
set_option maxRecDepth 100000
namespace L2
open PySem PySem.Spec PyProof.Rows
section
variable {X : Cx} {pins : List (Addr × Obj)} {σ : St} {H : Hp} {s : Shared} {h' : Heap}
/-- records of ours have turned -/
theorem Inv.turnedL {t' : Nat} {ch : List Addr} (I : Inv X pins σ H s) (k : ∀ b u, b ∉ ch → s.heap.get? b = some u → h'.get? b = some u) (hf : ∀ b ∈ ch, FpOk X pins H b) : Inv X pins σ H { s with heap := h', toks := t' } := by
  have nit : ∀ b u, H b = some u → b ∉ ch := fun b u e z => by rw [(hf b z).1] at e; cases e
  refine I.step (g' := s.gens) (d' := s.drawn) (ch := ch) (fun b hb => ⟨(hf b hb).2.2.2.1, (hf b hb).2.1, (hf b hb).2.2.2.2.1, (hf b hb).2.2.2.2.2⟩) (fun b o _ _ hc e _ => k b o hc e) (fun b o _ _ hc e _ => ⟨o.slots, k b o hc e⟩) (fun _ _ _ _ n => n)
    (fun b o hc e => ⟨o, k b o hc e⟩) (fun _ _ e => e) (fun _ _ _ e => e) (fun b ps e => ⟨#[], by rw [e]; simp⟩) (fun m hm => ?_) (fun b u e => ?_) I.bare
  · obtain ⟨o, es, ep, ho, r⟩ := hm
    exact ⟨o, es, ep, k _ o (fun z => (hf _ z).2.1 rfl) ho, r⟩
  · refine (I.hok b u e).stay (fun c v hc q => k c v ?_ q) (fun _ q => q) fun _ _ q => q
    rcases hc with z | z
    · rw [z]; exact nit b u e
    · exact nit c _ z
/-- .. and a new object is laid and tracked -/
theorem Inv.turnedNew {t' : Nat} {ch : List Addr} {a : Addr} {o : HO} (I : Inv X pins σ H s) (k : ∀ b u, b ∉ ch → s.heap.get? b = some u → h'.get? b = some u) (hf : ∀ b ∈ ch, FpOk X pins H b) (ha : s.heap.objs.size ≤ a) (new : ObjOk X.prog X.w (upd H a o) h' a o) :
    Inv X pins σ (upd H a o) { s with heap := h', toks := t' } := by
  have hn : H a = none := I.hok.fresh ha
  have nit : ∀ b u, H b = some u → b ∉ ch := fun b u e z => by rw [(hf b z).1] at e; cases e
  have nea : ∀ b u, s.heap.get? b = some u → b ≠ a := fun b u e => Nat.ne_of_lt (Nat.lt_of_lt_of_le (Heap.lt_size e) ha)
  refine I.step (g' := s.gens) (d' := s.drawn) (ch := ch) (fun b hb => ⟨(hf b hb).2.2.2.1, (hf b hb).2.1, (hf b hb).2.2.2.2.1, (hf b hb).2.2.2.2.2⟩) (fun b o _ _ hc e _ => k b o hc e) (fun b o _ _ hc e _ => ⟨o.slots, k b o hc e⟩) (fun b u _ e n => by rw [upd_ne (nea b u e)]; exact n)
    (fun b o hc e => ⟨o, k b o hc e⟩) (fun b xs e => by rw [upd_ne (ne_of_none e hn)]; exact e) (fun b u xs e => by rw [upd_ne (ne_of_none e hn)]; exact e) (fun b ps e => ⟨#[], by rw [upd_ne (ne_of_none e hn), e]; simp⟩) (fun m hm => ?_) (fun b u e => ?_) I.bare
  · obtain ⟨o, es, ep, ho, r⟩ := hm
    exact ⟨o, es, ep, k _ o (fun z => (hf _ z).2.1 rfl) ho, r⟩
  · by_cases hb : b = a
    · subst hb
      rw [upd_same] at e
      cases e
      exact new
    · rw [upd_ne hb] at e
      refine (I.hok b u e).stay (fun c v hc q => k c v ?_ q) (fun c q => by rw [upd_ne (ne_of_none q hn)]; exact q) fun c xs q => by rw [upd_ne (ne_of_none q hn)]; exact q
      rcases hc with z | z
      · rw [z]; exact nit b u e
      · exact nit c _ z
end

/-! ### enumerate of a list, its first number st -/
def Ite (K : PySem.W.Frag) (a : Addr) (st : Nat) : It :=
  ⟨fun i H => ∃ xs x, SqL K H a xs ∧ xs[i]? = some x, fun i H v H' => ∃ r x, v = .ref r ∧ H r = none ∧ (∀ xs, SqL K H a xs → xs[i]? = some x) ∧ H' = upd H r (.tup [.int ((st + i : Nat) : Int), x]), fun i H => ∃ xs, SqL K H a xs ∧ xs.length ≤ i⟩
/-- the places counted from st on -/
theorem draws_from {prog : Program} {w : World} {A : Around} (hh : A.handled = none) (it l : Addr) (hne : l ≠ it) (items : Array Value) (st : Nat) :
    Draws prog w A it [it, l] (st + items.size) (fun i v => items[i - st]? = some v) (fun i h => st ≤ i ∧ h.IsListIter it l (i - st) ∧ h.IsList l items) where
  live := fun _ _ x => let ⟨o, ho, _⟩ := x.2.1; ⟨o, ho⟩
  frame := fun _ _ _ x hk => ⟨x.1, x.2.1.at fun o e => hk it (by simp) o e, x.2.2.at fun o e => hk l (by simp) o e⟩
  item := fun i s Q E hi x hQ => by
    have hlt : i - st < items.size := by have := x.1; omega
    refine wpAny_nextOf_list_item x.2.1 x.2.2 (x := items[i - st]) (by simp [hlt]) fun h' hit' hs' => ?_
    have e : i - st + 1 = i + 1 - st := by have := x.1; omega
    rw [e] at hit'
    exact hQ _ h' s.toks (by simp [hlt]) ⟨Nat.le_succ_of_le x.1, hit', x.2.2.extBut hs'.extBut hne⟩ hs'
  done := fun s Q E x hE => wpAny_nextOf_list_end hh x.2.1 x.2.2 (by simp) hE
theorem turn_enum {P : Program} {w : World} {K : PySem.W.Frag} {elts : List Expr} {k : Nat} {pos : Pos} (a e it : Addr) (hei : e ≠ it) (hae : a ≠ e) (hai : a ≠ it) (st : Nat) :
    Turn P w K (.Tuple elts k pos) (Ite K a st) [e, it] e (fun i h => (∃ old, IsEnum h e it ((st + i : Nat) : Int) old) ∧ h.IsListIter it a i) where
  mem := by simp
  obj := fun i h x b hb => by
    obtain ⟨⟨old, he⟩, o, ho, c, d⟩ := x
    rcases List.mem_cons.mp hb with rfl | hb
    · exact ⟨_, he, fun v z => by
        have z' : Data.fields _ = Data.cell v := z
        cases z'⟩
    · have e' : b = it := by simpa using hb
      subst e'
      exact ⟨o, ho, fun v z => by rw [d] at z; cases z⟩
  keep := fun i h h' x kk => ⟨let ⟨old, he⟩ := x.1; ⟨old, kk e (by simp) _ he⟩, x.2.at fun o ho => kk it (by simp) o ho⟩
  item := by
    intro X hP hw hK hc i pins s σ H E I hf x hg
    subst hP hw hK
    obtain ⟨xs, v, hq, hx⟩ := hg
    obtain ⟨its, rv, p, hz⟩ := I.list hq
    obtain ⟨u, hu, ru⟩ := rv.get hx
    obtain ⟨⟨old, he⟩, hit⟩ := x
    have hi : i < its.length := (List.getElem?_eq_some_iff.mp hu).1
    have D := draws_from (prog := X.prog) (w := X.w) (A := X.A.in1) (I.ok.hd hc) it a hai its.toArray st
    have hn0 : H s.heap.objs.size = none := I.fresh
    have helt : e < s.heap.objs.size := Heap.lt_size he
    have hilt : it < s.heap.objs.size := by obtain ⟨_, y, _⟩ := id hit; exact Heap.lt_size y
    refine wpAny_pyNext_enum_itemD (i := st + i) D he ⟨Nat.le_add_right _ _, by rw [Nat.add_sub_cancel_left]; exact hit, p.isList⟩ (by simp; omega) hei (by simp [hei, Ne.symm hae]) fun y h1 tk hy ho st1 hT hsz hk => ?_
    rw [Nat.add_sub_cancel_left] at hy
    have ey : y = u := by
      have : its[i]? = some y := by simpa using hy
      rw [hu] at this
      exact (Option.some.inj this).symm
    subst ey
    refine ⟨_, rfl, wpAny_letOwnedTupleGo_enum ho fun h2 he2 hs2 => ?_⟩
    have hT2 : h2.get? s.heap.objs.size = some { cls := .type "tuple", data := .seq #[.int ((st + i : Nat) : Int) tk, y] } := (hs2.2 _ (Nat.ne_of_gt helt)).trans hT
    have I2 : Inv X pins σ (upd H s.heap.objs.size (.tup [.int ((st + i : Nat) : Int), v])) { s with heap := h2, toks := tk + 1 } :=
      I.turnedNew (ch := [e, it]) (fun b u hb q => (hs2.2 b fun z => hb (by simp [z])).trans (hk b u (fun z => hb (by simp [z])) (fun z => hb (by simp [z])) q)) hf (Nat.le_refl _)
        ⟨by show 2 ≤ sizeLine; rw [sizeLine_eq]; omega, [.int ((st + i : Nat) : Int) tk, y], .cons ⟨_, rfl⟩ (.cons ru .nil), _, hT2, rfl, 0, rfl⟩
    refine ⟨.ref s.heap.objs.size, _, I2, rfl, ⟨_, v, rfl, hn0, fun ys hy => by rw [I.list_inj hy hq]; exact hx, rfl⟩, ⟨⟨y, ?_⟩, ?_⟩, fun b hb => ?_⟩
    · have e1 : ((st + i : Nat) : Int) + 1 = ((st + (i + 1) : Nat) : Int) := by omega
      rw [← e1]
      exact he2
    · have hl1 := st1.2.1
      have e2 : st + i + 1 - st = i + 1 := by omega
      rw [e2] at hl1
      exact hl1.at fun o q => (hs2.2 it hei.symm).trans q
    · rw [upd_ne ?_]
      · exact (hf b hb).1
      · rcases List.mem_cons.mp hb with rfl | hb
        · exact Nat.ne_of_lt helt
        · have : b = it := by simpa using hb
          subst this
          exact Nat.ne_of_lt hilt
  done := by
    intro X hP hw hK hc i pins s σ H E I hf x hg
    subst hP hw hK
    obtain ⟨xs, hq, hx⟩ := hg
    obtain ⟨its, rv, p, hz⟩ := I.list hq
    obtain ⟨⟨old, he⟩, hit⟩ := x
    have hl := rv.length
    have hT : s.TypeIs (.ref e) "enumerate" := ⟨_, he, rfl⟩
    unfold pyNext
    refine wpAny_bind (wpAny_attempt (wpAny_callSpecial?_slot (name := Str.ofString "__next__") hT PySem.F.slot_enumerate_next (wpAny_call_entry PySem.F.slot_enumerate_next hT PySem.F.entry_enumerate_next ?_ (PySem.F.args_enumerate_next_1 _))))
    show wpAny _ _ (field (.ref e) 2 >>= _) _ _ _
    refine wpAny_bind (wpAny_field he rfl (x := .ref it) rfl ?_)
    refine wpAny_bind (wpAny_nextOf_list_end (I.ok.hd hc) hit p.isList (by simp; omega) fun h' x he' hx' => ?_)
    obtain ⟨o, ho, hc'⟩ := hx'
    refine wpAny_bind (wpAny_isInstance (T := "StopIteration") (b := true) ⟨o, ho, hc'⟩ isSubtype_stop ?_)
    exact wpAny_pure ⟨rfl, I.turnedL (t' := s.toks) (ch := [e, it]) (fun b u hb q => he' b u (fun z => hb (by simp [z])) q) hf⟩
  self := fun _ _ _ _ _ x h => let ⟨_, he⟩ := x.1; wpAny_pyIter_enum he h
section
variable {X : Cx} {elts : List Expr} {k : Nat} {tpos : Pos}
def iEnum (K : PySem.W.Frag) (ta : TA) : TI := fun σ H R => ta σ H fun vs H1 => ∃ a, vs = [.ref a] ∧ (∃ xs, SqL K H1 a xs) ∧ R (Ite K a 0) H1
theorem pi_enum {l : Expr} {ta : TA} {p pos : Pos} (hg : Gl X "enumerate") (hm : X.mg "enumerate" = none) (ha : PA X [l] ta) (hs : starEach [l] X.env = [(false, eval l X.env)] := by rfl) :
    PI X (.Tuple elts k tpos) (.Call (.Name "enumerate" p) [l] [] pos) (iEnum X.K ta) := by
  intro pins s σ H R I h
  refine Call_ (ld_blt I hg hm boot_enumerate (PyProof.Rows.callWith_type1 (thn (ha pos pins s σ H _ I h) fun us s1 ⟨vs, H1, I1, r1, q1⟩ => ?_) hs rfl))
  obtain ⟨a, e, ⟨xs, hq⟩, q⟩ := q1
  subst e
  obtain ⟨u, rfl, ru⟩ := vals1 r1
  cases (show u = Value.ref a from ru)
  obtain ⟨its, rv, pl, hz⟩ := I1.list hq
  have hlt : a < s1.heap.objs.size := by obtain ⟨_, y, _⟩ := pl.isList; exact Heap.lt_size y
  refine call_enumerate_list pl.isList fun h' he hit hsz hk => ?_
  refine wpAny_pyIter_enum he ?_
  have I2 : Inv X pins σ H1 { s1 with heap := h' } := I1.kept (t' := s1.toks) hk
  refine ⟨_, [s1.heap.objs.size + 1, s1.heap.objs.size], _, _, H1, rfl, I2, turn_enum a (s1.heap.objs.size + 1) s1.heap.objs.size (Nat.succ_ne_self _) (Nat.ne_of_lt (Nat.lt_succ_of_lt hlt)) (Nat.ne_of_lt hlt) 0, ⟨⟨_, he⟩, hit⟩, fun b hb => ?_, q⟩
  rcases List.mem_cons.mp hb with rfl | hb
  · exact I1.fpOk (Nat.le_succ _) (I1.hok.fresh (Nat.le_succ _))
  · have : b = s1.heap.objs.size := by simpa using hb
    subst this
    exact I1.fpOk (Nat.le_refl _) (I1.hok.fresh (Nat.le_refl _))
theorem piK_enum {K : PySem.W.Frag} {l : Expr} {ta : TA} {p pos : Pos} (hK : X.K = K) (hg : Gl X "enumerate") (hm : X.mg "enumerate" = none) (ha : PA X [l] ta) (hs : starEach [l] X.env = [(false, eval l X.env)] := by rfl) :
    PI X (.Tuple elts k tpos) (.Call (.Name "enumerate" p) [l] [] pos) (iEnum K ta) := by subst hK; exact pi_enum hg hm ha hs
end
/-- over a list that the body leaves as it is -/
theorem for_enum {K : PySem.W.Frag} {a : Addr} {st : Nat} {xs : List V} {g : TG} {tb : TS} {D : Ends} {σ : St} {H : Hp} (Pv : Nat → St → Hp → Prop) (h0 : Pv 0 σ H) (hl : ∀ i σ H, i ≤ xs.length → Pv i σ H → SqL K H a xs)
    (hs : ∀ i x σ H r, xs[i]? = some x → Pv i σ H → H r = none → g (.ref r) σ (upd H r (.tup [.int ((st + i : Nat) : Int), x])) fun σ2 H2 => tb { D with nx := Pv (i + 1), ct := Pv (i + 1), bk := D.nx } σ2 H2) (hd : ∀ σ H, Pv xs.length σ H → D.nx σ H) :
    ∃ W : Nat → Nat → St → Hp → Prop, (∃ m, W 0 m σ H) ∧ ∀ i m σ H, W i m σ H →
      ((Ite K a st).stop i H ∧ D.nx σ H) ∨ ((Ite K a st).go i H ∧ ∃ N : St → Hp → Prop, (∀ σ' H', N σ' H' → ∃ m', m' < m ∧ W (i + 1) m' σ' H') ∧ ∀ x H', (Ite K a st).yld i H x H' → g x σ H' fun σ2 H2 => tb { D with nx := N, ct := N, bk := D.nx } σ2 H2) := by
  refine ⟨fun i m σ H => m = xs.length - i ∧ i ≤ xs.length ∧ Pv i σ H, ⟨xs.length, by simp, Nat.zero_le _, h0⟩, ?_⟩
  rintro i m σ H ⟨rfl, hi, p⟩
  have q := hl i σ H hi p
  by_cases hlt : i < xs.length
  · refine .inr ⟨⟨xs, xs[i], q, by simp [hlt]⟩, Pv (i + 1), fun σ' H' p' => ⟨xs.length - (i + 1), by omega, rfl, hlt, p'⟩, fun v H' y => ?_⟩
    obtain ⟨r, x, e1, hr, hx, e2⟩ := y
    subst e1 e2
    exact hs i x σ _ r (hx xs q) p hr
  · have e : i = xs.length := by omega
    subst e
    exact .inl ⟨⟨xs, q, Nat.le_refl _⟩, hd σ H p⟩
theorem comp_enum {K : PySem.W.Frag} {a D : Addr} {st0 : Nat} {xs : List V} {st : St} {g : TG} {tif : TT} {te : TE} {H1 : Hp} {Q : VK} (Pv : Nat → List V → Hp → Prop) (h0 : Pv 0 [] (upd H1 D (.lst [])))
    (hl : ∀ i ys H2, H2 D = some (.lst ys) → Pv i ys H2 → SqL K H2 a xs)
    (hs : ∀ i m x ys H2 r, m = xs.length - i → i < xs.length → xs[i]? = some x → H2 D = some (.lst ys) → ys.length ≤ i → Pv i ys H2 → H2 r = none → g (.ref r) st (upd H2 r (.tup [.int ((st0 + i : Nat) : Int), x])) fun σ3 H3 => tif σ3 H3 fun b H4 =>
      if b = true then te σ3 H4 fun y H5 => ∃ ys, H5 D = some (.lst ys) ∧ ys.length < sizeLine ∧ ∃ m', m' < m ∧ CW xs.length D Pv (i + 1) m' (upd H5 D (.lst (ys ++ [y]))) else ∃ m', m' < m ∧ CW xs.length D Pv (i + 1) m' H4)
    (hd : ∀ ys H2, H2 D = some (.lst ys) → Pv xs.length ys H2 → Q (.ref D) H2) :
    compW (Ite K a st0) D st g tif te Q H1 := by
  refine ⟨CW xs.length D Pv, ⟨xs.length, by simp, Nat.zero_le _, [], upd_same, Nat.le_refl _, h0⟩, ?_⟩
  rintro i m H2 ⟨hm, hi, ys, hy, hlen, p⟩
  have q := hl i ys H2 hy p
  by_cases hlt : i < xs.length
  · refine .inr ⟨⟨xs, xs[i], q, by simp [hlt]⟩, fun v H' y => ?_⟩
    obtain ⟨r, x, e1, hr, hx, e2⟩ := y
    subst e1 e2
    exact hs i m x ys _ r hm hlt (hx xs q) hy hlen p hr
  · have e : i = xs.length := by omega
    subst e
    exact .inl ⟨⟨xs, q, Nat.le_refl _⟩, hd ys H2 hy p⟩

/-! ### reversed of a list -/
def Itv (K : PySem.W.Frag) (a : Addr) (n : Nat) : It :=
  ⟨fun i H => i < n ∧ ∃ xs x, SqL K H a xs ∧ xs[n - 1 - i]? = some x, fun i H v H' => H' = H ∧ ∀ xs, SqL K H a xs → xs[n - 1 - i]? = some v, fun i H => i = n⟩
theorem turn_rev {P : Program} {w : World} {K : PySem.W.Frag} {tg : Expr} (a it : Addr) (n : Nat) : Turn P w K tg (Itv K a n) [it] it (fun i h => h.IsRevIter it a ((n : Int) - 1 - (i : Int))) where
  mem := by simp
  obj := fun i h st b hb => by
    have e : b = it := by simpa using hb
    subst e
    obtain ⟨o, e, c, d⟩ := st
    exact ⟨o, e, fun v z => by rw [d] at z; cases z⟩
  keep := fun i h h' st k => st.at fun o e => k it (by simp) o e
  item := by
    intro X hP hw hK hc i pins s σ H E I hf st hg
    subst hP hw hK
    obtain ⟨hin, xs, x, hq, hx⟩ := hg
    obtain ⟨its, rv, p, hz⟩ := I.list hq
    obtain ⟨u, hu, ru⟩ := rv.get hx
    obtain ⟨f0, f1, f2, f3, f4, f5⟩ := hf it (by simp)
    have e1 : (n : Int) - 1 - (i : Int) = ((n - 1 - i : Nat) : Int) := by omega
    rw [e1] at st
    refine wpAny_pyNext_rev_item st p.isList (x := u) (by simpa using hu) fun h' st' sb => ?_
    have I1 : Inv X pins σ H { s with heap := h' } := I.turned (t' := s.toks) (fun b o hb e => (sb.2 b hb).trans e) f0 f1 f3 f4 f5
    obtain ⟨o, e, c, d⟩ := id st'
    refine ⟨u, rfl, go_of (s := { s with heap := h' }) e c d (by decide) ⟨x, H, I1, ru, ⟨rfl, fun ys hy => by rw [I.list_inj hy hq]; exact hx⟩, ?_, fun b hb => (hf b hb).1⟩⟩
    have e2 : ((n - 1 - i : Nat) : Int) - 1 = (n : Int) - 1 - ((i + 1 : Nat) : Int) := by omega
    rw [e2] at st'
    exact st'
  done := by
    intro X hP hw hK hc i pins s σ H E I hf st hg
    subst hP hw hK
    obtain ⟨f0, f1, f2, f3, f4, f5⟩ := hf it (by simp)
    have hg' : i = n := hg
    have e1 : (n : Int) - 1 - (i : Int) = -1 := by omega
    rw [e1] at st
    exact wpAny_pyNext_rev_end (I.ok.hd hc) st fun h' eb => ⟨rfl, I.turned (t' := s.toks) (fun b o hb e => eb b o hb e) f0 f1 f3 f4 f5⟩
  self := fun _ _ _ _ _ st h => wpAny_pyIter_revIter st h
section
variable {X : Cx} {tg : Expr}
def iRev (K : PySem.W.Frag) (ta : TA) : TI := fun σ H R => ta σ H fun vs H1 => ∃ a xs, vs = [.ref a] ∧ SqL K H1 a xs ∧ R (Itv K a xs.length) H1
theorem pi_rev {l : Expr} {ta : TA} {p pos : Pos} (hg : Gl X "reversed") (hm : X.mg "reversed" = none) (ha : PA X [l] ta) (hs : starEach [l] X.env = [(false, eval l X.env)] := by rfl) :
    PI X tg (.Call (.Name "reversed" p) [l] [] pos) (iRev X.K ta) := by
  intro pins s σ H R I h
  refine Call_ (ld_blt I hg hm boot_reversed (PyProof.Rows.callWith_type1 (thn (ha pos pins s σ H _ I h) fun us s1 ⟨vs, H1, I1, r1, q1⟩ => ?_) hs rfl))
  obtain ⟨a, xs, e, hq, q⟩ := q1
  subst e
  obtain ⟨u, rfl, ru⟩ := vals1 r1
  cases (show u = Value.ref a from ru)
  obtain ⟨its, rv, pl, hz⟩ := I1.list hq
  refine call_reversed_list pl.isList ?_
  have hit : (s1.heap.push (revObj a ((its.toArray.size : Int) - 1))).IsRevIter s1.heap.objs.size a ((xs.length : Int) - 1 - ((0 : Nat) : Int)) := by
    refine ⟨_, Heap.get?_push_size _ rfl, rfl, ?_⟩
    rw [rv.length]
    simp [revObj]
  refine wpAny_pyIter_revIter (s := { s1 with heap := s1.heap.push (revObj a ((its.toArray.size : Int) - 1)) }) hit ?_
  refine ⟨_, [s1.heap.objs.size], _, _, H1, rfl, I1.kept (t' := s1.toks) fun b o e => Heap.get?_push_of_some _ e, turn_rev a s1.heap.objs.size xs.length, hit, fun b hb => ?_, q⟩
  have e : b = s1.heap.objs.size := by simpa using hb
  subst e
  exact I1.fpOk (Nat.le_refl _) (I1.hok.fresh (Nat.le_refl _))
theorem piK_rev {K : PySem.W.Frag} {l : Expr} {ta : TA} {p pos : Pos} (hK : X.K = K) (hg : Gl X "reversed") (hm : X.mg "reversed" = none) (ha : PA X [l] ta) (hs : starEach [l] X.env = [(false, eval l X.env)] := by rfl) :
    PI X tg (.Call (.Name "reversed" p) [l] [] pos) (iRev K ta) := by subst hK; exact pi_rev hg hm ha hs
end
theorem for_rev {K : PySem.W.Frag} {a : Addr} {xs : List V} {g : TG} {tb : TS} {D : Ends} {σ : St} {H : Hp} (Pv : Nat → St → Hp → Prop) (h0 : Pv 0 σ H) (hl : ∀ i σ H, i ≤ xs.length → Pv i σ H → SqL K H a xs)
    (hs : ∀ i x σ H, i < xs.length → xs[xs.length - 1 - i]? = some x → Pv i σ H → g x σ H fun σ2 H2 => tb { D with nx := Pv (i + 1), ct := Pv (i + 1), bk := D.nx } σ2 H2) (hd : ∀ σ H, Pv xs.length σ H → D.nx σ H) :
    ∃ W : Nat → Nat → St → Hp → Prop, (∃ m, W 0 m σ H) ∧ ∀ i m σ H, W i m σ H →
      ((Itv K a xs.length).stop i H ∧ D.nx σ H) ∨ ((Itv K a xs.length).go i H ∧ ∃ N : St → Hp → Prop, (∀ σ' H', N σ' H' → ∃ m', m' < m ∧ W (i + 1) m' σ' H') ∧ ∀ x H', (Itv K a xs.length).yld i H x H' → g x σ H' fun σ2 H2 => tb { D with nx := N, ct := N, bk := D.nx } σ2 H2) := by
  refine ⟨fun i m σ H => m = xs.length - i ∧ i ≤ xs.length ∧ Pv i σ H, ⟨xs.length, by simp, Nat.zero_le _, h0⟩, ?_⟩
  rintro i m σ H ⟨rfl, hi, p⟩
  have q := hl i σ H hi p
  by_cases hlt : i < xs.length
  · have hj : xs.length - 1 - i < xs.length := by omega
    refine .inr ⟨⟨hlt, xs, xs[xs.length - 1 - i], q, by simp [hj]⟩, Pv (i + 1), fun σ' H' p' => ⟨xs.length - (i + 1), by omega, rfl, hlt, p'⟩, fun x H' y => ?_⟩
    obtain ⟨e, y⟩ := y
    subst e
    exact hs i x σ _ hlt (y xs q) p
  · have e : i = xs.length := by omega
    subst e
    exact .inl ⟨rfl, hd σ H p⟩

/-! ### reversed of a range: hi - 1, hi - 2, .. lo -/
def Itd (top : Int) (n : Nat) : It := ⟨fun i _ => i < n, fun i H x H' => H' = H ∧ x = .int (top - i), fun i _ => n ≤ i⟩
theorem turn_down {P : Program} {w : World} {K : PySem.W.Frag} {tg : Expr} (it : Addr) (top : Int) (n : Nat) : Turn P w K tg (Itd top n) [it] it (fun i h => IsRangeIter h it (top + (i : Nat) * (-1)) ((n : Int) - (i : Nat)) (-1)) where
  mem := by simp
  obj := fun i h st b hb => by
    have e : b = it := by simpa using hb
    subst e
    exact ⟨_, st, fun v z => by
      have z' : Data.fields _ = Data.cell v := z
      cases z'⟩
  keep := fun i h h' st k => k it (by simp) _ st
  item := by
    intro X hP hw hK hc i pins s σ H E I hf st hg
    subst hP hw hK
    obtain ⟨f0, f1, f2, f3, f4, f5⟩ := hf it (by simp)
    have W := Walks.range (prog := X.prog) (w := X.w) (I.ok.hd hc) it top (-1) n
    refine W.item i s _ _ hg st fun v h' tk hv st' kk => ?_
    obtain ⟨t, rfl⟩ := hv
    have I1 : Inv X pins σ H { s with heap := h', toks := tk } := I.turned (fun b o hb e => kk b o (by simpa using hb) e) f0 f1 f3 f4 f5
    refine ⟨_, rfl, go_of (s := { s with heap := h', toks := tk }) (n := "range_iterator") st' rfl rfl (by decide) ⟨.int (top - i), H, I1, ⟨t, ?_⟩, ⟨rfl, rfl⟩, st', fun b hb => (hf b hb).1⟩⟩
    have e : top + (i : Int) * (-1) = top - (i : Int) := by omega
    rw [e]
  done := by
    intro X hP hw hK hc i pins s σ H E I hf st hg
    subst hP hw hK
    obtain ⟨f0, f1, f2, f3, f4, f5⟩ := hf it (by simp)
    exact wpAny_pyNext_range_end (I.ok.hd hc) st (by have : n ≤ i := hg; omega) fun h' eb => ⟨rfl, I.turned (t' := s.toks) (fun b o hb e => eb b o hb e) f0 f1 f3 f4 f5⟩
  self := fun _ _ _ _ _ st h => wpAny_pyIter_rangeiter st h
theorem rsize0 (hi : Int) : Builtin.Range.rangeSize 0 hi 1 = if 0 < hi then hi else 0 := by
  rw [rangeSize_one]
  by_cases h : 0 < hi
  · rw [if_pos h, if_pos h]; omega
  · rw [if_neg h, if_neg h]
theorem sub_ri_reversed : isSubtype (.type "range_iterator") (.type "reversed") = pure false := by rw [isSubtype_type]; kernel_rfl
theorem range_rev_meets (r : Addr) (a b c : Int) (t u v : Tok) (hc0 : ¬ (!(Builtin.Range.rangeFitsLong a && Builtin.Range.rangeFitsLong b && Builtin.Range.rangeFitsLong c && Builtin.Range.rangeFitsLong (-c) && Builtin.Range.rangeFitsLong (a - c) && Builtin.Range.rangeFitsLong (Builtin.Range.rangeSize a b c))) = true) :
    Meets (Builtin.«range.__reversed__» ⟨[.ref r], []⟩) (fun _ R s => s.heap.get? r = some { cls := .type "range", dict := none, data := .fields #[.int a t, .int b u, .int c v], slots := #[] } ∧
      R (.ok (.ret (Value.ref s.heap.objs.size))) { s with heap := s.heap.push { cls := Value.type (if (Builtin.Range.rangeFitsLong a && Builtin.Range.rangeFitsLong b && Builtin.Range.rangeFitsLong c && Builtin.Range.rangeFitsLong (-c) && Builtin.Range.rangeFitsLong (a - c) && Builtin.Range.rangeFitsLong (Builtin.Range.rangeSize a b c)) = true then "range_iterator" else "longrange_iterator"), data := Data.fields #[rawInt (a + (Builtin.Range.rangeSize a b c - 1) * c), rawInt (Builtin.Range.rangeSize a b c), rawInt (-c)] }, toks := s.toks }) :=
  .of_wp fun prog w A R s h => by obtain ⟨hp, g, d, tk, os⟩ := s; obtain ⟨hl, h⟩ := h; wp_walk; exact ⟨_, rfl, h⟩
section
variable {prog : Program} {w : World} {A : Around} {E : Value → Shared → Prop} {s : Shared}
theorem fits62 {x : Int} (h1 : -(2 ^ 62) - 2 ≤ x) (h2 : x ≤ 2 ^ 62 + 2) : Builtin.Range.rangeFitsLong x = true := by
  unfold Builtin.Range.rangeFitsLong
  simp only [Bool.and_eq_true, decide_eq_true_eq]
  omega
theorem call_range_rev {r : Addr} {hi : Int} {t u v : Tok} {Q : Value → Shared → Prop} (hr : IsRange s.heap r 0 hi 1 t u v) (h3 : -(2 ^ 62) ≤ hi) (h4 : hi < 2 ^ 62)
    (h : Q (.ref s.heap.objs.size) { s with heap := s.heap.push { cls := .type "range_iterator", data := .fields #[rawInt (0 + ((if 0 < hi then hi else 0) - 1) * 1), rawInt (if 0 < hi then hi else 0), rawInt (-1)] } }) :
    wpAny (model prog w) A (call (.builtin "range.__reversed__") [.ref r]) Q E s := by
  have hs : (Builtin.Range.rangeFitsLong 0 && Builtin.Range.rangeFitsLong hi && Builtin.Range.rangeFitsLong 1 && Builtin.Range.rangeFitsLong (-1) && Builtin.Range.rangeFitsLong (0 - 1) && Builtin.Range.rangeFitsLong (Builtin.Range.rangeSize 0 hi 1)) = true := by
    rw [rsize0]
    simp only [Bool.and_eq_true]
    refine ⟨⟨⟨⟨⟨fits62 (by decide) (by decide), fits62 (by omega) (by omega)⟩, fits62 (by decide) (by decide)⟩, fits62 (by decide) (by decide)⟩, fits62 (by decide) (by decide)⟩, ?_⟩
    split
    · exact fits62 (by omega) (by omega)
    · exact fits62 (by decide) (by decide)
  refine call_meets PySem.F.slot_range_reversed ⟨_, hr, rfl⟩ PySem.F.entry_range_reversed (PySem.F.args_range_reversed_1 _) (range_rev_meets r 0 hi 1 t u v (by rw [hs]; simp)) ⟨hr, ?_⟩
  rw [hs, rsize0]
  simp only [if_true]
  exact h
theorem code_revrange_new {r : Addr} {hi : Int} {t u v : Tok} {Q1 : Value → Shared → Prop} (hr : IsRange s.heap r 0 hi 1 t u v) (h3 : -(2 ^ 62) ≤ hi) (h4 : hi < 2 ^ 62)
    (h : Q1 (.ref s.heap.objs.size) { s with heap := s.heap.push { cls := .type "range_iterator", data := .fields #[rawInt (0 + ((if 0 < hi then hi else 0) - 1) * 1), rawInt (if 0 < hi then hi else 0), rawInt (-1)] } }) :
    codeAny (model prog w) A (.call (.builtin "reversed.__new__") ⟨[.type "reversed", .ref r], []⟩) (wants Q1 E) s := by
  have hT : s.TypeIs (.ref r) "range" := ⟨_, hr, rfl⟩
  refine codeAny_of_tree ?_
  show wpAny _ A.in1 (do checkBuiltinCall "reversed.__new__" ⟨[.type "reversed", .ref r], []⟩; again (.builtin "reversed.__new__" ⟨[.type "reversed", .ref r], []⟩)) _ _ s
  refine wpAny_bind (wpAny_of_eq (PySem.F.newCall_reversed_1 _) (wpAny_pure ⟨plainId_quiet PySem.F.plain_reversed_new _, codeAny_builtin PySem.F.entry_reversed_new ?_⟩))
  rw [Around.under_plainId PySem.F.plain_reversed_new _]
  unfold Builtin.«reversed.__new__»
  refine wpAny_bind (wpAny_of_eq (newClass_reversed _) ?_)
  try dsimp only
  refine wpAny_bind (wpAny_of_eq (a := ()) (by first | rfl | kernel_rfl) ?_)
  refine wpAny_bind (wpAny_of_eq (a := ()) (by first | rfl | kernel_rfl) ?_)
  try dsimp only
  refine wpAny_bind (wpAny_specialOf hT PySem.F.slot_range_reversed.lookup ?_)
  try dsimp only
  refine wpAny_bind (wpAny_of_eq (PySem.F.slot_range_reversed.bind _) ?_)
  try dsimp only
  have nn : ¬ ((Value.builtin "range.__reversed__" == Value.none) = true) := Bool.false_ne_true
  rw [if_neg nn]
  refine wpAny_bind (wpAny_rule ?_)
  refine wpAny_bind (m := runValue (.call (.builtin "range.__reversed__") ⟨[.ref r], []⟩)) (show wpAny _ _ (call (.builtin "range.__reversed__") [.ref r]) _ _ _ from call_range_rev hr h3 h4 ?_)
  first
  | exact wpAny_pure h
  | exact wpAny_bind (wpAny_pure (wpAny_pure h))
theorem call_reversed_range {r : Addr} {hi : Int} {t u v : Tok} {Q : Value → Shared → Prop} (hr : IsRange s.heap r 0 hi 1 t u v) (h3 : -(2 ^ 62) ≤ hi) (h4 : hi < 2 ^ 62)
    (h : Q (.ref s.heap.objs.size) { s with heap := s.heap.push { cls := .type "range_iterator", data := .fields #[rawInt (0 + ((if 0 < hi then hi else 0) - 1) * 1), rawInt (if 0 < hi then hi else 0), rawInt (-1)] } }) :
    wpAny (model prog w) A (call (.type "reversed") [.ref r]) Q E s := by
  refine callType_other (U := "range_iterator") (Q₁ := fun obj s₁ => obj = .ref s.heap.objs.size ∧ s₁ = { s with heap := s.heap.push { cls := .type "range_iterator", data := .fields #[rawInt (0 + ((if 0 < hi then hi else 0) - 1) * 1), rawInt (if 0 < hi then hi else 0), rawInt (-1)] } })
    (by decide +kernel) PySem.F.create_reversed ⟨_, _, PySem.F.mro_reversed⟩ PySem.F.made_reversed sub_ri_reversed (PySem.F.typeCall_reversed_1 _) (code_revrange_new hr h3 h4 ⟨rfl, rfl⟩) ?_
  rintro obj s1 ⟨rfl, rfl⟩
  exact ⟨⟨_, Heap.get?_push_size _ rfl, rfl⟩, h⟩
end
section
variable {X : Cx} {tg : Expr}
/-- range(n), as a value -/
def tRng (ta : TA) : TE := fun σ H Q => ta σ H fun vs H1 => ∃ j : Int, vs = [.int j] ∧ ∀ p, H1 p = none → Q (.ref p) (upd H1 p (.rng 0 j))
theorem pe_range {a : Expr} {ta : TA} {p pos : Pos} (hg : Gl X "range") (hm : X.mg "range" = none) (ha : PA X [a] ta) (hs : starEach [a] X.env = [(false, eval a X.env)] := by rfl) : PE X (.Call (.Name "range" p) [a] [] pos) (tRng ta) := by
  refine ⟨?_⟩
  intro pins s σ H Q I h
  refine Call_ (ld_blt I hg hm boot_range (PyProof.Rows.callWith_type1 (thn (ha pos pins s σ H _ I h) fun us s1 ⟨vs, H1, I1, r1, q1⟩ => ?_) hs rfl))
  obtain ⟨j, e, q⟩ := q1
  subst e
  obtain ⟨u, rfl, ru⟩ := vals1 r1
  obtain ⟨t, rfl⟩ := (show ∃ t, u = Value.int j t from ru)
  refine call_range_1 ?_
  exact ⟨.ref s1.heap.objs.size, _, I1.laid (o := .rng 0 j) (fun b o e => Heap.get?_push_of_some _ e) (Nat.le_refl _) ⟨_, _, _, Heap.get?_push_size _ rfl⟩, rfl, q _ I1.fresh⟩
def iRevR (ta : TA) : TI := fun σ H R => ta σ H fun vs H1 => ∃ a, ∃ n : Int, vs = [.ref a] ∧ H1 a = some (.rng 0 n) ∧ -(2 ^ 62) ≤ n ∧ n < 2 ^ 62 ∧ R (Itd (n - 1) n.toNat) H1
theorem pi_revR {l : Expr} {ta : TA} {p pos : Pos} (hg : Gl X "reversed") (hm : X.mg "reversed" = none) (ha : PA X [l] ta) (hs : starEach [l] X.env = [(false, eval l X.env)] := by rfl) :
    PI X tg (.Call (.Name "reversed" p) [l] [] pos) (iRevR ta) := by
  intro pins s σ H R I h
  refine Call_ (ld_blt I hg hm boot_reversed (PyProof.Rows.callWith_type1 (thn (ha pos pins s σ H _ I h) fun us s1 ⟨vs, H1, I1, r1, q1⟩ => ?_) hs rfl))
  obtain ⟨a, n, e, hq, h1, h2, q⟩ := q1
  subst e
  obtain ⟨u, rfl, ru⟩ := vals1 r1
  cases (show u = Value.ref a from ru)
  obtain ⟨t, u, v, hr⟩ := I1.hok a _ hq
  refine call_reversed_range hr h1 h2 ?_
  have en : ((n.toNat : Nat) : Int) = if 0 < n then n else 0 := by split <;> omega
  have hit : IsRangeIter (s1.heap.push { cls := .type "range_iterator", data := .fields #[rawInt (0 + ((if 0 < n then n else 0) - 1) * 1), rawInt (if 0 < n then n else 0), rawInt (-1)] }) s1.heap.objs.size (0 + ((if 0 < n then n else 0) - 1) * 1) (if 0 < n then n else 0) (-1) := Heap.get?_push_size _ rfl
  refine wpAny_pyIter_rangeiter (s := { s1 with heap := _ }) hit ?_
  by_cases hn : 0 < n
  · rw [if_pos hn] at en hit ⊢
    refine ⟨_, [s1.heap.objs.size], _, _, H1, rfl, I1.kept (t' := s1.toks) fun b o e => Heap.get?_push_of_some _ e, turn_down s1.heap.objs.size (n - 1) n.toNat, ?_, fun b hb => ?_, q⟩
    · have e1 : n - 1 + ((0 : Nat) : Int) * (-1) = 0 + (n - 1) * 1 := by omega
      have e2 : ((n.toNat : Nat) : Int) - ((0 : Nat) : Int) = n := by omega
      show IsRangeIter _ _ (n - 1 + ((0 : Nat) : Int) * (-1)) (((n.toNat : Nat) : Int) - ((0 : Nat) : Int)) (-1)
      rw [e1, e2]
      exact hit
    · have e : b = s1.heap.objs.size := by simpa using hb
      subst e
      exact I1.fpOk (Nat.le_refl _) (I1.hok.fresh (Nat.le_refl _))
  · rw [if_neg hn] at en hit ⊢
    have e0 : n.toNat = 0 := by omega
    rw [e0] at q
    have tr : Turn X.prog X.w X.K tg (Itd (n - 1) 0) [s1.heap.objs.size] s1.heap.objs.size (fun i h => IsRangeIter h s1.heap.objs.size (-1 + (i : Nat) * (-1)) (((0 : Nat) : Int) - (i : Nat)) (-1)) := by
      have T := turn_down (P := X.prog) (w := X.w) (K := X.K) (tg := tg) s1.heap.objs.size (-1) 0
      exact ⟨T.mem, T.obj, T.keep, fun X a b c d i pins s σ H E I hf st hg => absurd (show i < 0 from hg) (Nat.not_lt_zero _), T.done, T.self⟩
    refine ⟨_, [s1.heap.objs.size], _, _, H1, rfl, I1.kept (t' := s1.toks) fun b o e => Heap.get?_push_of_some _ e, tr, hit, fun b hb => ?_, q⟩
    have e : b = s1.heap.objs.size := by simpa using hb
    subst e
    exact I1.fpOk (Nat.le_refl _) (I1.hok.fresh (Nat.le_refl _))
end
theorem for_down {top : Int} {n : Nat} {g : TG} {tb : TS} {D : Ends} {σ : St} {H : Hp} (Pv : Nat → St → Hp → Prop) (h0 : Pv 0 σ H)
    (hs : ∀ i σ H, i < n → Pv i σ H → g (.int (top - i)) σ H fun σ2 H2 => tb { D with nx := Pv (i + 1), ct := Pv (i + 1), bk := D.nx } σ2 H2) (hd : ∀ σ H, Pv n σ H → D.nx σ H) :
    ∃ W : Nat → Nat → St → Hp → Prop, (∃ m, W 0 m σ H) ∧ ∀ i m σ H, W i m σ H →
      ((Itd top n).stop i H ∧ D.nx σ H) ∨ ((Itd top n).go i H ∧ ∃ N : St → Hp → Prop, (∀ σ' H', N σ' H' → ∃ m', m' < m ∧ W (i + 1) m' σ' H') ∧ ∀ x H', (Itd top n).yld i H x H' → g x σ H' fun σ2 H2 => tb { D with nx := N, ct := N, bk := D.nx } σ2 H2) := by
  refine ⟨fun i m σ H => m = n - i ∧ i ≤ n ∧ Pv i σ H, ⟨n, by simp, Nat.zero_le _, h0⟩, ?_⟩
  rintro i m σ H ⟨rfl, hi, p⟩
  by_cases hlt : i < n
  · refine .inr ⟨hlt, Pv (i + 1), fun σ' H' p' => ⟨n - (i + 1), by omega, rfl, hlt, p'⟩, fun x H' y => ?_⟩
    obtain ⟨e, y⟩ := y
    subst e y
    exact hs i σ _ hlt p
  · have e : i = n := by omega
    subst e
    exact .inl ⟨Nat.le_refl _, hd σ H p⟩
/-! ### while, without a look at how its test hangs on what follows -/
def WIn (tb : TS) (D : Ends) (Pv : St → Hp → Prop) (μ : St → Hp → Nat) (m : Nat) (σ : St) (H1 : Hp) : Prop :=
  ∃ N : St → Hp → Prop, (∀ σ' H', N σ' H' → ∃ m', m' < m ∧ (m' = μ σ' H' ∧ Pv σ' H')) ∧ tb { D with nx := N, ct := N, bk := D.nx } σ H1
theorem win {tb : TS} {D : Ends} {Pv : St → Hp → Prop} {μ : St → Hp → Nat} {m : Nat} {σ : St} {H1 : Hp} (h : tb { D with nx := fun σ' H' => Pv σ' H' ∧ μ σ' H' < m, ct := fun σ' H' => Pv σ' H' ∧ μ σ' H' < m, bk := D.nx } σ H1) : WIn tb D Pv μ m σ H1 :=
  ⟨_, fun σ' H' ⟨p, l⟩ => ⟨_, l, rfl, p⟩, h⟩
theorem while_in {c : TT} {tb : TS} {D : Ends} {σ : St} {H : Hp} (Pv : St → Hp → Prop) (μ : St → Hp → Nat) (h0 : Pv σ H)
    (hs : ∀ σ H, Pv σ H → c σ H fun b H1 => if b = true then WIn tb D Pv μ (μ σ H) σ H1 else D.nx σ H1) : tWhile c tb D σ H := by
  refine ⟨fun m σ H => m = μ σ H ∧ Pv σ H, ⟨_, rfl, h0⟩, ?_⟩
  rintro m σ H ⟨rfl, p⟩
  exact hs σ H p
/-- several ways meet: M is what each comes with (C is found by the first one) -/
theorem merge {C : St → Hp → Prop} {G : Prop} (M : St → Hp → Prop) (h1 : (∀ σ H, M σ H → C σ H) → G) (h2 : ∀ σ H, M σ H → C σ H) : G := h1 h2
end L2

set_option Elab.async false
set_option linter.all false
set_option maxRecDepth 100000
namespace L2
open PySem PySem.Spec PyProof.Rows
/-! ## polynomials as lists of whole numbers -/
def coef (f : List Int) (i : Nat) : Int := f.getD i 0
theorem coef_nil (i : Nat) : coef [] i = 0 := by simp [coef]
theorem coef_ge {f : List Int} {i : Nat} (h : f.length ≤ i) : coef f i = 0 := by
  unfold coef
  rw [List.getD_eq_getElem?_getD, List.getElem?_eq_none h]
  rfl
theorem coef_lt {f : List Int} {i : Nat} (h : i < f.length) : coef f i = f[i] := by
  unfold coef
  rw [List.getD_eq_getElem?_getD, List.getElem?_eq_getElem h]
  rfl
theorem coef_get {f : List Int} {i : Nat} {x : Int} (h : f[i]? = some x) : coef f i = x := by
  unfold coef
  rw [List.getD_eq_getElem?_getD, h]
  rfl
theorem ext_coef {f g : List Int} (hl : f.length = g.length) (h : ∀ i, i < f.length → coef f i = coef g i) : f = g := by
  refine List.ext_getElem hl fun i h1 h2 => ?_
  rw [← coef_lt h1, ← coef_lt h2]
  exact h i h1
theorem coef_map_range {n : Nat} {c : Nat → Int} {i : Nat} (h : i < n) : coef ((List.range n).map c) i = c i := by
  rw [coef_lt (by simpa using h)]
  simp
theorem coef_map_range' {n : Nat} {c : Nat → Int} (hc : ∀ i, n ≤ i → c i = 0) (i : Nat) : coef ((List.range n).map c) i = c i := by
  by_cases h : i < n
  · exact coef_map_range h
  · rw [coef_ge (by simp; omega), hc i (by omega)]
theorem coef_set {f : List Int} {k : Nat} {v : Int} (hk : k < f.length) (i : Nat) : coef (f.set k v) i = if i = k then v else coef f i := by
  unfold coef
  rw [List.getD_eq_getElem?_getD, List.getElem?_set]
  by_cases h : k = i
  · subst h
    simp [hk]
  · rw [if_neg h, if_neg (Ne.symm h), List.getD_eq_getElem?_getD]
theorem coef_take {f : List Int} {n i : Nat} (h : i < n) : coef (f.take n) i = coef f i := by
  unfold coef
  rw [List.getD_eq_getElem?_getD, List.getElem?_take, if_pos h, List.getD_eq_getElem?_getD]
theorem coef_take_ge {f : List Int} {n i : Nat} (h : n ≤ i) : coef (f.take n) i = 0 := coef_ge (by rw [List.length_take]; omega)
theorem coef_map {f : List Int} {g : Int → Int} (h0 : g 0 = 0) (i : Nat) : coef (f.map g) i = g (coef f i) := by
  by_cases h : i < f.length
  · rw [coef_lt (by simpa using h), coef_lt h]; simp
  · rw [coef_ge (by simp; omega), coef_ge (by omega), h0]
theorem coef_append {f g : List Int} (i : Nat) : coef (f ++ g) i = if i < f.length then coef f i else coef g (i - f.length) := by
  unfold coef
  rw [List.getD_eq_getElem?_getD, List.getElem?_append]
  split
  · rw [List.getD_eq_getElem?_getD]
  · rw [List.getD_eq_getElem?_getD]
theorem coef_replicate (n i : Nat) : coef (List.replicate n 0) i = 0 := by
  by_cases h : i < n
  · rw [coef_lt (by simpa using h)]; simp
  · exact coef_ge (by simp; omega)
theorem coef_pad (f : List Int) (n i : Nat) : coef (f ++ List.replicate n 0) i = coef f i := by
  rw [coef_append]
  split
  · rfl
  · rw [coef_replicate, coef_ge (by omega)]
/-- noughts behind left out -/
def tlen (f : List Int) : Nat → Nat
  | 0 => 0
  | n + 1 => if coef f n = 0 then tlen f n else n + 1
def trim (f : List Int) : List Int := f.take (tlen f f.length)
def Norm (f : List Int) : Prop := f = [] ∨ coef f (f.length - 1) ≠ 0
theorem tlen_le (f : List Int) : ∀ n, tlen f n ≤ n
  | 0 => Nat.le_refl _
  | n + 1 => by
    unfold tlen
    split
    · exact Nat.le_succ_of_le (tlen_le f n)
    · exact Nat.le_refl _
theorem tlen_top (f : List Int) : ∀ n, tlen f n = 0 ∨ coef f (tlen f n - 1) ≠ 0
  | 0 => .inl rfl
  | n + 1 => by
    unfold tlen
    split
    · exact tlen_top f n
    · rename_i h; exact .inr h
theorem tlen_zero (f : List Int) : ∀ n i, tlen f n ≤ i → i < n → coef f i = 0
  | 0, i, _, h => absurd h (Nat.not_lt_zero _)
  | n + 1, i, h1, h2 => by
    unfold tlen at h1
    split at h1
    · rename_i h
      by_cases e : i = n
      · rw [e]; exact h
      · exact tlen_zero f n i h1 (by omega)
    · omega
theorem trim_length (f : List Int) : (trim f).length = tlen f f.length := by
  unfold trim
  rw [List.length_take, Nat.min_eq_left (tlen_le f _)]
theorem coef_trim (f : List Int) (i : Nat) : coef (trim f) i = coef f i := by
  unfold trim
  by_cases h : i < tlen f f.length
  · exact coef_take h
  · rw [coef_take_ge (by omega)]
    by_cases h2 : i < f.length
    · exact (tlen_zero f _ i (by omega) h2).symm
    · exact (coef_ge (by omega)).symm
theorem norm_trim (f : List Int) : Norm (trim f) := by
  rcases tlen_top f f.length with h | h
  · left
    have : (trim f).length = 0 := by rw [trim_length]; exact h
    exact List.length_eq_zero_iff.mp this
  · right
    rw [coef_trim, trim_length]
    exact h
/-- two without noughts behind are one where their terms are -/
theorem norm_ext {f g : List Int} (hf : Norm f) (hg : Norm g) (h : ∀ i, coef f i = coef g i) : f = g := by
  have key : ∀ {f g : List Int}, Norm f → (∀ i, coef f i = coef g i) → f.length ≤ g.length := by
    intro f g hf h
    rcases hf with rfl | hf
    · exact Nat.zero_le _
    · refine Classical.byContradiction fun hn => hf ?_
      rw [h]
      exact coef_ge (by omega)
  have hl : f.length = g.length := Nat.le_antisymm (key hf h) (key hg fun i => (h i).symm)
  exact ext_coef hl fun i _ => h i
theorem trim_ext {f g : List Int} (h : ∀ i, coef f i = coef g i) : trim f = trim g := norm_ext (norm_trim f) (norm_trim g) fun i => by rw [coef_trim, coef_trim, h]
theorem trim_norm {f : List Int} (h : Norm f) : trim f = f := norm_ext (norm_trim f) h fun i => coef_trim f i
theorem Norm.last {f : List Int} (h : Norm f) (hne : f ≠ []) : coef f (f.length - 1) ≠ 0 := by
  rcases h with h | h
  · exact absurd h hne
  · exact h
theorem norm_of_len {f : List Int} {n : Nat} (hl : f.length = n + 1) (h : coef f n ≠ 0) : Norm f := .inr (by rw [hl]; exact h)
/-! ### sums and products -/
def addc (f g : List Int) : List Int := (List.range (max f.length g.length)).map fun i => coef f i + coef g i
theorem coef_addc (f g : List Int) (i : Nat) : coef (addc f g) i = coef f i + coef g i :=
  coef_map_range' (fun i h => by rw [coef_ge (by omega), coef_ge (by omega)]; rfl) i
def padd (f g : List Int) : List Int := trim (addc f g)
theorem coef_padd (f g : List Int) (i : Nat) : coef (padd f g) i = coef f i + coef g i := by
  unfold padd
  rw [coef_trim, coef_addc]
theorem norm_padd (f g : List Int) : Norm (padd f g) := norm_trim _
/-- the sum of the terms of f below i, each times g, at power m -/
def rowS (f g : List Int) : Nat → Nat → Int
  | 0, _ => 0
  | i + 1, m => rowS f g i m + (if i ≤ m then coef f i * coef g (m - i) else 0)
def conv (f g : List Int) (m : Nat) : Int := rowS f g f.length m
/-- .. and of term i so far as the j-th of g -/
def cellS (f g : List Int) (i j m : Nat) : Int := rowS f g i m + (if i ≤ m ∧ m - i < j then coef f i * coef g (m - i) else 0)
theorem cellS_zero (f g : List Int) (i m : Nat) : cellS f g i 0 m = rowS f g i m := by
  unfold cellS
  rw [if_neg (by omega), Int.add_zero]
theorem cellS_end (f g : List Int) (i m : Nat) : cellS f g i g.length m = rowS f g (i + 1) m := by
  show _ = rowS f g i m + _
  unfold cellS
  congr 1
  by_cases h : i ≤ m
  · by_cases h2 : m - i < g.length
    · rw [if_pos ⟨h, h2⟩, if_pos h]
    · rw [if_neg (by omega), if_pos h, coef_ge (f := g) (by omega), Int.mul_zero]
  · rw [if_neg (by omega), if_neg h]
theorem cellS_step (f g : List Int) (i j m : Nat) : cellS f g i (j + 1) m = if m = i + j then cellS f g i j m + coef f i * coef g j else cellS f g i j m := by
  unfold cellS
  by_cases h : m = i + j
  · subst h
    have e : i + j - i = j := by omega
    rw [if_pos rfl, if_pos ⟨by omega, by omega⟩, if_neg (by omega), e]
    omega
  · rw [if_neg h]
    congr 1
    by_cases h1 : i ≤ m ∧ m - i < j
    · rw [if_pos h1, if_pos ⟨h1.1, by omega⟩]
    · rw [if_neg h1, if_neg (by omega)]
theorem rowS_beyond (f g : List Int) : ∀ (i m : Nat), f.length ≤ i → rowS f g i m = rowS f g f.length m
  | 0, m, h => by
    have : f.length = 0 := by omega
    rw [this]
  | i + 1, m, h => by
    by_cases e : f.length = i + 1
    · rw [e]
    · show rowS f g i m + _ = _
      rw [rowS_beyond f g i m (by omega), coef_ge (f := f) (i := i) (by omega)]
      simp
theorem rowS_zero (f g : List Int) : ∀ (i m : Nat), (∀ a, a < i → a ≤ m → coef f a * coef g (m - a) = 0) → rowS f g i m = 0
  | 0, m, _ => rfl
  | i + 1, m, h => by
    show rowS f g i m + _ = 0
    rw [rowS_zero f g i m fun a h1 h2 => h a (by omega) h2]
    by_cases hi : i ≤ m
    · rw [if_pos hi, h i (by omega) hi]; rfl
    · rw [if_neg hi]; rfl
theorem conv_beyond (f g : List Int) (m : Nat) (h : f.length + g.length ≤ m + 1) : conv f g m = 0 :=
  rowS_zero f g f.length m fun a h1 h2 => by rw [coef_ge (f := g) (by omega), Int.mul_zero]
theorem conv_top {f g : List Int} (hf : f ≠ []) (hg : g ≠ []) : conv f g (f.length + g.length - 2) = coef f (f.length - 1) * coef g (g.length - 1) := by
  have h1 : 0 < f.length := List.length_pos_iff.mpr hf
  have h2 : 0 < g.length := List.length_pos_iff.mpr hg
  obtain ⟨n, hn⟩ : ∃ n, f.length = n + 1 := ⟨f.length - 1, by omega⟩
  unfold conv
  rw [hn]
  show rowS f g n _ + _ = _
  rw [rowS_zero f g n _ fun a h3 h4 => by rw [coef_ge (f := g) (by omega), Int.mul_zero], if_pos (by omega)]
  have e1 : n + 1 + g.length - 2 - n = g.length - 1 := by omega
  have e2 : n + 1 - 1 = n := by omega
  rw [e1, e2, Int.zero_add]
def pmul (f g : List Int) : List Int := if f = [] ∨ g = [] then [] else (List.range (f.length + g.length - 1)).map (conv f g)
theorem coef_pmul (f g : List Int) (m : Nat) : coef (pmul f g) m = conv f g m := by
  unfold pmul
  by_cases h : f = [] ∨ g = []
  · rw [if_pos h, coef_nil]
    rcases h with rfl | rfl
    · rfl
    · exact (rowS_zero f [] f.length m fun a _ _ => by rw [coef_nil, Int.mul_zero]).symm
  · rw [if_neg h]
    refine coef_map_range' (fun i hi => conv_beyond f g i ?_) m
    have : 0 < f.length := List.length_pos_iff.mpr fun z => h (.inl z)
    omega
theorem norm_pmul {f g : List Int} (hf : Norm f) (hg : Norm g) : Norm (pmul f g) := by
  by_cases h : f = [] ∨ g = []
  · left; unfold pmul; rw [if_pos h]
  · have hf' : f ≠ [] := fun z => h (.inl z)
    have hg' : g ≠ [] := fun z => h (.inr z)
    have h1 : 0 < f.length := List.length_pos_iff.mpr hf'
    have h2 : 0 < g.length := List.length_pos_iff.mpr hg'
    right
    rw [coef_pmul]
    have e : (pmul f g).length - 1 = f.length + g.length - 2 := by
      unfold pmul
      rw [if_neg h, List.length_map, List.length_range]
      omega
    rw [e, conv_top hf' hg']
    exact Int.mul_ne_zero (hf.last hf') (hg.last hg')
/-! ### how great the terms are -/
def Bds (m : Nat) (f : List Int) : Prop := ∀ x ∈ f, Bd m x
theorem Bds.coef {m : Nat} {f : List Int} (h : Bds m f) (i : Nat) : Bd m (coef f i) := by
  by_cases hi : i < f.length
  · rw [coef_lt hi]; exact h _ (List.getElem_mem hi)
  · rw [coef_ge (by omega)]
    show Int.natAbs 0 < 2 ^ m
    exact Nat.pow_pos (by decide)
theorem Bds.mono {m n : Nat} {f : List Int} (h : Bds m f) (hmn : m ≤ n) : Bds n f := fun x hx => (h x hx).mono hmn
theorem bds_of {m : Nat} {f : List Int} (h : ∀ i, i < f.length → Bd m (coef f i)) : Bds m f := fun x hx => by
  obtain ⟨i, hi, rfl⟩ := List.getElem_of_mem hx
  rw [← coef_lt hi]
  exact h i hi
theorem Bds.trim {m : Nat} {f : List Int} (h : Bds m f) : Bds m (trim f) := fun x hx => h x (List.mem_of_mem_take hx)
theorem bd_zero (m : Nat) : Bd m 0 := Nat.pow_pos (by decide)
theorem Bds.rowS {m n : Nat} {f g : List Int} (hf : Bds m f) (hg : Bds n g) : ∀ (i k : Nat), Bd (m + n + i) (rowS f g i k)
  | 0, k => bd_zero _
  | i + 1, k => by
    have ih := Bds.rowS hf hg i k
    have h2 : Bd (m + n + i) (if i ≤ k then L2.coef f i * L2.coef g (k - i) else 0) := by
      split
      · exact ((hf.coef i).mul (hg.coef (k - i))).mono (by omega)
      · exact bd_zero _
    exact (ih.add h2).mono (by omega)
theorem Bds.pmul {m n : Nat} {f g : List Int} (hf : Bds m f) (hg : Bds n g) : Bds (m + n + f.length) (pmul f g) := bds_of fun i _ => by
  rw [coef_pmul]
  exact Bds.rowS hf hg _ _
theorem Bds.padd {m n : Nat} {f g : List Int} (hf : Bds m f) (hg : Bds n g) : Bds (max m n + 1) (padd f g) := bds_of fun i _ => by
  rw [coef_padd]
  exact (hf.coef i).add (hg.coef i)
/-! ### told lists -/
/-- a new list of whole numbers is told -/
def New (H : Hp) (Q : VK) (ns : List Int) : Prop := ∀ p H', Same H H' → H p = none → H' p = some (.lst (ns.map V.int)) → Q (.ref p) H'
theorem cutV_take (ns : List Int) (k : Nat) (h : k ≤ ns.length) : cutV (ns.map V.int) none (some (k : Int)) = (ns.take k).map V.int := by
  unfold cutV
  have e1 : HT.sIx (ns.map V.int).length 0 none = 0 := rfl
  have e2 : HT.sIx (ns.map V.int).length (ns.map V.int).length (some (k : Int)) = k := by
    rw [HT.sIx_nat, List.length_map]; omega
  rw [e1, e2]
  simp
theorem rep_zero (n : Nat) : (List.replicate n [V.int 0]).flatten = (List.replicate n (0 : Int)).map V.int := by
  induction n with
  | zero => rfl
  | succ n ih => rw [List.replicate_succ, List.flatten_cons, ih, List.replicate_succ]; rfl
theorem map_int_get {ns : List Int} {i : Nat} {x : V} (h : (ns.map V.int)[i]? = some x) : ∃ n, ns[i]? = some n ∧ x = .int n := by
  rw [List.getElem?_map] at h
  cases e : ns[i]? with
  | none => rw [e] at h; cases h
  | some n => rw [e] at h; exact ⟨n, rfl, (Option.some.inj h).symm⟩
theorem map_int_at {ns : List Int} {i : Nat} (h : i < ns.length) : (ns.map V.int)[i]? = some (.int (coef ns i)) := by
  rw [List.getElem?_map, List.getElem?_eq_getElem h, coef_lt h]
  rfl
theorem atI_int {ns : List Int} {i : Int} (h0 : 0 ≤ i) (h1 : i < (ns.length : Int)) : atI (ns.map V.int) i = some (.int (coef ns i.toNat)) := by
  have hi : i.toNat < (ns.map V.int).length := by rw [List.length_map]; omega
  rw [atI_get_nat h0 hi]
  rw [coef_lt (by rw [List.length_map] at hi; exact hi)]
  simp
theorem map_int_set (ns : List Int) (i : Nat) (v : Int) : (ns.map V.int).set i (.int v) = (ns.set i v).map V.int := by rw [List.map_set]
theorem ixN_nat {n : Nat} {k : Int} (h0 : 0 ≤ k) (h1 : k < (n : Int)) : ixN n k = some k.toNat := by
  unfold ixN
  rw [if_pos h0]
  first
    | rw [if_pos h1]
    | rw [if_pos (by omega)]
def rGetL (K : PySem.W.Frag) : V → V → Hp → VK → Prop := fun x y H Q => ∃ p xs i v, x = .ref p ∧ y = .int i ∧ SqL K H p xs ∧ 0 ≤ i ∧ xs[i.toNat]? = some v ∧ Q v H
theorem get_list {X : Cx} : PGet X (rGetL X.K) := by
  intro pins s σ H o i ov iv Q I ro ri h
  obtain ⟨p, xs, k, v, rfl, rfl, hq, h0, hx, q⟩ := h
  cases ro
  obtain ⟨t, rfl⟩ := ri
  obtain ⟨its, r, pl, hz⟩ := I.list hq
  obtain ⟨u, hu, ru⟩ := r.get hx
  have hl := r.length
  have hi : k.toNat < its.length := (List.getElem?_eq_some_iff.mp hu).1
  have hn := line63
  exact wpAny_getItem_list pl.isList h0 (by omega) (by simpa using hu) ⟨v, H, I, ru, q⟩
theorem getK_list {X : Cx} {K : PySem.W.Frag} (h : X.K = K) : PGet X (rGetL K) := by subst h; exact get_list
theorem atI_neg1 {ns : List Int} (h : ns ≠ []) : atI (ns.map V.int) (-1) = some (.int (coef ns (ns.length - 1))) := by
  have hl : 0 < ns.length := List.length_pos_iff.mpr h
  unfold atI ixN
  rw [if_neg (by decide), if_pos (by rw [List.length_map]; omega), List.length_map]
  have e : (-1 + (ns.length : Int)).toNat = ns.length - 1 := by omega
  show (ns.map V.int)[(-1 + (ns.length : Int)).toNat]? = _
  rw [e]
  exact map_int_at (by omega)
theorem all_true (n : Nat) : (List.replicate n true).all id = true := by
  induction n with
  | zero => rfl
  | succ n ih => rw [List.replicate_succ, List.all_cons, ih]; rfl
theorem rep_true_succ (n : Nat) : (List.replicate (n + 1) true).map V.bl = (List.replicate n true).map V.bl ++ [.bl true] := by
  rw [List.replicate_succ', List.map_append]
  rfl
theorem Bds.snoc {m : Nat} {f : List Int} {x : Int} (h : Bds m f) (hx : Bd m x) : Bds m (f ++ [x]) := fun y hy => by
  rcases List.mem_append.mp hy with z | z
  · exact h y z
  · have : y = x := by simpa using z
    rw [this]; exact hx
theorem map_int_snoc (f : List Int) (x : Int) : f.map V.int ++ [V.int x] = (f ++ [x]).map V.int := by simp
theorem cutV_takeL (ns : List Int) (k : Nat) : cutV (ns.map V.int) none (some (k : Int)) = (ns.take k).map V.int := by
  by_cases h : k ≤ ns.length
  · exact cutV_take ns k h
  · unfold cutV
    have e1 : HT.sIx (ns.map V.int).length 0 none = 0 := rfl
    have e2 : HT.sIx (ns.map V.int).length (ns.map V.int).length (some (k : Int)) = ns.length := by
      rw [HT.sIx_nat, List.length_map]; omega
    rw [e1, e2, List.take_of_length_le (by simp), List.take_of_length_le (by omega)]
    simp
theorem Bds.take {m : Nat} {f : List Int} (h : Bds m f) (n : Nat) : Bds m (f.take n) := fun x hx => h x (List.mem_of_mem_take hx)
theorem Bds.map {m n : Nat} {f : List Int} {h : Int → Int} (hf : Bds m f) (hh : ∀ x, Bd m x → Bd n (h x)) : Bds n (f.map h) := fun x hx => by
  obtain ⟨y, hy, rfl⟩ := List.mem_map.mp hx
  exact hh y (hf y hy)
theorem Norm.map {f : List Int} {h : Int → Int} (nf : Norm f) (hh : ∀ x, x ≠ 0 → h x ≠ 0) (h0 : h 0 = 0) : Norm (f.map h) := by
  rcases nf with rfl | nf
  · exact .inl rfl
  · right
    rw [coef_map h0, List.length_map]
    exact hh _ nf
end L2

set_option Elab.async false
set_option linter.all false
set_option maxRecDepth 100000
namespace L2
open PySem PySem.Spec PyProof.Rows
/-! ## products by their terms, division by a monic one -/
theorem rowS_short (f g : List Int) : ∀ (i m : Nat), m + 1 ≤ i → rowS f g i m = rowS f g (m + 1) m
  | 0, m, h => absurd h (by omega)
  | i + 1, m, h => by
    by_cases e : m = i
    · rw [e]
    · show rowS f g i m + _ = _
      rw [rowS_short f g i m (by omega), if_neg (by omega), Int.add_zero]
theorem conv_eq (f g : List Int) (m : Nat) : conv f g m = rowS f g (m + 1) m := by
  unfold conv
  by_cases h : f.length ≤ m + 1
  · exact (rowS_beyond f g (m + 1) m h).symm
  · exact rowS_short f g f.length m (by omega)
theorem rowS_lin {u f h g : List Int} {c : Int} (hc : ∀ a, coef u a = coef f a + c * coef h a) : ∀ (i m : Nat), rowS u g i m = rowS f g i m + c * rowS h g i m
  | 0, m => by simp [rowS]
  | i + 1, m => by
    show rowS u g i m + _ = rowS f g i m + _ + c * (rowS h g i m + _)
    rw [rowS_lin hc i m]
    by_cases hi : i ≤ m
    · rw [if_pos hi, if_pos hi, if_pos hi, hc, Int.add_mul, Int.mul_add, Int.mul_assoc]
      omega
    · rw [if_neg hi, if_neg hi, if_neg hi, Int.mul_add, Int.mul_zero]
      omega
theorem conv_lin {u f h g : List Int} {c : Int} (hc : ∀ a, coef u a = coef f a + c * coef h a) (m : Nat) : conv u g m = conv f g m + c * conv h g m := by
  rw [conv_eq, conv_eq, conv_eq, rowS_lin hc]
theorem rowS_congr {f f' g g' : List Int} (hf : ∀ a, coef f a = coef f' a) (hg : ∀ a, coef g a = coef g' a) : ∀ (i m : Nat), rowS f g i m = rowS f' g' i m
  | 0, m => rfl
  | i + 1, m => by
    show rowS f g i m + _ = rowS f' g' i m + _
    rw [rowS_congr hf hg i m, hf, hg]
theorem conv_congr {f f' g g' : List Int} (hf : ∀ a, coef f a = coef f' a) (hg : ∀ a, coef g a = coef g' a) (m : Nat) : conv f g m = conv f' g' m := by
  rw [conv_eq, conv_eq, rowS_congr hf hg]
theorem rowS_one {u f g : List Int} {t : Nat} {c : Int} (hc : ∀ a, coef u a = coef f a + if a = t then c else 0) : ∀ (i m : Nat), rowS u g i m = rowS f g i m + if t < i ∧ t ≤ m then c * coef g (m - t) else 0
  | 0, m => by
    rw [if_neg (by omega)]; simp [rowS]
  | i + 1, m => by
    show rowS u g i m + _ = rowS f g i m + _ + _
    rw [rowS_one hc i m, hc]
    by_cases hi : i ≤ m
    · rw [if_pos hi, if_pos hi]
      by_cases e : i = t
      · subst e
        rw [if_neg (by omega), if_pos rfl, if_pos ⟨by omega, hi⟩, Int.add_mul]
        omega
      · rw [if_neg e, Int.add_zero]
        by_cases h2 : t < i ∧ t ≤ m
        · rw [if_pos h2, if_pos ⟨by omega, h2.2⟩]; omega
        · rw [if_neg h2, if_neg (by omega)]; omega
    · rw [if_neg hi, if_neg hi]
      by_cases h2 : t < i ∧ t ≤ m
      · rw [if_pos h2, if_pos ⟨by omega, h2.2⟩]; omega
      · rw [if_neg h2, if_neg (by omega)]
theorem conv_one {u f g : List Int} {t : Nat} {c : Int} (hc : ∀ a, coef u a = coef f a + if a = t then c else 0) (m : Nat) : conv u g m = conv f g m + if t ≤ m then c * coef g (m - t) else 0 := by
  rw [conv_eq, conv_eq, rowS_one hc]
  congr 1
  by_cases h : t ≤ m
  · rw [if_pos h, if_pos ⟨by omega, h⟩]
  · rw [if_neg h, if_neg (by omega)]
theorem conv_nil (g : List Int) (m : Nat) : conv [] g m = 0 := rfl
def Monic (g : List Int) : Prop := g ≠ [] ∧ coef g (g.length - 1) = 1
theorem tlen_le_of {f : List Int} {d : Nat} : ∀ n, (∀ m, d ≤ m → m < n → coef f m = 0) → tlen f n ≤ d
  | 0, _ => Nat.zero_le _
  | n + 1, h => by
    unfold tlen
    split
    · exact tlen_le_of n fun m h1 h2 => h m h1 (by omega)
    · rename_i hne
      refine Classical.byContradiction fun hn => hne ?_
      exact h n (by omega) (by omega)
/-- quotient and rest -/
structure IsDiv (f g q r : List Int) : Prop where
  eq : ∀ m, coef f m = conv q g m + coef r m
  nq : Norm f → Norm q
  nr : Norm r
  len : r.length < g.length
  lq : q.length = f.length - (g.length - 1)
theorem IsDiv.uniq {f g q r q' r' : List Int} (hg : Monic g) (a : IsDiv f g q r) (e' : ∀ m, coef f m = conv q' g m + coef r' m) (l' : r'.length < g.length) (nr' : Norm r') : (∀ m, coef q m = coef q' m) ∧ r = r' := by
  have hgl : 0 < g.length := List.length_pos_iff.mpr hg.1
  have hu : ∀ m, coef (addc q (q'.map fun x => -1 * x)) m = coef q m + (-1) * coef q' m := fun m => by rw [coef_addc, coef_map (by decide)]
  have hd : ∀ m, conv (addc q (q'.map fun x => -1 * x)) g m = coef r' m - coef r m := fun m => by
    rw [conv_lin (c := -1) hu]
    have h1 := a.eq m
    have h2 := e' m
    omega
  have hz : trim (addc q (q'.map fun x => -1 * x)) = [] := by
    refine Classical.byContradiction fun hn => ?_
    have ct := conv_top (f := trim (addc q (q'.map fun x => -1 * x))) hn hg.1
    rw [conv_congr (f' := addc q (q'.map fun x => -1 * x)) (g' := g) (fun a => coef_trim _ a) (fun _ => rfl), hd, hg.2, Int.mul_one] at ct
    have hl : 0 < (trim (addc q (q'.map fun x => -1 * x))).length := List.length_pos_iff.mpr hn
    have h1 := a.len
    rw [coef_ge (f := r') (by omega), coef_ge (f := r) (by omega)] at ct
    exact (norm_trim _).last hn (by omega)
  have hq : ∀ m, coef q m = coef q' m := fun m => by
    have h1 := hu m
    rw [← coef_trim, hz, coef_nil] at h1
    omega
  refine ⟨hq, norm_ext a.nr nr' fun m => ?_⟩
  have h1 := a.eq m
  have h2 := e' m
  rw [conv_congr (f' := q') (g' := g) hq (fun _ => rfl)] at h1
  omega
/-! ### the loop's own side -/
/-- so far: Qr the leads told, the last ones first -/
def qSo (N i : Nat) (Qr : List Int) : List Int := List.replicate (N - i) 0 ++ Qr.reverse
theorem coef_rev {l : List Int} {i : Nat} (h : i < l.length) : coef l.reverse i = coef l (l.length - 1 - i) := by
  rw [coef_lt (by rw [List.length_reverse]; exact h), coef_lt (by omega)]
  rw [List.getElem_reverse]
theorem qSo_next {N i : Nat} {Qr : List Int} {c : Int} (hl : Qr.length = i) (hi : i < N) (a : Nat) : coef (qSo N (i + 1) (Qr ++ [c])) a = coef (qSo N i Qr) a + if a = N - 1 - i then c else 0 := by
  unfold qSo
  have e0 : (Qr ++ [c]).reverse = c :: Qr.reverse := by simp
  rw [e0, coef_append (f := List.replicate (N - (i + 1)) 0), coef_append (f := List.replicate (N - i) 0), List.length_replicate, List.length_replicate]
  by_cases h1 : a < N - (i + 1)
  · rw [if_pos h1, if_pos (by omega), if_neg (by omega), coef_replicate, coef_replicate]; rfl
  · rw [if_neg h1]
    by_cases h2 : a = N - 1 - i
    · rw [if_pos h2, if_pos (by omega), coef_replicate]
      have e : a - (N - (i + 1)) = 0 := by omega
      rw [e]
      show c = 0 + c
      omega
    · rw [if_neg h2, if_neg (by omega)]
      have e : a - (N - (i + 1)) = (a - (N - i)) + 1 := by omega
      rw [e]
      show coef (c :: Qr.reverse) ((a - (N - i)) + 1) = _
      have : coef (c :: Qr.reverse) ((a - (N - i)) + 1) = coef Qr.reverse (a - (N - i)) := by simp [coef]
      rw [this]
      omega
theorem qSo_end {N : Nat} {Qr : List Int} (hl : Qr.length = N) : qSo N N Qr = Qr.reverse := by
  unfold qSo
  rw [Nat.sub_self]
  rfl
/-- after i turns -/
structure DivSo (f g : List Int) (N i : Nat) (Qr R : List Int) : Prop where
  lq : Qr.length = i
  lr : R.length = f.length
  eq : ∀ m, m < R.length → coef R m = coef f m - conv (qSo N i Qr) g m
  top : ∀ m, f.length - i ≤ m → m < R.length → coef R m = 0
  lead : 0 < i → coef Qr 0 = coef f (f.length - 1)
/-- within turn i, j of g gone through -/
def RIn (g : List Int) (R R' : List Int) (t : Nat) (lead : Int) (j : Nat) : Prop := R'.length = R.length ∧ ∀ m, m < R.length → coef R' m = coef R m - if t ≤ m ∧ m - t < j then lead * coef g (m - t) else 0
theorem RIn.start (g R : List Int) (t : Nat) (lead : Int) : RIn g R R t lead 0 := ⟨rfl, fun m _ => by rw [if_neg (by omega)]; omega⟩
theorem RIn.step {g R R' : List Int} {t : Nat} {lead : Int} {j : Nat} (h : RIn g R R' t lead j) (hj : t + j < R.length) : RIn g R (R'.set (t + j) (coef R' (t + j) - lead * coef g j)) t lead (j + 1) := by
  refine ⟨by rw [List.length_set]; exact h.1, fun m hm => ?_⟩
  rw [coef_set (by rw [h.1]; exact hj)]
  by_cases e : m = t + j
  · subst e
    have e2 : t + j - t = j := by omega
    rw [if_pos rfl, if_pos ⟨by omega, by omega⟩, h.2 _ hm, if_neg (by omega), e2]
    omega
  · rw [if_neg e, h.2 m hm]
    congr 1
    by_cases h1 : t ≤ m ∧ m - t < j
    · rw [if_pos h1, if_pos ⟨h1.1, by omega⟩]
    · rw [if_neg h1, if_neg (by omega)]
theorem DivSo.next {f g Qr R R' : List Int} {N i : Nat} (hg : Monic g) (hN : N = f.length - (g.length - 1)) (D : DivSo f g N i Qr R) (hi : i < N) (h : RIn g R R' (N - 1 - i) (coef R (N - 1 - i + (g.length - 1))) g.length) :
    DivSo f g N (i + 1) (Qr ++ [coef R (N - 1 - i + (g.length - 1))]) R' := by
  have hgl : 0 < g.length := List.length_pos_iff.mpr hg.1
  have lr := D.lr
  have lq := D.lq
  refine ⟨by rw [List.length_append, D.lq]; rfl, h.1.trans D.lr, fun m hm => ?_, fun m h1 h2 => ?_, fun _ => ?_⟩
  · rw [h.1] at hm
    rw [h.2 m hm, D.eq m hm, conv_one (qSo_next (c := coef R (N - 1 - i + (g.length - 1))) D.lq hi)]
    have : (if N - 1 - i ≤ m ∧ m - (N - 1 - i) < g.length then coef R (N - 1 - i + (g.length - 1)) * coef g (m - (N - 1 - i)) else 0) = if N - 1 - i ≤ m then coef R (N - 1 - i + (g.length - 1)) * coef g (m - (N - 1 - i)) else 0 := by
      by_cases h1 : N - 1 - i ≤ m
      · by_cases h2 : m - (N - 1 - i) < g.length
        · rw [if_pos ⟨h1, h2⟩, if_pos h1]
        · rw [if_neg (by omega), if_pos h1, coef_ge (f := g) (by omega), Int.mul_zero]
      · rw [if_neg (by omega), if_neg h1]
    rw [this]
    omega
  · have h2' : m < R.length := by rw [h.1] at h2; exact h2
    rw [h.2 m h2']
    by_cases e : m = f.length - (i + 1)
    · have e1 : m - (N - 1 - i) = g.length - 1 := by omega
      have e2 : N - 1 - i + (g.length - 1) = m := by omega
      rw [if_pos ⟨by omega, by omega⟩, e1, hg.2, e2, Int.mul_one]
      omega
    · rw [D.top m (by omega) h2']
      have e1 : g.length ≤ m - (N - 1 - i) := by omega
      rw [if_neg (by omega)]
      rfl
  · rw [coef_append]
    by_cases h0 : 0 < i
    · rw [if_pos (by omega)]; exact D.lead h0
    · have e0 : i = 0 := by omega
      subst e0
      rw [if_neg (by omega)]
      have e1 : N - 1 - 0 + (g.length - 1) = f.length - 1 := by omega
      have hnil : Qr = [] := List.length_eq_zero_iff.mp D.lq
      rw [e1, D.eq _ (by omega)]
      have hz : conv (qSo N 0 Qr) g (f.length - 1) = 0 := by
        rw [conv_congr (f' := []) (g' := g) (fun a => ?_) (fun _ => rfl)]
        · rfl
        · unfold qSo
          rw [hnil, List.reverse_nil, List.append_nil, coef_replicate, coef_nil]
      rw [hz]
      have : coef [coef f (f.length - 1) - 0] (0 - Qr.length) = coef f (f.length - 1) - 0 := by rw [hnil]; rfl
      rw [this]
      omega
theorem DivSo.done {f g Qr R : List Int} {N : Nat} (hg : Monic g) (hN : N = f.length - (g.length - 1)) (D : DivSo f g N N Qr R) : IsDiv f g Qr.reverse (trim R) := by
  have hgl : 0 < g.length := List.length_pos_iff.mpr hg.1
  refine ⟨fun m => ?_, fun nf => ?_, norm_trim R, ?_, by rw [List.length_reverse, D.lq, hN]⟩
  · rw [coef_trim]
    by_cases hm : m < R.length
    · have := D.eq m hm
      rw [qSo_end D.lq] at this
      omega
    · have lr := D.lr
      have lq := D.lq
      rw [coef_ge (f := f) (by omega), coef_ge (f := R) (by omega)]
      have hb : conv Qr.reverse g m = 0 := by
        by_cases hz : Qr = []
        · subst hz; rfl
        · have : 0 < Qr.length := List.length_pos_iff.mpr hz
          exact conv_beyond _ _ _ (by rw [List.length_reverse]; omega)
      rw [hb]
      rfl
  · by_cases hz : Qr = []
    · left; rw [hz]; rfl
    · right
      have hl : 0 < Qr.length := List.length_pos_iff.mpr hz
      have lq := D.lq
      rw [coef_rev (by rw [List.length_reverse]; omega), List.length_reverse]
      have e : Qr.length - 1 - (Qr.length - 1) = 0 := by omega
      rw [e, D.lead (by omega)]
      exact nf.last fun z => by rw [z] at hN; simp at hN; omega
  · rw [trim_length]
    have : tlen R R.length ≤ g.length - 1 := tlen_le_of _ fun m h1 h2 => D.top m (by have := D.lr; omega) h2
    omega
end L2

set_option Elab.async false
set_option linter.all false
set_option maxRecDepth 100000
namespace L2
open PySem PySem.Spec PyProof.Rows
/-! ## sums, and products of power rows -/
def sumN : Nat → (Nat → Int) → Int
  | 0, _ => 0
  | n + 1, f => sumN n f + f n
theorem sumN_congr {f g : Nat → Int} : ∀ {n : Nat}, (∀ i, i < n → f i = g i) → sumN n f = sumN n g
  | 0, _ => rfl
  | n + 1, h => by
    show sumN n f + f n = sumN n g + g n
    rw [sumN_congr fun i hi => h i (by omega), h n (by omega)]
theorem sumN_add (f g : Nat → Int) : ∀ n, sumN n (fun i => f i + g i) = sumN n f + sumN n g
  | 0 => rfl
  | n + 1 => by
    show sumN n (fun i => f i + g i) + (f n + g n) = sumN n f + f n + (sumN n g + g n)
    rw [sumN_add f g n]
    omega
theorem sumN_mul (c : Int) (f : Nat → Int) : ∀ n, sumN n (fun i => c * f i) = c * sumN n f
  | 0 => by simp [sumN]
  | n + 1 => by
    show sumN n (fun i => c * f i) + c * f n = c * (sumN n f + f n)
    rw [sumN_mul c f n, Int.mul_add]
theorem sumN_mulR (c : Int) (f : Nat → Int) (n : Nat) : sumN n (fun i => f i * c) = sumN n f * c := by
  rw [Int.mul_comm, ← sumN_mul]
  exact sumN_congr fun i _ => Int.mul_comm _ _
theorem sumN_zero {f : Nat → Int} : ∀ {n : Nat}, (∀ i, i < n → f i = 0) → sumN n f = 0
  | 0, _ => rfl
  | n + 1, h => by
    show sumN n f + f n = 0
    rw [sumN_zero fun i hi => h i (by omega), h n (by omega)]
    rfl
theorem sumN_head (f : Nat → Int) : ∀ n, sumN (n + 1) f = f 0 + sumN n fun i => f (i + 1)
  | 0 => by simp [sumN]
  | n + 1 => by
    show sumN (n + 1) f + f (n + 1) = f 0 + (sumN n (fun i => f (i + 1)) + f (n + 1))
    rw [sumN_head f n]
    omega
theorem sumN_rev (f : Nat → Int) : ∀ n, sumN n f = sumN n fun i => f (n - 1 - i)
  | 0 => rfl
  | n + 1 => by
    rw [sumN_head fun i => f (n + 1 - 1 - i)]
    show sumN n f + f n = _
    rw [sumN_rev f n]
    have e0 : n + 1 - 1 - 0 = n := by omega
    have e1 : sumN n (fun i => f (n - 1 - i)) = sumN n fun i => f (n + 1 - 1 - (i + 1)) := sumN_congr fun i hi => by
      have : n - 1 - i = n + 1 - 1 - (i + 1) := by omega
      rw [this]
    rw [e0, e1]
    omega
theorem sumN_split (f : Nat → Int) (a : Nat) : ∀ b, sumN (a + b) f = sumN a f + sumN b fun i => f (a + i)
  | 0 => by simp [sumN]
  | b + 1 => by
    show sumN (a + b) f + f (a + b) = sumN a f + (sumN b (fun i => f (a + i)) + f (a + b))
    rw [sumN_split f a b]
    omega
theorem sumN_one {f : Nat → Int} {k : Nat} : ∀ {n : Nat}, k < n → (∀ i, i < n → i ≠ k → f i = 0) → sumN n f = f k
  | 0, h, _ => absurd h (Nat.not_lt_zero _)
  | n + 1, h, z => by
    show sumN n f + f n = f k
    by_cases e : k = n
    · subst e
      rw [sumN_zero fun i hi => z i (by omega) (by omega)]
      omega
    · rw [sumN_one (n := n) (by omega) fun i hi => z i (by omega), z n (by omega) (Ne.symm e)]
      omega
theorem sumN_tri (F : Nat → Nat → Int) : ∀ m, sumN (m + 1) (fun k => sumN (k + 1) fun i => F i k) = sumN (m + 1) fun i => sumN (m - i + 1) fun j => F i (i + j)
  | 0 => by simp [sumN]
  | m + 1 => by
    show sumN (m + 1) (fun k => sumN (k + 1) fun i => F i k) + sumN (m + 1 + 1) (fun i => F i (m + 1)) = _
    rw [sumN_tri F m]
    show _ = sumN (m + 1) (fun i => sumN (m + 1 - i + 1) fun j => F i (i + j)) + sumN (m + 1 - (m + 1) + 1) (fun j => F (m + 1) (m + 1 + j))
    have e1 : sumN (m + 1) (fun i => sumN (m + 1 - i + 1) fun j => F i (i + j)) = sumN (m + 1) (fun i => sumN (m - i + 1) (fun j => F i (i + j)) + F i (m + 1)) := sumN_congr fun i hi => by
      have h1 : m + 1 - i + 1 = (m - i + 1) + 1 := by omega
      rw [h1]
      show sumN (m - i + 1) _ + F i (i + (m - i + 1)) = _
      have h2 : i + (m - i + 1) = m + 1 := by omega
      rw [h2]
    rw [e1, sumN_add]
    have e2 : m + 1 - (m + 1) + 1 = 1 := by omega
    rw [e2]
    show _ + (sumN (m + 1) (fun i => F i (m + 1)) + F (m + 1) (m + 1)) = _ + (0 + F (m + 1) (m + 1 + 0))
    have e3 : m + 1 + 0 = m + 1 := by omega
    rw [e3]
    omega
def cv (a b : Nat → Int) (m : Nat) : Int := sumN (m + 1) fun i => a i * b (m - i)
theorem cv_congr {a a' b b' : Nat → Int} {m : Nat} (ha : ∀ i, i ≤ m → a i = a' i) (hb : ∀ i, i ≤ m → b i = b' i) : cv a b m = cv a' b' m := sumN_congr fun i hi => by rw [ha i (by omega), hb (m - i) (by omega)]
theorem cv_comm (a b : Nat → Int) (m : Nat) : cv a b m = cv b a m := by
  unfold cv
  rw [sumN_rev]
  refine sumN_congr fun i hi => ?_
  have e1 : m + 1 - 1 - i = m - i := by omega
  have e2 : m - (m - i) = i := by omega
  rw [e1, e2, Int.mul_comm]
theorem cv_assoc (a b c : Nat → Int) (m : Nat) : cv (cv a b) c m = cv a (cv b c) m := by
  have l : cv (cv a b) c m = sumN (m + 1) fun k => sumN (k + 1) fun i => a i * b (k - i) * c (m - k) := sumN_congr fun k _ => by
    show sumN (k + 1) (fun i => a i * b (k - i)) * c (m - k) = _
    rw [← sumN_mulR]
  rw [l, sumN_tri fun i k => a i * b (k - i) * c (m - k)]
  refine sumN_congr fun i hi => ?_
  show _ = a i * sumN (m - i + 1) fun j => b j * c (m - i - j)
  rw [← sumN_mul]
  refine sumN_congr fun j hj => ?_
  have e1 : i + j - i = j := by omega
  have e2 : m - (i + j) = m - i - j := by omega
  rw [e1, e2, Int.mul_assoc]
theorem cv_add (a b c : Nat → Int) (m : Nat) : cv (fun i => a i + b i) c m = cv a c m + cv b c m := by
  unfold cv
  rw [← sumN_add]
  exact sumN_congr fun i _ => Int.add_mul ..
theorem cv_addR (a b c : Nat → Int) (m : Nat) : cv a (fun i => b i + c i) m = cv a b m + cv a c m := by
  rw [cv_comm, cv_add, cv_comm b, cv_comm c]
theorem cv_zero (b : Nat → Int) (m : Nat) : cv (fun _ => 0) b m = 0 := sumN_zero fun i _ => Int.zero_mul _
theorem cv_unit {a b : Nat → Int} {c : Int} (h0 : a 0 = c) (hs : ∀ i, 0 < i → a i = 0) (m : Nat) : cv a b m = c * b m := by
  unfold cv
  rw [sumN_one (k := 0) (by omega) fun i _ hi => by rw [hs i (by omega), Int.zero_mul], h0, Nat.sub_zero]
theorem rowS_sum (f g : List Int) : ∀ (i m : Nat), i ≤ m + 1 → rowS f g i m = sumN i fun a => coef f a * coef g (m - a)
  | 0, m, _ => rfl
  | i + 1, m, h => by
    show rowS f g i m + _ = sumN i _ + _
    rw [rowS_sum f g i m (by omega), if_pos (by omega)]
theorem conv_cv (f g : List Int) (m : Nat) : conv f g m = cv (coef f) (coef g) m := by
  rw [conv_eq, rowS_sum f g (m + 1) m (Nat.le_refl _)]
  rfl
theorem cp (f g : List Int) (m : Nat) : coef (pmul f g) m = cv (coef f) (coef g) m := by rw [coef_pmul, conv_cv]
theorem cpf (f g : List Int) : coef (pmul f g) = cv (coef f) (coef g) := funext fun m => cp f g m
theorem caf (f g : List Int) : coef (padd f g) = fun m => coef f m + coef g m := funext fun m => coef_padd f g m
theorem ctf (f : List Int) : coef (trim f) = coef f := funext fun m => coef_trim f m
/-! ### put together by a key -/
def pjoin (key : List Int) : List (List Int) → List Int
  | [] => []
  | d :: r => padd (pmul (pjoin key r) key) d
theorem norm_pjoin (key : List Int) : ∀ ds, Norm (pjoin key ds)
  | [] => .inl rfl
  | _ :: _ => norm_padd _ _
/-- the law's way: from the lowest on -/
def jl (key : List Int) (found step : List Int) : List (List Int) → List Int
  | [] => found
  | d :: r => jl key (padd found (trim (pmul d step))) (trim (pmul step key)) r
theorem jl_eq (key : List Int) : ∀ (ds : List (List Int)) (found step : List Int) (m : Nat), coef (jl key found step ds) m = coef found m + cv (coef (pjoin key ds)) (coef step) m
  | [], found, step, m => by
    show coef found m = coef found m + cv (coef []) (coef step) m
    have e : cv (coef []) (coef step) m = 0 := sumN_zero fun i _ => by rw [coef_nil, Int.zero_mul]
    rw [e, Int.add_zero]
  | d :: r, found, step, m => by
    show coef (jl key (padd found (trim (pmul d step))) (trim (pmul step key)) r) m = coef found m + cv (coef (padd (pmul (pjoin key r) key) d)) (coef step) m
    rw [jl_eq key r, caf, caf, ctf, ctf, cpf, cpf, cpf, cv_add]
    have e1 : cv (coef (pjoin key r)) (cv (coef step) (coef key)) m = cv (cv (coef (pjoin key r)) (coef key)) (coef step) m := by
      rw [cv_assoc]
      exact cv_congr (fun _ _ => rfl) fun i _ => cv_comm _ _ i
    rw [e1]
    show coef found m + cv (coef d) (coef step) m + _ = _
    omega
theorem norm_jl (key : List Int) : ∀ (ds : List (List Int)) (found step : List Int), Norm found → Norm (jl key found step ds)
  | [], _, _, h => h
  | _ :: r, _, _, _ => norm_jl key r _ _ (norm_padd _ _)
theorem jl_pjoin (key : List Int) (ds : List (List Int)) : jl key [] [1] ds = pjoin key ds := by
  refine norm_ext (norm_jl key ds _ _ (.inl rfl)) (norm_pjoin key ds) fun m => ?_
  rw [jl_eq, coef_nil, Int.zero_add, cv_comm, cv_unit (c := 1) rfl fun i hi => coef_ge (by show 1 ≤ i; omega), Int.one_mul]
/-! ### digits -/
structure IsDig (key : List Int) (ds : List (List Int)) : Prop where
  nm : ∀ d ∈ ds, Norm d
  ln : ∀ d ∈ ds, d.length < key.length
  last : ds.getLast? ≠ some []
theorem IsDig.tail {key d : List Int} {ds : List (List Int)} (h : IsDig key (d :: ds)) : IsDig key ds := by
  refine ⟨fun x hx => h.nm x (List.mem_cons_of_mem _ hx), fun x hx => h.ln x (List.mem_cons_of_mem _ hx), fun z => h.last ?_⟩
  cases ds with
  | nil => simp at z
  | cons y r => simpa using z
theorem IsDig.cons {key d : List Int} {ds : List (List Int)} (h : IsDig key ds) (nd : Norm d) (ld : d.length < key.length) (hne : ds = [] → d ≠ []) : IsDig key (d :: ds) := by
  refine ⟨fun x hx => (List.mem_cons.mp hx).elim (fun z => z ▸ nd) (h.nm x), fun x hx => (List.mem_cons.mp hx).elim (fun z => z ▸ ld) (h.ln x), fun z => ?_⟩
  cases ds with
  | nil =>
    have : d = [] := by simpa using z
    exact hne rfl this
  | cons y r => exact h.last (by simpa using z)
theorem pjoin_eq (key d : List Int) (r : List (List Int)) (m : Nat) : coef (pjoin key (d :: r)) m = conv (pjoin key r) key m + coef d m := by
  show coef (padd (pmul (pjoin key r) key) d) m = _
  rw [coef_padd, coef_pmul]
theorem pjoin_nil {key : List Int} (hk : Monic key) : ∀ {ds : List (List Int)}, IsDig key ds → pjoin key ds = [] → ds = []
  | [], _, _ => rfl
  | d :: r, h, e => by
    exfalso
    have hkl : 0 < key.length := List.length_pos_iff.mpr hk.1
    have ld := h.ln d List.mem_cons_self
    have hr : pjoin key r = [] := by
      refine Classical.byContradiction fun hn => ?_
      have ct := conv_top hn hk.1
      have hl : 0 < (pjoin key r).length := List.length_pos_iff.mpr hn
      have c0 := pjoin_eq key d r ((pjoin key r).length + key.length - 2)
      rw [e, coef_nil, ct, hk.2, Int.mul_one, coef_ge (f := d) (by omega), Int.add_zero] at c0
      exact (norm_pjoin key r).last hn c0.symm
    have hrn := pjoin_nil hk h.tail hr
    subst hrn
    have hd : d = [] := norm_ext (h.nm d List.mem_cons_self) (.inl rfl) fun m => by
      have c0 := pjoin_eq key d [] m
      rw [e, coef_nil] at c0
      have : conv (pjoin key []) key m = 0 := rfl
      rw [this] at c0
      rw [coef_nil]
      omega
    exact h.last (by rw [hd]; rfl)
theorem dig_uniq {key : List Int} (hk : Monic key) : ∀ {ds es : List (List Int)}, IsDig key ds → IsDig key es → pjoin key ds = pjoin key es → ds = es
  | [], es, _, he, e => (pjoin_nil hk he e.symm).symm
  | d :: r, [], hd, _, e => absurd (pjoin_nil hk hd e) (by simp)
  | d :: r, x :: s, hd, he, e => by
    have hkl : 0 < key.length := List.length_pos_iff.mpr hk.1
    have a : ∀ m, conv (pjoin key r) key m + coef d m = conv (pjoin key s) key m + coef x m := fun m => by rw [← pjoin_eq, ← pjoin_eq, e]
    -- the difference of both quotients
    have hu : ∀ m, coef (addc (pjoin key r) ((pjoin key s).map fun x => -1 * x)) m = coef (pjoin key r) m + (-1) * coef (pjoin key s) m := fun m => by rw [coef_addc, coef_map (by decide)]
    have hz : trim (addc (pjoin key r) ((pjoin key s).map fun x => -1 * x)) = [] := by
      refine Classical.byContradiction fun hn => ?_
      have ct := conv_top (f := trim (addc (pjoin key r) ((pjoin key s).map fun x => -1 * x))) hn hk.1
      have hl : 0 < (trim (addc (pjoin key r) ((pjoin key s).map fun x => -1 * x))).length := List.length_pos_iff.mpr hn
      rw [conv_congr (f' := addc (pjoin key r) ((pjoin key s).map fun x => -1 * x)) (g' := key) (fun a => coef_trim _ a) (fun _ => rfl), conv_lin (c := -1) hu, hk.2, Int.mul_one] at ct
      have a1 := a ((trim (addc (pjoin key r) ((pjoin key s).map fun x => -1 * x))).length + key.length - 2)
      have l1 := hd.ln d List.mem_cons_self
      have l2 := he.ln x List.mem_cons_self
      rw [coef_ge (f := d) (by omega), coef_ge (f := x) (by omega)] at a1
      exact (norm_trim _).last hn (by omega)
    have hq : pjoin key r = pjoin key s := norm_ext (norm_pjoin key r) (norm_pjoin key s) fun m => by
      have h1 := hu m
      rw [← coef_trim, hz, coef_nil] at h1
      omega
    have hx : d = x := norm_ext (hd.nm d List.mem_cons_self) (he.nm x List.mem_cons_self) fun m => by
      have := a m
      rw [hq] at this
      omega
    rw [hx, dig_uniq hk hd.tail he.tail hq]
end L2

set_option Elab.async false
set_option linter.all false
set_option maxRecDepth 100000
namespace L2
open PySem PySem.Spec PyProof.Rows
/-! ## lists of lists of whole numbers -/
abbrev LP := Addr × List Int
abbrev lrefs (ts : List LP) : List V := ts.map fun t => V.ref t.1
abbrev lvals (ts : List LP) : List (List Int) := ts.map fun t => t.2
structure LLs (H : Hp) (p : Addr) (ts : List LP) : Prop where
  top : H p = some (.lst (lrefs ts))
  it : ∀ t ∈ ts, H t.1 = some (.lst (t.2.map V.int))
theorem LLs.same {H H' : Hp} {p : Addr} {ts : List LP} (h : LLs H p ts) (g : Same H H') : LLs H' p ts := ⟨g _ _ h.top, fun t ht => g _ _ (h.it t ht)⟩
theorem LLs.snoc {H : Hp} {p : Addr} {ts : List LP} {t : LP} (h : LLs H p ts) (hp : ∀ t ∈ ts, t.1 ≠ p) (ht : H t.1 = some (.lst (t.2.map V.int))) (hn : t.1 ≠ p) : LLs (upd H p (.lst (lrefs ts ++ [.ref t.1]))) p (ts ++ [t]) := by
  refine ⟨?_, fun x hx => ?_⟩
  · rw [upd_same]; simp [lrefs]
  · rcases List.mem_append.mp hx with z | z
    · rw [upd_ne (hp x z)]; exact h.it x z
    · have : x = t := by simpa using z
      subst this
      rw [upd_ne hn]; exact ht
abbrev dLL (ls : List (List Int)) : PyData := .list (ls.map dI)
theorem fl_ll (ls : List (List Int)) : Fl 2 (dLL ls) := .lst fun d hd => by
  obtain ⟨i, _, rfl⟩ := List.mem_map.mp hd
  exact fl_ints i
theorem dLL_inj {a b : List (List Int)} (h : dLL a = dLL b) : a = b := by
  have h' : a.map dI = b.map dI := PyData.list.inj h
  induction a generalizing b with
  | nil =>
    cases b with
    | nil => rfl
    | cons _ _ => simp at h'
  | cons x a ih =>
    cases b with
    | nil => simp at h'
    | cons y b =>
      have h2 : dI x = dI y ∧ a.map dI = b.map dI := List.cons.inj h'
      rw [dI_inj h2.1, ih (congrArg PyData.list h2.2) h2.2]
theorem eqv_ll (a b : List (List Int)) : PyData.eqv (dLL a) (dLL b) = decide (a = b) := by
  rw [eqv_dec (fl_ll a) (fl_ll b)]
  by_cases h : a = b
  · rw [decide_eq_true h, decide_eq_true (congrArg dLL h)]
  · rw [decide_eq_false h, decide_eq_false fun z => h (dLL_inj z)]
theorem den_ll {K : PySem.W.Frag} {H : Hp} {p : Addr} {ts : List LP} (ht : SqL K H p (lrefs ts)) (hi : ∀ t ∈ ts, SqL K H t.1 (t.2.map V.int)) : Den K H (.ref p) (dLL (lvals ts)) := by
  refine .lst ht (by simp) fun i x d h1 h2 => ?_
  rw [List.getElem?_map] at h1 h2
  cases e : ts[i]? with
  | none => rw [e] at h1; cases h1
  | some t =>
    rw [e] at h1
    rw [List.getElem?_map, e] at h2
    have hm : t ∈ ts := List.mem_of_getElem? e
    cases h1
    cases h2
    exact den_lst (hi t hm) (scalDs_ints _)
theorem LLs.den {K : PySem.W.Frag} {H : Hp} {p : Addr} {ts : List LP} (h : LLs H p ts) : Den K H (.ref p) (dLL (lvals ts)) := den_ll (SqL.of h.top) fun t ht => SqL.of (h.it t ht)
theorem LLs.sql {K : PySem.W.Frag} {H : Hp} {p : Addr} {ts : List LP} (h : LLs H p ts) : SqL K H p (lrefs ts) := SqL.of h.top
theorem LLs.its {K : PySem.W.Frag} {H : Hp} {p : Addr} {ts : List LP} (h : LLs H p ts) : ∀ t ∈ ts, SqL K H t.1 (t.2.map V.int) := fun t ht => SqL.of (h.it t ht)
theorem eqLL {K : PySem.W.Frag} {H : Hp} {x y : V} {a b : List (List Int)} {Q : VK} (hx : Den K H x (dLL a)) (hy : Den K H y (dLL b)) (q : Q (.bl (decide (a = b))) H) : rEqD K false x y H Q :=
  ⟨_, _, hx, hy, (fl_ll _).shaped (by decide), (fl_ll _).shaped (by decide), by show Q (.bl (PyData.eqv (dLL a) (dLL b))) H; rw [eqv_ll]; exact q⟩
theorem neLL {K : PySem.W.Frag} {H : Hp} {x y : V} {a b : List (List Int)} {Q : VK} (hx : Den K H x (dLL a)) (hy : Den K H y (dLL b)) (q : Q (.bl (!decide (a = b))) H) : rEqD K true x y H Q :=
  ⟨_, _, hx, hy, (fl_ll _).shaped (by decide), (fl_ll _).shaped (by decide), by show Q (.bl (!PyData.eqv (dLL a) (dLL b))) H; rw [eqv_ll]; exact q⟩
theorem den_nilLL {K : PySem.W.Frag} {H : Hp} {p : Addr} (h : SqL K H p []) : Den K H (.ref p) (dLL []) := .lst h rfl fun i x d h1 _ => by simp at h1
theorem lrefs_get {ts : List LP} {i : Nat} {x : V} (h : (lrefs ts)[i]? = some x) : ∃ hi : i < ts.length, x = .ref ts[i].1 := by
  rw [List.getElem?_map] at h
  cases e : ts[i]? with
  | none => rw [e] at h; cases h
  | some t =>
    rw [e] at h
    obtain ⟨hi, e2⟩ := List.getElem?_eq_some_iff.mp e
    subst e2
    exact ⟨hi, (Option.some.inj h).symm⟩
theorem atI_lneg1 {ts : List LP} (h : ts ≠ []) : atI (lrefs ts) (-1) = some (.ref (ts.getLast h).1) := by
  have hl : 0 < ts.length := List.length_pos_iff.mpr h
  unfold atI ixN
  rw [if_neg (by decide), if_pos (by rw [List.length_map]; omega), List.length_map]
  have e : (-1 + (ts.length : Int)).toNat = ts.length - 1 := by omega
  show (lrefs ts)[(-1 + (ts.length : Int)).toNat]? = _
  rw [e, List.getElem?_map, List.getElem?_eq_getElem (by omega), List.getLast_eq_getElem]
  rfl
/-- a copy of a list, as a value of any context -/
def rListOf (K : PySem.W.Frag) : List V → Hp → VK → Prop := fun xs H Q => ∃ p ys, xs = [.ref p] ∧ (SqL K H p ys ∨ SqT K H p ys) ∧ ∀ l, H l = none → Q (.ref l) (upd H l (.lst ys))
theorem callK_list {X : Cx} {K : PySem.W.Frag} (h : X.K = K) : CallR X (.type "list") (rListOf K) := by subst h; exact call_list_of
def rTupOf (K : PySem.W.Frag) : List V → Hp → VK → Prop := fun xs H Q => ∃ p ys, xs = [.ref p] ∧ ((SqL K H p ys ∧ ∀ l, H l = none → Q (.ref l) (upd H l (.tup ys))) ∨ (SqT K H p ys ∧ Q (.ref p) H))
theorem callK_tuple {X : Cx} {K : PySem.W.Frag} (h : X.K = K) : CallR X (.type "tuple") (rTupOf K) := by subst h; exact call_tuple_of
end L2

/-! determinants: sums along the last column; what rows do to them; minors by one lead -/
set_option Elab.async false
set_option linter.all false
set_option maxRecDepth 100000
namespace L2
def sgm : Nat → (Nat → Int) → Int
  | 0, _ => 0
  | n + 1, f => sgm n f + f n
theorem sgm_congr : ∀ {n : Nat} {f g : Nat → Int}, (∀ i, i < n → f i = g i) → sgm n f = sgm n g
  | 0, _, _, _ => rfl
  | n + 1, f, g, h => by
    show sgm n f + f n = sgm n g + g n
    rw [sgm_congr fun i hi => h i (by omega), h n (by omega)]
theorem sgm_lin (a b : Int) (f g : Nat → Int) : ∀ n, sgm n (fun i => a * f i + b * g i) = a * sgm n f + b * sgm n g
  | 0 => by show (0 : Int) = a * 0 + b * 0; omega
  | n + 1 => by
    show sgm n _ + (a * f n + b * g n) = a * (sgm n f + f n) + b * (sgm n g + g n)
    rw [sgm_lin a b f g n]
    generalize sgm n f = x
    generalize sgm n g = y
    grind
theorem sgm_mul (a : Int) (f : Nat → Int) : ∀ n, sgm n (fun i => a * f i) = a * sgm n f
  | 0 => by show (0 : Int) = a * 0; omega
  | n + 1 => by
    show sgm n _ + a * f n = a * (sgm n f + f n)
    rw [sgm_mul a f n, Int.mul_add]
theorem sgm_zero : ∀ {n : Nat} {f : Nat → Int}, (∀ i, i < n → f i = 0) → sgm n f = 0
  | 0, _, _ => rfl
  | n + 1, f, h => by
    show sgm n f + f n = 0
    rw [sgm_zero fun i hi => h i (by omega), h n (by omega)]
    rfl
theorem sgm_shift (f : Nat → Int) : ∀ n, sgm (n + 1) f = f 0 + sgm n (fun i => f (i + 1))
  | 0 => by show 0 + f 0 = f 0 + 0; omega
  | n + 1 => by
    show sgm (n + 1) f + f (n + 1) = f 0 + (sgm n (fun i => f (i + 1)) + f (n + 1))
    rw [sgm_shift f n]; omega
theorem sgm_two {f : Nat → Int} {r : Nat} : ∀ {n : Nat}, r + 1 < n → (∀ i, i < n → i ≠ r → i ≠ r + 1 → f i = 0) → f r + f (r + 1) = 0 → sgm n f = 0
  | 0, h, _, _ => absurd h (by omega)
  | n + 1, h, z, e => by
    show sgm n f + f n = 0
    by_cases c : r + 1 = n
    · subst c
      show sgm r f + f r + f (r + 1) = 0
      rw [sgm_zero fun i hi => z i (by omega) (by omega) (by omega)]
      omega
    · rw [sgm_two (n := n) (by omega) (fun i hi => z i (by omega)) e, z n (by omega) (by omega) (by omega)]
      rfl
abbrev Mx := Nat → Nat → Int
def skp (i r : Nat) : Nat := if r < i then r else r + 1
def sg (k : Nat) : Int := if k % 2 = 0 then 1 else -1
theorem sg_succ (k : Nat) : sg (k + 1) = - sg k := by
  unfold sg
  rcases Nat.mod_two_eq_zero_or_one k with h | h
  · rw [if_neg (by omega), if_pos h]
  · rw [if_pos (by omega), if_neg (by omega)]; rfl
theorem sg_sq (k : Nat) : sg k * sg k = 1 := by
  unfold sg
  split <;> rfl
def det : Nat → Mx → Int
  | 0, _ => 1
  | n + 1, M => sgm (n + 1) fun i => sg (n - i) * M i n * det n fun r c => M (skp i r) c
theorem det_succ (n : Nat) (M : Mx) : det (n + 1) M = sgm (n + 1) fun i => sg (n - i) * M i n * det n fun r c => M (skp i r) c := rfl
theorem skp_lt {i r n : Nat} (h : r < n) : skp i r < n + 1 := by unfold skp; split <;> omega
theorem skp_ne (i r : Nat) : skp i r ≠ i := by unfold skp; split <;> omega
theorem skp_eq {i r x : Nat} (h : i ≠ r) : skp i x = r ↔ x = if r < i then r else r - 1 := by
  unfold skp
  split <;> split <;> omega
theorem det_congr : ∀ {n : Nat} {M N : Mx}, (∀ r c, r < n → c < n → M r c = N r c) → det n M = det n N
  | 0, _, _, _ => rfl
  | n + 1, M, N, h => by
    rw [det_succ, det_succ]
    refine sgm_congr fun i hi => ?_
    rw [h i n hi (by omega), det_congr fun r c hr hc => h (skp i r) c (skp_lt hr) (by omega)]
def setR (M : Mx) (r : Nat) (u : Nat → Int) : Mx := fun i c => if i = r then u c else M i c
theorem setR_same (M : Mx) (r : Nat) (u : Nat → Int) (c : Nat) : setR M r u r c = u c := if_pos rfl
theorem setR_ne {M : Mx} {r i : Nat} {u : Nat → Int} (h : i ≠ r) (c : Nat) : setR M r u i c = M i c := if_neg h
theorem setR_self (M : Mx) (r : Nat) : setR M r (M r) = M := by
  funext i c
  unfold setR
  split
  · rename_i h; rw [h]
  · rfl
/-- without row i, a row set -/
theorem minor_set {M : Mx} {i r : Nat} (h : i ≠ r) (u : Nat → Int) : (fun x c => setR M r u (skp i x) c) = setR (fun x c => M (skp i x) c) (if r < i then r else r - 1) u := by
  funext x c
  unfold setR
  by_cases e : skp i x = r
  · rw [if_pos e, if_pos ((skp_eq h).mp e)]
  · rw [if_neg e, if_neg fun z => e ((skp_eq h).mpr z)]
theorem minor_own (M : Mx) (r : Nat) (u : Nat → Int) : (fun x c => setR M r u (skp r x) c) = fun x c => M (skp r x) c := by
  funext x c
  exact setR_ne (skp_ne r x) c
theorem det_lin (a b : Int) (u v : Nat → Int) : ∀ (n : Nat) (M : Mx) (r : Nat), r < n → det n (setR M r fun c => a * u c + b * v c) = a * det n (setR M r u) + b * det n (setR M r v)
  | 0, _, _, h => absurd h (by omega)
  | n + 1, M, r, h => by
    rw [det_succ, det_succ, det_succ, ← sgm_lin]
    refine sgm_congr fun i hi => ?_
    by_cases e : i = r
    · subst e
      rw [minor_own, minor_own, minor_own, setR_same, setR_same, setR_same]
      generalize det n _ = D
      generalize sg (n - i) = S
      grind
    · rw [minor_set e, minor_set e, minor_set e, setR_ne e, setR_ne e, setR_ne e, det_lin a b u v n _ _ (by split <;> omega)]
      generalize det n (setR _ _ u) = D1
      generalize det n (setR _ _ v) = D2
      generalize sg (n - i) = S
      grind
theorem det_adj : ∀ (n : Nat) (M : Mx) (r : Nat), r + 1 < n → (∀ c, M r c = M (r + 1) c) → det n M = 0
  | 0, _, _, h, _ => absurd h (by omega)
  | n + 1, M, r, h, e => by
    rw [det_succ]
    refine sgm_two (r := r) h (fun i hi h1 h2 => ?_) ?_
    · have z : det n (fun x c => M (skp i x) c) = 0 := by
        by_cases c : i < r
        · refine det_adj n _ (r - 1) (by omega) fun c' => ?_
          have e1 : skp i (r - 1) = r := by unfold skp; rw [if_neg (by omega)]; omega
          have e2 : skp i (r - 1 + 1) = r + 1 := by unfold skp; rw [if_neg (by omega)]; omega
          show M (skp i (r - 1)) c' = M (skp i (r - 1 + 1)) c'
          rw [e1, e2]; exact e c'
        · refine det_adj n _ r (by omega) fun c' => ?_
          have e1 : skp i r = r := by unfold skp; rw [if_pos (by omega)]
          have e2 : skp i (r + 1) = r + 1 := by unfold skp; rw [if_pos (by omega)]
          show M (skp i r) c' = M (skp i (r + 1)) c'
          rw [e1, e2]; exact e c'
      rw [z, Int.mul_zero]
    · have e1 : (fun x c => M (skp (r + 1) x) c) = fun x c => M (skp r x) c := by
        funext x c
        unfold skp
        by_cases c1 : x < r
        · rw [if_pos (by omega), if_pos c1]
        · by_cases c2 : x = r
          · subst c2
            rw [if_pos (by omega), if_neg (by omega)]; exact e c
          · rw [if_neg (by omega), if_neg c1]
      have e2 : n - r = n - (r + 1) + 1 := by omega
      rw [e1, ← e n, e2, sg_succ]
      generalize det n _ = D
      generalize sg (n - (r + 1)) = S
      grind
def set2 (M : Mx) (p q : Nat) (u v : Nat → Int) : Mx := setR (setR M p u) q v
theorem set2_comm {M : Mx} {p q : Nat} (h : p ≠ q) (u v : Nat → Int) : setR (setR M p u) q v = setR (setR M q v) p u := by
  funext i c
  unfold setR
  by_cases c1 : i = q
  · subst c1; rw [if_pos rfl, if_neg fun z => h z.symm, if_pos rfl]
  · rw [if_neg c1, if_neg c1]
theorem swap_of {n : Nat} {M : Mx} {p q : Nat} (hp : p < n) (hq : q < n) (hne : p ≠ q) (h : ∀ u, det n (set2 M p q u u) = 0) (u v : Nat → Int) : det n (set2 M p q u v) = - det n (set2 M p q v u) := by
  have z := h fun c => 1 * u c + 1 * v c
  unfold set2 at *
  rw [det_lin 1 1 u v n _ q hq, set2_comm hne, set2_comm hne, det_lin 1 1 u v n _ p hp, det_lin 1 1 u v n _ p hp, ← set2_comm hne, ← set2_comm hne, ← set2_comm hne, ← set2_comm hne, h u, h v] at z
  omega
theorem set2_self (M : Mx) (p q : Nat) : set2 M p q (M p) (M q) = M := by
  unfold set2
  rw [setR_self, setR_self]
theorem swap_adj {n : Nat} (M : Mx) {r : Nat} (h : r + 1 < n) : det n (set2 M r (r + 1) (M (r + 1)) (M r)) = - det n M := by
  rw [swap_of (by omega) h (by omega) fun u => det_adj n _ r h fun c => ?_, set2_self]
  unfold set2
  rw [setR_ne (by omega), setR_same, setR_same]
theorem det_eq0 {n : Nat} {p : Nat} : ∀ (d : Nat) (M : Mx), p + d + 1 < n → (∀ c, M p c = M (p + d + 1) c) → det n M = 0
  | 0, M, h, e => det_adj n M p h e
  | d + 1, M, h, e => by
    have s := swap_adj M (r := p + d + 1) (n := n) h
    have z : det n (set2 M (p + d + 1) (p + d + 1 + 1) (M (p + d + 1 + 1)) (M (p + d + 1))) = 0 := by
      refine det_eq0 (p := p) d _ (by omega) fun c => ?_
      unfold set2
      rw [setR_ne (by omega), setR_ne (by omega), setR_ne (by omega), setR_same]
      exact e c
    rw [z] at s
    omega
theorem det_same {n : Nat} {M : Mx} {p q : Nat} (hp : p < n) (hq : q < n) (hne : p ≠ q) (h : ∀ c, M p c = M q c) : det n M = 0 := by
  rcases Nat.lt_or_gt_of_ne hne with z | z
  · have e : q = p + (q - p - 1) + 1 := by omega
    rw [e] at h
    exact det_eq0 (q - p - 1) M (by omega) h
  · have e : p = q + (p - q - 1) + 1 := by omega
    rw [e] at h
    exact det_eq0 (p - q - 1) M (by omega) fun c => (h c).symm
theorem det_swap {n : Nat} (M : Mx) {p q : Nat} (hp : p < n) (hq : q < n) (hne : p ≠ q) : det n (set2 M p q (M q) (M p)) = - det n M := by
  rw [swap_of hp hq hne fun u => det_same hp hq hne fun c => ?_, set2_self]
  unfold set2
  rw [setR_ne hne, setR_same, setR_same]
theorem det_add {n : Nat} (M : Mx) {p q : Nat} (hp : p < n) (hq : q < n) (hne : p ≠ q) (a k : Int) : det n (setR M p fun c => a * M p c + k * M q c) = a * det n M := by
  rw [det_lin a k (M p) (M q) n M p hp, setR_self, det_same (M := setR M p (M q)) hp hq hne fun c => ?_]
  · omega
  · rw [setR_same, setR_ne fun z => hne z.symm]
theorem zero_col : ∀ (n : Nat) (M : Mx), (∀ i, i ≤ n → M i 0 = 0) → det (n + 1) M = 0
  | 0, M, h => by
    show 0 + sg 0 * M 0 0 * 1 = 0
    rw [h 0 (Nat.le_refl _)]; rfl
  | n + 1, M, h => by
    rw [det_succ]
    refine sgm_zero fun i hi => ?_
    rw [zero_col n _ fun j hj => h (skp i j) (by have := skp_lt (i := i) (r := j) (n := n + 1) (by omega); omega), Int.mul_zero]
theorem first_col : ∀ (n : Nat) (M : Mx), (∀ i, 0 < i → i ≤ n → M i 0 = 0) → det (n + 1) M = M 0 0 * det n fun r c => M (r + 1) (c + 1)
  | 0, M, h => by
    show 0 + sg 0 * M 0 0 * 1 = M 0 0 * 1
    have : sg 0 = 1 := rfl
    rw [this]; omega
  | n + 1, M, h => by
    rw [det_succ (n + 1), sgm_shift]
    have z : det (n + 1) (fun r c => M (skp 0 r) c) = 0 := zero_col n _ fun j hj => h (skp 0 j) (by unfold skp; rw [if_neg (by omega)]; omega) (by unfold skp; rw [if_neg (by omega)]; omega)
    rw [z, Int.mul_zero, Int.zero_add, det_succ n, ← sgm_mul]
    refine sgm_congr fun j hj => ?_
    rw [first_col n _ fun i h1 h2 => h (skp (j + 1) i) (by unfold skp; split <;> omega) (by have := skp_lt (i := j + 1) (r := i) (n := n + 1) (by omega); omega)]
    have e0 : skp (j + 1) 0 = 0 := by unfold skp; rw [if_pos (by omega)]
    have e1 : (fun r c => M (skp (j + 1) (r + 1)) (c + 1)) = fun r c => M (skp j r + 1) (c + 1) := by
      funext r c
      have : skp (j + 1) (r + 1) = skp j r + 1 := by unfold skp; split <;> split <;> omega
      rw [this]
    rw [e0, e1]
    have e2 : n + 1 - (j + 1) = n - j := by omega
    rw [e2]
    generalize det n _ = D
    generalize sg (n - j) = S
    grind
theorem det_scale (k : Int) : ∀ (n : Nat) (M : Mx), det n (fun r c => k * M r c) = k ^ n * det n M
  | 0, M => by show (1 : Int) = k ^ 0 * 1; rw [Int.pow_zero]; rfl
  | n + 1, M => by
    rw [det_succ, det_succ, ← sgm_mul]
    refine sgm_congr fun i hi => ?_
    rw [det_scale k n fun r c => M (skp i r) c, Int.pow_succ]
    generalize det n _ = D
    generalize sg (n - i) = S
    generalize k ^ n = K
    grind
/-- a lead taken from all rows below it -/
def chi (N : Mx) : Mx := fun a b => N 0 0 * N (a + 1) (b + 1) - N (a + 1) 0 * N 0 (b + 1)
def partly (N : Mx) (k : Nat) : Mx := fun r c => if 0 < r ∧ r ≤ k then N 0 0 * N r c + (- N r 0) * N 0 c else N r c
theorem det_partly (N : Mx) (n : Nat) : ∀ k, k ≤ n → det (n + 1) (partly N k) = N 0 0 ^ k * det (n + 1) N
  | 0, _ => by
    have e : partly N 0 = N := by
      funext r c
      exact if_neg (by omega)
    rw [e, Int.pow_zero, Int.one_mul]
  | k + 1, h => by
    have e : partly N (k + 1) = setR (partly N k) (k + 1) fun c => N 0 0 * partly N k (k + 1) c + (- N (k + 1) 0) * partly N k 0 c := by
      funext r c
      have p0 : partly N k 0 c = N 0 c := if_neg (by omega)
      have p1 : partly N k (k + 1) c = N (k + 1) c := if_neg (by omega)
      unfold setR
      by_cases c1 : r = k + 1
      · subst c1
        rw [if_pos rfl]
        show _ = N 0 0 * partly N k (k + 1) c + (- N (k + 1) 0) * partly N k 0 c
        rw [p0, p1]
        exact if_pos (by omega)
      · rw [if_neg c1]
        unfold partly
        by_cases c2 : 0 < r ∧ r ≤ k
        · rw [if_pos c2, if_pos (by omega)]
        · rw [if_neg c2, if_neg (by omega)]
    rw [e, det_add (partly N k) (by omega) (by omega) (by omega), det_partly N n k (by omega), Int.pow_succ]
    generalize N 0 0 ^ k = K
    generalize det (n + 1) N = D
    grind
theorem chio {n : Nat} {N : Mx} (h : N 0 0 ≠ 0) : det (n + 1) (chi N) = N 0 0 ^ n * det (n + 2) N := by
  have e := det_partly N (n + 1) (n + 1) (Nat.le_refl _)
  rw [first_col (n + 1) (partly N (n + 1)) fun i h1 h2 => ?_] at e
  · have e1 : det (n + 1) (fun r c => partly N (n + 1) (r + 1) (c + 1)) = det (n + 1) (chi N) := det_congr fun r c hr hc => by
      unfold partly chi
      rw [if_pos (by omega)]
      generalize N 0 0 = a
      generalize N (r + 1) (c + 1) = b
      generalize N (r + 1) 0 = d
      generalize N 0 (c + 1) = f
      grind
    have e2 : partly N (n + 1) 0 0 = N 0 0 := if_neg (by omega)
    rw [e1, e2, Int.pow_succ] at e
    have e3 : N 0 0 * det (n + 1) (chi N) = N 0 0 * (N 0 0 ^ n * det (n + 2) N) := by
      rw [e]
      generalize N 0 0 ^ n = K
      grind
    exact Int.eq_of_mul_eq_mul_left h e3
  · unfold partly
    rw [if_pos (by omega)]
    generalize N 0 0 = a
    generalize N i 0 = b
    grind
/-- a row moved to the top -/
def cyc (t : Nat) : Nat → Nat
  | 0 => t
  | a + 1 => skp t a
theorem cyc_lt {t a m : Nat} (ht : t < m) (ha : a < m) : cyc t a < m := by
  cases a with
  | zero => exact ht
  | succ a => show skp t a < m; unfold skp; split <;> omega
theorem det_cyc {n : Nat} : ∀ (t : Nat) (M : Mx), t < n → det n (fun a c => M (cyc t a) c) = sg t * det n M
  | 0, M, h => by
    have e : (fun a c => M (cyc 0 a) c) = M := by
      funext a c
      cases a with
      | zero => rfl
      | succ a => show M (skp 0 a) c = M (a + 1) c; unfold skp; rw [if_neg (by omega)]
    rw [e]
    show _ = 1 * _
    omega
  | t + 1, M, h => by
    have e : (fun a c => M (cyc (t + 1) a) c) = fun a c => set2 M t (t + 1) (M (t + 1)) (M t) (cyc t a) c := by
      funext a c
      unfold set2
      cases a with
      | zero =>
        show M (t + 1) c = setR _ _ _ t c
        rw [setR_ne (by omega), setR_same]
      | succ a =>
        show M (skp (t + 1) a) c = setR _ _ _ (skp t a) c
        rcases Nat.lt_trichotomy a t with z | z | z
        · have e1 : skp (t + 1) a = a := by unfold skp; rw [if_pos (by omega)]
          have e2 : skp t a = a := by unfold skp; rw [if_pos (by omega)]
          rw [e1, e2, setR_ne (by omega), setR_ne (by omega)]
        · subst z
          have e1 : skp (a + 1) a = a := by unfold skp; rw [if_pos (by omega)]
          have e2 : skp a a = a + 1 := by unfold skp; rw [if_neg (by omega)]
          rw [e1, e2, setR_same]
        · have e1 : skp (t + 1) a = a + 1 := by unfold skp; rw [if_neg (by omega)]
          have e2 : skp t a = a + 1 := by unfold skp; rw [if_neg (by omega)]
          rw [e1, e2, setR_ne (by omega), setR_ne (by omega)]
    rw [e, det_cyc t _ (by omega), swap_adj M h, sg_succ]
    generalize det n M = D
    generalize sg t = S
    grind
end L2

/-! determinants by leads (Bareiss), by all orders, of three-cornered tables; how great they are -/
set_option Elab.async false
set_option linter.all false
set_option maxRecDepth 100000
namespace L2
theorem pw_ne {d : Int} (h : d ≠ 0) : ∀ n : Nat, d ^ n ≠ 0
  | 0 => by rw [Int.pow_zero]; decide
  | n + 1 => by rw [Int.pow_succ]; exact Int.mul_ne_zero (pw_ne h n) h
theorem det_one (M : Mx) : det 1 M = M 0 0 := by
  show 0 + sg 0 * M 0 0 * 1 = M 0 0
  have : sg 0 = 1 := rfl
  rw [this]; omega
def sh (I : Nat → Nat) : Nat → Nat
  | 0 => 0
  | a + 1 => I a + 1
structure Ba (A : Mx) (n k : Nat) (d : Int) (B : Mx) (m : Nat) (s : Int) : Prop where
  d0 : d ≠ 0
  mins : ∀ (r : Nat) (I J : Nat → Nat), (∀ a, a ≤ r → I a < m ∧ J a < m) → ∃ I' J' : Nat → Nat, (∀ a, a < r + 1 + k → I' a < n ∧ J' a < n) ∧ det (r + 1) (fun a b => B (I a) (J b)) = d ^ r * det (r + 1 + k) fun a b => A (I' a) (J' b)
  whole : ∀ m', m = m' + 1 → det m B = s * det n A * d ^ m'
  sq : s * s = 1
  lead : ∃ I' J' : Nat → Nat, (∀ a, a < k → I' a < n ∧ J' a < n) ∧ d = det k fun a b => A (I' a) (J' b)
theorem Ba.start (A : Mx) (n : Nat) : Ba A n 0 1 A n 1 := by
  refine ⟨by decide, fun r I J h => ⟨I, J, fun a ha => h a (by omega), ?_⟩, fun m' e => ?_, rfl, ⟨fun a => a, fun a => a, fun a ha => absurd ha (by omega), rfl⟩⟩
  · rw [Int.one_pow, Int.one_mul]
  · rw [Int.one_pow]; omega
section
variable {A B B' : Mx} {n k m t : Nat} {d s : Int}
theorem Ba.divides (h : Ba A n k d B (m + 1) s) (ht : t < m + 1) (hp : B t 0 ≠ 0) {a c : Nat} (ha : a < m) (hc : c < m) : ∃ q, chi (fun a c => B (cyc t a) c) a c = d * q := by
  have hI : ∀ x, x ≤ 1 → cyc t (sh (fun _ => a) x) < m + 1 ∧ sh (fun _ => c) x < m + 1 := fun x hx => by
    match x with
    | 0 => exact ⟨ht, by show 0 < m + 1; omega⟩
    | 1 => exact ⟨cyc_lt ht (by show a + 1 < m + 1; omega), by show c + 1 < m + 1; omega⟩
    | x + 2 => omega
  obtain ⟨I', J', _, e⟩ := h.mins 1 (fun x => cyc t (sh (fun _ => a) x)) (sh (fun _ => c)) hI
  have e2 := chio (n := 0) (N := fun x y => B (cyc t (sh (fun _ => a) x)) (sh (fun _ => c) y)) hp
  rw [det_one, Int.pow_zero, Int.one_mul, e, Int.pow_succ, Int.pow_zero, Int.one_mul] at e2
  exact ⟨_, e2⟩
theorem Ba.step (h : Ba A n k d B (m + 1) s) (ht : t < m + 1) (hp : B t 0 ≠ 0) (hB : ∀ a c, a < m → c < m → chi (fun a c => B (cyc t a) c) a c = d * B' a c) : Ba A n (k + 1) (B t 0) B' m (sg t * s) := by
  refine ⟨hp, fun r I J hIJ => ?_, fun m' em => ?_, ?_, ?_⟩
  · have hI : ∀ x, x ≤ r + 1 → cyc t (sh I x) < m + 1 ∧ sh J x < m + 1 := fun x hx => by
      match x with
      | 0 => exact ⟨ht, by show 0 < m + 1; omega⟩
      | x + 1 =>
        have := hIJ x (by omega)
        exact ⟨cyc_lt ht (by show I x + 1 < m + 1; omega), by show J x + 1 < m + 1; omega⟩
    obtain ⟨I', J', rg, e⟩ := h.mins (r + 1) (fun x => cyc t (sh I x)) (sh J) hI
    have e2 := chio (n := r) (N := fun x y => B (cyc t (sh I x)) (sh J y)) hp
    have e3 : det (r + 1) (chi fun x y => B (cyc t (sh I x)) (sh J y)) = d ^ (r + 1) * det (r + 1) (fun a b => B' (I a) (J b)) := by
      rw [← det_scale]
      refine det_congr fun a b ha hb => ?_
      have h1 := hIJ a (by omega)
      have h2 := hIJ b (by omega)
      exact hB (I a) (J b) h1.1 h2.2
    rw [e3, e] at e2
    have ei : r + 1 + 1 + k = r + 1 + (k + 1) := by omega
    rw [ei] at e2 rg
    refine ⟨I', J', rg, ?_⟩
    refine Int.eq_of_mul_eq_mul_left (pw_ne h.d0 (r + 1)) (e2.trans ?_)
    show B t 0 ^ r * (d ^ (r + 1) * _) = d ^ (r + 1) * (B t 0 ^ r * _)
    generalize det (r + 1 + (k + 1)) _ = D
    generalize B t 0 ^ r = P
    generalize d ^ (r + 1) = Q
    grind
  · subst em
    have e2 := chio (n := m') (N := fun a c => B (cyc t a) c) hp
    have e3 : det (m' + 1) (chi fun a c => B (cyc t a) c) = d ^ (m' + 1) * det (m' + 1) B' := by
      rw [← det_scale]
      exact det_congr fun a b ha hb => hB a b ha hb
    have e4 := h.whole (m' + 1) rfl
    have e5 := det_cyc (n := m' + 2) t B ht
    rw [e3, e5, e4] at e2
    refine Int.eq_of_mul_eq_mul_left (pw_ne h.d0 (m' + 1)) (e2.trans ?_)
    show B t 0 ^ m' * (sg t * (s * det n A * d ^ (m' + 1))) = d ^ (m' + 1) * (sg t * s * det n A * B t 0 ^ m')
    generalize B t 0 ^ m' = P
    generalize d ^ (m' + 1) = Q
    generalize det n A = D
    generalize sg t = S
    grind
  · have e1 := sg_sq t
    have e2 := h.sq
    generalize sg t = S at *
    grind
  · obtain ⟨I', J', rg, e⟩ := h.mins 0 (fun _ => t) (fun _ => 0) fun a ha => ⟨ht, by omega⟩
    rw [det_one, Int.pow_zero, Int.one_mul] at e
    have ei : 0 + 1 + k = k + 1 := by omega
    rw [ei] at e rg
    exact ⟨I', J', rg, e⟩
theorem Ba.fin (h : Ba A n k d B 1 s) : s * B 0 0 = det n A := by
  have e := h.whole 0 rfl
  rw [det_one, Int.pow_zero, Int.mul_one] at e
  rw [e]
  have := h.sq
  generalize det n A = D at *
  grind
theorem Ba.none (h : Ba A n k d B (m + 1) s) (hz : ∀ i, i < m + 1 → B i 0 = 0) : det n A = 0 := by
  have e := h.whole m rfl
  rw [zero_col m B fun i hi => hz i (by omega)] at e
  rcases Int.mul_eq_zero.mp e.symm with z | z
  · rcases Int.mul_eq_zero.mp z with y | y
    · have := h.sq
      rw [y] at this
      cases this
    · exact y
  · exact absurd z (pw_ne h.d0 m)
end
/-! ### how great -/
theorem sgm_abs {X : Nat} : ∀ {n : Nat} {f : Nat → Int}, (∀ i, i < n → (f i).natAbs ≤ X) → (sgm n f).natAbs ≤ n * X
  | 0, _, _ => by show (0 : Int).natAbs ≤ _; simp
  | n + 1, f, h => by
    have h1 := sgm_abs (n := n) (f := f) fun i hi => h i (by omega)
    have h2 := h n (by omega)
    have h3 := Int.natAbs_add_le (sgm n f) (f n)
    show (sgm n f + f n).natAbs ≤ (n + 1) * X
    rw [Nat.succ_mul]
    omega
theorem sg_abs (k : Nat) : (sg k).natAbs = 1 := by unfold sg; split <;> rfl
theorem det_abs {E : Nat} : ∀ (n : Nat) (M : Mx), n ≤ 32 → (∀ r c, r < n → c < n → (M r c).natAbs ≤ 2 ^ E) → (det n M).natAbs ≤ 2 ^ (n * (E + 5))
  | 0, M, _, _ => by show (1 : Int).natAbs ≤ 2 ^ (0 * (E + 5)); rw [Nat.zero_mul]; decide
  | n + 1, M, hn, h => by
    rw [det_succ]
    refine Nat.le_trans (sgm_abs (X := 2 ^ E * 2 ^ (n * (E + 5))) fun i hi => ?_) ?_
    · rw [Int.natAbs_mul, Int.natAbs_mul, sg_abs, Nat.one_mul]
      exact Nat.mul_le_mul (h i n hi (by omega)) (det_abs n _ (by omega) fun r c hr hc => h (skp i r) c (skp_lt hr) (by omega))
    · have e : 2 ^ ((n + 1) * (E + 5)) = 32 * (2 ^ E * 2 ^ (n * (E + 5))) := by
        rw [Nat.succ_mul, Nat.pow_add, Nat.pow_add 2 E 5]
        have : (2 : Nat) ^ 5 = 32 := rfl
        rw [this]
        ac_rfl
      rw [e]
      exact Nat.mul_le_mul_right _ (by omega)
theorem Ba.bds {A B : Mx} {n k m : Nat} {d s : Int} {E : Nat} (h : Ba A n k d B m s) (hn : n ≤ 32) (hk : m + k = n) (hA : ∀ r c, r < n → c < n → (A r c).natAbs ≤ 2 ^ E) : d.natAbs ≤ 2 ^ (n * (E + 5)) ∧ ∀ i j, i < m → j < m → (B i j).natAbs ≤ 2 ^ (n * (E + 5)) := by
  refine ⟨?_, fun i j hi hj => ?_⟩
  · obtain ⟨I', J', rg, e⟩ := h.lead
    rw [e]
    exact Nat.le_trans (det_abs (E := E) k _ (by omega) fun r c hr hc => hA _ _ (rg r hr).1 (rg c hc).2) (Nat.pow_le_pow_right (by decide) (Nat.mul_le_mul_right _ (by omega)))
  · obtain ⟨I', J', rg, e⟩ := h.mins 0 (fun _ => i) (fun _ => j) fun a ha => ⟨hi, hj⟩
    rw [det_one, Int.pow_zero, Int.one_mul] at e
    rw [e]
    exact Nat.le_trans (det_abs (E := E) (0 + 1 + k) _ (by omega) fun r c hr hc => hA _ _ (rg r hr).1 (rg c hc).2) (Nat.pow_le_pow_right (by decide) (Nat.mul_le_mul_right _ (by omega)))
/-! ### three corners -/
def prN : Nat → (Nat → Int) → Int
  | 0, _ => 1
  | n + 1, f => prN n f * f n
theorem prN_congr : ∀ {n : Nat} {f g : Nat → Int}, (∀ i, i < n → f i = g i) → prN n f = prN n g
  | 0, _, _, _ => rfl
  | n + 1, f, g, h => by
    show prN n f * f n = prN n g * g n
    rw [prN_congr fun i hi => h i (by omega), h n (by omega)]
theorem prN_shift (f : Nat → Int) : ∀ n, prN (n + 1) f = f 0 * prN n (fun i => f (i + 1))
  | 0 => by show 1 * f 0 = f 0 * 1; omega
  | n + 1 => by
    show prN (n + 1) f * f (n + 1) = f 0 * (prN n (fun i => f (i + 1)) * f (n + 1))
    rw [prN_shift f n, Int.mul_assoc]
theorem det_tri : ∀ (n : Nat) (M : Mx), (∀ i j, j < i → i < n → M i j = 0) → det n M = prN n fun i => M i i
  | 0, _, _ => rfl
  | n + 1, M, h => by
    rw [first_col n M fun i h1 h2 => h i 0 h1 (by omega), prN_shift, det_tri n _ fun i j h1 h2 => h (i + 1) (j + 1) (by omega) (by omega)]
/-! ### all orders -/
theorem prN_skp (f : Nat → Int) (at_ : Nat) : ∀ n, at_ ≤ n → prN (n + 1) f = f at_ * prN n (fun i => f (skp at_ i))
  | 0, h => by
    have : at_ = 0 := by omega
    subst this
    show 1 * f 0 = f 0 * 1
    omega
  | n + 1, h => by
    show prN (n + 1) f * f (n + 1) = f at_ * (prN n (fun i => f (skp at_ i)) * f (skp at_ n))
    by_cases c : at_ = n + 1
    · subst c
      have e : prN (n + 1) f = prN n (fun i => f (skp (n + 1) i)) * f (skp (n + 1) n) := by
        show prN n f * f n = _
        have e1 : skp (n + 1) n = n := by unfold skp; rw [if_pos (by omega)]
        have e2 : prN n f = prN n (fun i => f (skp (n + 1) i)) := prN_congr fun i hi => by
          have : skp (n + 1) i = i := by unfold skp; rw [if_pos (by omega)]
          rw [this]
        rw [e1, e2]
      rw [e]
      generalize prN n _ = P
      grind
    · have e1 : skp at_ n = n + 1 := by unfold skp; rw [if_neg (by omega)]
      rw [e1, prN_skp f at_ n (by omega), Int.mul_assoc]
abbrev Ord := List Nat × Int
def ins (o : List Nat) (at_ k : Nat) : List Nat := o.take at_ ++ [k] ++ o.drop at_
def grow (k : Nat) (os : Ord) : List Ord := (List.range (k + 1)).map fun at_ => (ins os.1 at_ k, os.2 * sg (k - at_))
def orders : Nat → List Ord
  | 0 => [([], 1)]
  | k + 1 => (orders k).flatMap (grow k)
theorem ins_len {o : List Nat} {at_ k : Nat} : (ins o at_ k).length = o.length + 1 := by
  unfold ins
  rw [List.length_append, List.length_append, List.length_take, List.length_drop]
  show min at_ o.length + 1 + (o.length - at_) = _
  omega
theorem orders_len : ∀ {k : Nat} {os : Ord}, os ∈ orders k → os.1.length = k
  | 0, os, h => by rw [List.mem_singleton.mp h]; rfl
  | k + 1, os, h => by
    obtain ⟨os', h1, h2⟩ := List.mem_flatMap.mp h
    obtain ⟨at_, _, rfl⟩ := List.mem_map.mp h2
    show (ins os'.1 at_ k).length = k + 1
    rw [ins_len, orders_len h1]
theorem ins_at {o : List Nat} {at_ k : Nat} (h : at_ ≤ o.length) : (ins o at_ k).getD at_ 0 = k := by
  unfold ins
  rw [List.getD_eq_getElem?_getD, List.append_assoc, List.getElem?_append_right (by rw [List.length_take]; omega), List.length_take, show at_ - min at_ o.length = 0 by omega]
  rfl
theorem ins_skp {o : List Nat} {at_ k i : Nat} (h : at_ ≤ o.length) : (ins o at_ k).getD (skp at_ i) 0 = o.getD i 0 := by
  unfold ins skp
  rw [List.getD_eq_getElem?_getD, List.getD_eq_getElem?_getD]
  by_cases c : i < at_
  · rw [if_pos c, List.append_assoc, List.getElem?_append_left (by rw [List.length_take]; omega), List.getElem?_take, if_pos c]
  · rw [if_neg c, List.getElem?_append_right (by rw [List.length_append, List.length_take]; show min at_ o.length + 1 ≤ _; omega), List.length_append, List.length_take, List.getElem?_drop]
    have : at_ + (i + 1 - (min at_ o.length + [k].length)) = i := by show at_ + (i + 1 - (min at_ o.length + 1)) = i; omega
    rw [this]
def lsum {α : Type} : List α → (α → Int) → Int
  | [], _ => 0
  | a :: r, f => f a + lsum r f
theorem lsum_congr {α : Type} : ∀ {l : List α} {f g : α → Int}, (∀ a ∈ l, f a = g a) → lsum l f = lsum l g
  | [], _, _, _ => rfl
  | a :: r, f, g, h => by
    show f a + lsum r f = g a + lsum r g
    rw [h a List.mem_cons_self, lsum_congr fun b hb => h b (List.mem_cons_of_mem _ hb)]
theorem lsum_append {α : Type} (f : α → Int) : ∀ (l l' : List α), lsum (l ++ l') f = lsum l f + lsum l' f
  | [], l' => by show lsum l' f = 0 + _; omega
  | a :: r, l' => by
    show f a + lsum (r ++ l') f = f a + lsum r f + lsum l' f
    rw [lsum_append f r l']; omega
theorem lsum_flat {α β : Type} (f : β → Int) (g : α → List β) : ∀ l : List α, lsum (l.flatMap g) f = lsum l fun a => lsum (g a) f
  | [] => rfl
  | a :: r => by
    rw [List.flatMap_cons, lsum_append, lsum_flat f g r]
    rfl
theorem lsum_map {α β : Type} (f : β → Int) (g : α → β) : ∀ l : List α, lsum (l.map g) f = lsum l fun a => f (g a)
  | [] => rfl
  | a :: r => by
    show f (g a) + lsum (r.map g) f = _
    rw [lsum_map f g r]; rfl
theorem lsum_range (f : Nat → Int) : ∀ n, lsum (List.range n) f = sgm n f
  | 0 => rfl
  | n + 1 => by
    rw [List.range_succ, lsum_append, lsum_range f n]
    show _ + (f n + 0) = sgm n f + f n
    omega
theorem lsum_sgm {α : Type} (f : α → Nat → Int) (n : Nat) : ∀ l : List α, lsum l (fun a => sgm n (f a)) = sgm n fun i => lsum l fun a => f a i
  | [] => (sgm_zero fun i hi => rfl).symm
  | a :: r => by
    show sgm n (f a) + lsum r (fun a => sgm n (f a)) = sgm n fun i => f a i + lsum r fun a => f a i
    rw [lsum_sgm f n r]
    have := sgm_lin 1 1 (f a) (fun i => lsum r fun a => f a i) n
    rw [Int.one_mul, Int.one_mul] at this
    rw [← this]
    exact sgm_congr fun i hi => by omega
theorem lsum_mul {α : Type} (k : Int) (f : α → Int) : ∀ l : List α, lsum l (fun a => k * f a) = k * lsum l f
  | [] => by show (0 : Int) = k * 0; omega
  | a :: r => by
    show k * f a + lsum r (fun a => k * f a) = k * (f a + lsum r f)
    rw [lsum_mul k f r, Int.mul_add]
theorem leib : ∀ (n : Nat) (M : Mx), lsum (orders n) (fun os => os.2 * prN n fun i => M i (os.1.getD i 0)) = det n M
  | 0, M => rfl
  | k + 1, M => by
    show lsum ((orders k).flatMap (grow k)) _ = _
    rw [lsum_flat, det_succ]
    have e : ∀ os ∈ orders k, lsum (grow k os) (fun os => os.2 * prN (k + 1) fun i => M i (os.1.getD i 0)) = sgm (k + 1) fun at_ => sg (k - at_) * M at_ k * (os.2 * prN k fun i => M (skp at_ i) (os.1.getD i 0)) := fun os hos => by
      unfold grow
      rw [lsum_map, lsum_range]
      refine sgm_congr fun at_ hat => ?_
      have hl := orders_len hos
      show os.2 * sg (k - at_) * prN (k + 1) (fun i => M i ((ins os.1 at_ k).getD i 0)) = _
      rw [prN_skp _ at_ k (by omega)]
      have e1 : (fun i => M (skp at_ i) ((ins os.1 at_ k).getD (skp at_ i) 0)) = fun i => M (skp at_ i) (os.1.getD i 0) := by
        funext i
        rw [ins_skp (by omega)]
      show os.2 * sg (k - at_) * (M at_ ((ins os.1 at_ k).getD at_ 0) * prN k fun i => M (skp at_ i) ((ins os.1 at_ k).getD (skp at_ i) 0)) = _
      rw [e1, ins_at (by omega)]
      generalize prN k _ = P
      generalize sg (k - at_) = S
      generalize M at_ k = X
      grind
    rw [lsum_congr e, lsum_sgm]
    refine sgm_congr fun at_ hat => ?_
    rw [lsum_mul, leib k fun r c => M (skp at_ r) c]
end L2

/-! the determinant of a product -/
set_option Elab.async false
set_option linter.all false
set_option maxRecDepth 100000
namespace L2
/-- a row and a sum of others -/
theorem det_comb {n : Nat} (M : Mx) {p : Nat} (hp : p < n) (q : Nat → Nat) (a : Nat → Int) : ∀ m, (∀ k, k < m → q k < n ∧ q k ≠ p) → det n (setR M p fun c => M p c + sgm m fun k => a k * M (q k) c) = det n M
  | 0, _ => by
    have e : setR M p (fun c => M p c + sgm 0 fun k => a k * M (q k) c) = M := by
      have : (fun c => M p c + sgm 0 fun k => a k * M (q k) c) = M p := by
        funext c
        show M p c + 0 = M p c
        omega
      rw [this, setR_self]
    rw [e]
  | m + 1, h => by
    have e : (fun c => M p c + sgm (m + 1) fun k => a k * M (q k) c) = fun c => 1 * (M p c + sgm m fun k => a k * M (q k) c) + a m * M (q m) c := by
      funext c
      show M p c + (sgm m (fun k => a k * M (q k) c) + a m * M (q m) c) = _
      omega
    have hq := h m (by omega)
    rw [e, det_lin 1 (a m) (fun c => M p c + sgm m fun k => a k * M (q k) c) (M (q m)) n M p hp, det_comb M hp q a m fun k hk => h k (by omega), det_same (M := setR M p (M (q m))) hp hq.1 (fun z => hq.2 z.symm) fun c => ?_]
    · omega
    · rw [setR_same, setR_ne hq.2]
/-- the last columns stand below alone -/
theorem det_block {n : Nat} {A : Mx} : ∀ (m : Nat) (M : Mx), (∀ r c, r < n → c < n → M r c = A r c) → (∀ r c, r < n → n ≤ c → M r c = 0) → det (n + m) M = det n A * det m fun r c => M (n + r) (n + c)
  | 0, M, h1, _ => by
    show det n M = det n A * 1
    rw [det_congr h1]; omega
  | m + 1, M, h1, h2 => by
    show det (n + m + 1) M = det n A * det (m + 1) _
    rw [det_succ (n + m), det_succ m, ← sgm_mul]
    have split : ∀ (f : Nat → Int) (a b : Nat), sgm (a + b) f = sgm a f + sgm b fun i => f (a + i) := by
      intro f a b
      induction b with
      | zero => show sgm a f = sgm a f + 0; omega
      | succ b ih => show sgm (a + b) f + f (a + b) = sgm a f + (sgm b (fun i => f (a + i)) + f (a + b)); rw [ih]; omega
    rw [show n + m + 1 = n + (m + 1) by omega, split, sgm_zero fun i hi => ?_, Int.zero_add]
    · refine sgm_congr fun i hi => ?_
      have e1 : n + m - (n + i) = m - i := by omega
      rw [e1, det_block m (fun r c => M (skp (n + i) r) c) (fun r c hr hc => ?_) (fun r c hr hc => ?_)]
      · have e2 : (fun r c => M (skp (n + i) (n + r)) (n + c)) = fun r c => M (n + skp i r) (n + c) := by
          funext r c
          have : skp (n + i) (n + r) = n + skp i r := by unfold skp; split <;> split <;> omega
          rw [this]
        show sg (m - i) * M (n + i) (n + m) * (det n A * det m fun r c => M (skp (n + i) (n + r)) (n + c)) = _
        rw [e2]
        generalize det m _ = D
        generalize det n A = D2
        generalize sg (m - i) = S
        generalize M (n + i) (n + m) = X
        grind
      · have : skp (n + i) r = r := by unfold skp; rw [if_pos (by omega)]
        rw [this]; exact h1 r c hr hc
      · have : skp (n + i) r = r := by unfold skp; rw [if_pos (by omega)]
        rw [this]; exact h2 r c hr hc
    · rw [h2 i (n + m) hi (by omega)]
      generalize sg _ = S
      generalize det _ _ = D
      grind
/-- n rows with noughts ahead, m rows with less one each ahead -/
theorem det_behind {n : Nat} {C : Mx} : ∀ (m : Nat) (M : Mx), (∀ r c, r < n → c < m → M r c = 0) → (∀ r c, r < n → c < n → M r (m + c) = C r c) → (∀ r c, r < m → c < m → M (n + r) c = if r = c then -1 else 0) → det (n + m) M = (- sg n) ^ m * det n C
  | 0, M, _, h2, _ => by
    show det n M = _
    rw [Int.pow_zero, Int.one_mul]
    exact det_congr fun r c hr hc => by have := h2 r c hr hc; rw [Nat.zero_add] at this; exact this
  | m + 1, M, h1, h2, h3 => by
    show det (n + m + 1) M = _
    have e := det_cyc (n := n + m + 1) n M (by omega)
    rw [first_col (n + m) _ fun i hi hle => ?_] at e
    · have e0 : M (cyc n 0) 0 = -1 := by
        have := h3 0 0 (by omega) (by omega)
        rw [if_pos rfl] at this
        exact this
      have ih := det_behind (n := n) (C := C) m (fun r c => M (skp n r) (c + 1)) (fun r c hr hc => ?_) (fun r c hr hc => ?_) (fun r c hr hc => ?_)
      · have e1 : det (n + m) (fun r c => M (cyc n (r + 1)) (c + 1)) = (- sg n) ^ m * det n C := ih
        rw [e0, e1] at e
        have s2 := sg_sq n
        have e2 : det (n + m + 1) M = sg n * (sg n * det (n + m + 1) M) := by
          rw [← Int.mul_assoc, s2, Int.one_mul]
        rw [e2, ← e, Int.pow_succ]
        generalize (- sg n) ^ m = P
        generalize det n C = D
        generalize sg n = S
        grind
      · have : skp n r = r := by unfold skp; rw [if_pos hr]
        show M (skp n r) (c + 1) = 0
        rw [this]; exact h1 r (c + 1) hr (by omega)
      · have : skp n r = r := by unfold skp; rw [if_pos hr]
        show M (skp n r) (m + c + 1) = C r c
        rw [this, show m + c + 1 = m + 1 + c by omega]; exact h2 r c hr hc
      · have : skp n (n + r) = n + (r + 1) := by unfold skp; rw [if_neg (by omega)]; omega
        show M (skp n (n + r)) (c + 1) = _
        rw [this, h3 (r + 1) (c + 1) (by omega) (by omega)]
        by_cases z : r = c
        · rw [if_pos z, if_pos (by omega)]
        · rw [if_neg z, if_neg (by omega)]
    · match i, hi with
      | i + 1, _ =>
        show M (skp n i) 0 = 0
        unfold skp
        by_cases z : i < n
        · rw [if_pos z]; exact h1 i 0 z (by omega)
        · rw [if_neg z]
          have e4 : i + 1 = n + (i + 1 - n) := by omega
          rw [e4, h3 (i + 1 - n) 0 (by omega) (by omega), if_neg (by omega)]
def mxm (n : Nat) (A B : Mx) : Mx := fun i c => sgm n fun k => A i k * B k c
/-- A ahead, nought behind; below less ones, and B -/
def blk (n : Nat) (A B : Mx) (t : Nat) : Mx := fun r c =>
  if r < n then (if c < n then (if r < t then 0 else A r c) else (if r < t then mxm n A B r (c - n) else 0))
  else (if c < n then (if r - n = c then -1 else 0) else B (r - n) (c - n))
theorem blk_step (n : Nat) (A B : Mx) : ∀ t, t ≤ n → det (n + n) (blk n A B t) = det (n + n) (blk n A B 0)
  | 0, _ => rfl
  | t + 1, h => by
    rw [← blk_step n A B t (by omega), ← det_comb (n := n + n) (blk n A B t) (p := t) (by omega) (fun k => n + k) (fun k => A t k) n fun k hk => ⟨by omega, by omega⟩]
    refine det_congr fun r c hr hc => ?_
    unfold setR
    by_cases e : r = t
    · subst e
      rw [if_pos rfl]
      have hrn : r < n := by omega
      by_cases hcn : c < n
      · have e1 : blk n A B (r + 1) r c = 0 := by unfold blk; rw [if_pos hrn, if_pos hcn, if_pos (by omega)]
        have e2 : blk n A B r r c = A r c := by unfold blk; rw [if_pos hrn, if_pos hcn, if_neg (by omega)]
        have e3 : (sgm n fun k => A r k * blk n A B r (n + k) c) = sgm n fun k => if k = c then - A r c else 0 := sgm_congr fun k hk => by
          unfold blk
          rw [if_neg (by omega), if_pos hcn, show n + k - n = k by omega]
          by_cases z : k = c
          · rw [if_pos z, if_pos z, z]; omega
          · rw [if_neg z, if_neg z]; omega
        have e4 : ∀ m, c < m → (sgm m fun k => if k = c then - A r c else 0) = - A r c := by
          intro m
          induction m with
          | zero => intro h; omega
          | succ m ih =>
            intro h
            show sgm m (fun k => if k = c then - A r c else 0) + (if m = c then - A r c else 0) = _
            by_cases z : m = c
            · subst z
              rw [if_pos rfl, sgm_zero fun i hi => if_neg (by omega)]; omega
            · rw [if_neg z, ih (by omega)]; omega
        show _ = blk n A B r r c + sgm n fun k => A r k * blk n A B r (n + k) c
        rw [e1, e2, e3, e4 n hcn]; omega
      · have e1 : blk n A B (r + 1) r c = mxm n A B r (c - n) := by unfold blk; rw [if_pos hrn, if_neg hcn, if_pos (by omega)]
        have e2 : blk n A B r r c = 0 := by unfold blk; rw [if_pos hrn, if_neg hcn, if_neg (by omega)]
        have e3 : (sgm n fun k => A r k * blk n A B r (n + k) c) = mxm n A B r (c - n) := sgm_congr fun k hk => by
          unfold blk
          rw [if_neg (by omega), if_neg hcn, show n + k - n = k by omega]
        show _ = blk n A B r r c + sgm n fun k => A r k * blk n A B r (n + k) c
        rw [e1, e2, e3]; omega
    · rw [if_neg e]
      unfold blk
      by_cases hrn : r < n
      · rw [if_pos hrn, if_pos hrn]
        have ez : (r < t + 1) = (r < t) := propext ⟨fun h => by omega, fun h => by omega⟩
        simp only [ez]
      · rw [if_neg hrn, if_neg hrn]
theorem sg_one (n : Nat) : (- sg n) ^ n = 1 := by
  rcases Nat.mod_two_eq_zero_or_one n with h | h
  · have e : sg n = 1 := if_pos h
    obtain ⟨k, hk⟩ : ∃ k, n = 2 * k := ⟨n / 2, by omega⟩
    rw [e, hk, Int.pow_mul]
    have : (-1 : Int) ^ 2 = 1 := by decide
    rw [this, Int.one_pow]
  · have e : sg n = -1 := if_neg (by omega)
    rw [e, Int.neg_neg, Int.one_pow]
theorem det_mul (n : Nat) (A B : Mx) : det n (mxm n A B) = det n A * det n B := by
  have e1 : det (n + n) (blk n A B 0) = det n A * det n B := by
    rw [det_block (n := n) (A := A) n (blk n A B 0) (fun r c hr hc => ?_) (fun r c hr hc => ?_)]
    · congr 1
      refine det_congr fun r c hr hc => ?_
      unfold blk
      rw [if_neg (by omega), if_neg (by omega), show n + r - n = r by omega, show n + c - n = c by omega]
    · unfold blk; rw [if_pos hr, if_pos hc, if_neg (by omega)]
    · unfold blk; rw [if_pos hr, if_neg (by omega), if_neg (by omega)]
  have e2 : det (n + n) (blk n A B n) = (- sg n) ^ n * det n (mxm n A B) := by
    refine det_behind (n := n) (C := mxm n A B) n (blk n A B n) (fun r c hr hc => ?_) (fun r c hr hc => ?_) (fun r c hr hc => ?_)
    · unfold blk; rw [if_pos hr, if_pos hc, if_pos hr]
    · unfold blk; rw [if_pos hr, if_neg (by omega), if_pos hr, show n + c - n = c by omega]
    · unfold blk; rw [if_neg (by omega), if_pos hc, show n + r - n = r by omega]
  rw [sg_one, Int.one_mul] at e2
  rw [← e2, blk_step n A B n (Nat.le_refl _), e1]
/-- noughts behind the corner -/
theorem det_low : ∀ (n : Nat) (M : Mx), (∀ i j, i < j → j < n → M i j = 0) → det n M = prN n fun i => M i i
  | 0, _, _ => rfl
  | n + 1, M, h => by
    rw [det_succ]
    show sgm n _ + _ = prN n (fun i => M i i) * M n n
    rw [sgm_zero fun i hi => ?_]
    · have e : det n (fun r c => M (skp n r) c) = det n M := det_congr fun r c hr hc => by
        have : skp n r = r := by unfold skp; rw [if_pos hr]
        rw [this]
      show 0 + sg (n - n) * M n n * det n (fun r c => M (skp n r) c) = _
      rw [e, Nat.sub_self, det_low n M fun i j hi hj => h i j hi (by omega)]
      have : sg 0 = 1 := rfl
      rw [this]
      generalize prN n _ = P
      generalize M n n = X
      grind
    · rw [h i n hi (by omega)]
      generalize sg _ = S
      generalize det _ _ = D
      grind
end L2

set_option Elab.async false
set_option linter.all false
set_option maxRecDepth 100000
namespace L2
open PySem PySem.Spec PyProof.Rows
/-! ## max of a list of whole numbers; min of one with a value for none -/
theorem ints_items : ∀ {ns : List Int} {us : List Value}, Vals (ns.map V.int) us → ∃ xs : Array (Int × Tok), us.toArray = intItems xs ∧ xs.toList.map (·.1) = ns
  | [], _, .nil => ⟨#[], by simp [intItems], rfl⟩
  | n :: ns, _, .cons r rr => by
    obtain ⟨t, rfl⟩ := (show ∃ t, _ = Value.int n t from r)
    obtain ⟨xs, e1, e2⟩ := ints_items rr
    refine ⟨((n, t) :: xs.toList).toArray, ?_, by simp [e2]⟩
    have e3 := congrArg Array.toList e1
    apply Array.toList_inj.mp
    simp only [intItems, Array.toList_map] at e3 ⊢
    simp [e3]
theorem numAt_coef {xs : Array (Int × Tok)} {ns : List Int} (h : xs.toList.map (·.1) = ns) (i : Nat) : numAt xs i = coef ns i := by
  unfold numAt coef
  rw [← h, List.getD_eq_getElem?_getD, List.getElem?_map]
  simp
section
variable {X : Cx}
def rMaxL (K : PySem.W.Frag) : List V → Hp → VK → Prop := fun xs H Q => ∃ p, ∃ ns : List Int, xs = [.ref p] ∧ SqL K H p (ns.map V.int) ∧ ns ≠ [] ∧ ∀ M, M ∈ ns → (∀ a ∈ ns, a ≤ M) → Q (.int M) H
theorem call_maxL (hc : X.calm = true) : CallR X (.builtin "max") (rMaxL X.K) := by
  intro pins s σ H xs us Q I rv h
  obtain ⟨p, ns, rfl, hq, hne, q⟩ := h
  obtain ⟨u, rfl, ru⟩ := vals1 rv
  cases (show u = Value.ref p from ru)
  obtain ⟨its, r, hp, _⟩ := I.list hq
  obtain ⟨ys, e1, e2⟩ := ints_items r
  have hl := hp.isList
  rw [e1] at hl
  have hsz : ys.size = ns.length := by rw [← e2]; simp
  have hpos : 0 < ns.length := List.length_pos_iff.mpr hne
  refine max_intList (I.ok.hd hc) hl (by omega) fun v h' tk hv hk => ?_
  obtain ⟨t, rfl⟩ := intItems_at hv
  obtain ⟨h1, h2⟩ := argBest_gt (numAt ys) (ys.size - 1)
  refine ⟨.int _, H, I.kept (h' := h') (t' := tk) hk, ⟨t, rfl⟩, q _ ?_ fun a ha => ?_⟩
  · rw [numAt_coef e2, coef_lt (by omega)]; exact List.getElem_mem _
  · obtain ⟨j, hj, rfl⟩ := List.getElem_of_mem ha
    have := h2 j (by omega)
    rw [numAt_coef e2, coef_lt hj] at this
    exact this
theorem callK_maxL {K : PySem.W.Frag} (h : X.K = K) (hc : X.calm = true) : CallR X (.builtin "max") (rMaxL K) := by subst h; exact call_maxL hc
end
/-! ### a built-in called with keywords -/
section
variable {X : Cx} {x : Str} {id : String} {p pos : Pos} {e : Expr} {es : List Expr} {kws : List Keyword} {t tk : TA} {ks : List Str}
def CallKR (X : Cx) (f : Value) (ks : List Str) (r : List V → List V → Hp → VK → Prop) : Prop :=
  ∀ (pins : List (Addr × Obj)) (s : Shared) (σ : St) (H : Hp) (xs ys : List V) (us ws : List Value) (Q : VK), Inv X pins σ H s → Vals xs us → Vals ys ws → r xs ys H Q → wpAny (model X.prog X.w) X.A (call f us (ks.zip ws)) (EP X pins σ Q) X.xe s
def tCBK (r : List V → List V → Hp → VK → Prop) (t tk : TA) : TE := fun σ H Q => t σ H fun vs H1 => tk σ H1 fun ws H2 => r vs ws H2 Q
theorem pe_callBk {r : List V → List V → Hp → VK → Prop} (hc : CallKR X (.builtin id) ks r) (hg : Gl X x) (hm : X.mg x = none) (hv : bootBuiltins x = some (.builtin id)) (ha : PA X (e :: es) t) (hk : PK X kws tk)
    (hks : (backToKw pos (keywordEach kws X.env)).filterMap (·.1) = ks := by rfl)
    (hn : x ≠ "__name__" := by decide) (hdb : (x == ("__debug__" : Str)) = false := by decide)
    (he : backTo pos (starEach (e :: es) X.env) = (false, eval e X.env) :: backTo pos (starEach es X.env) := by rfl)
    (hplain : (backTo pos (starEach (e :: es) X.env)).any (·.1) = false := by rfl)
    (hall : (backToKw pos (keywordEach kws X.env)).all (·.1.isSome) = true := by rfl)
    (hkw : (backToKw pos (keywordEach kws X.env)).any (·.1.isNone) = false := by rfl) : PE X (.Call (.Name x p) (e :: es) kws pos) (tCBK r t tk) := by
  refine ⟨?_⟩
  intro pins s σ H Q I h
  refine wpAny_Call_Name_kw (ld_blt I hg hm hv ?_ hn hdb)
  refine callWith_builtin_kwB hplain hkw ?_
  have hb := ha pos pins s σ H _ I h
  rw [he] at hb ⊢
  refine evalArgs_kwB hall (thn hb fun us s1 ⟨vs, H1, I1, r1, q1⟩ => ?_)
  refine thn (hk pos pins s1 σ H1 _ I1 q1) fun ws s2 ⟨ys, H2, I2, r2, q2⟩ => ?_
  rw [hks]
  exact hc pins s2 σ H2 vs ys us ws Q I2 r1 r2 q2
end
/-! ### min(.., default=d) -/
section
variable {prog : Program} {w : World} {A : Around} {R : Result → Shared → Prop} {J : Addr} {fp wr : List Addr} {n : Nat} {P : Nat → Value → Prop} {St : Nat → Heap → Prop}
theorem minD_turns (W : Walks prog w A.in1 J fp wr n P St) (bt : Nat → Nat → Bool) (hcmp : CmpOf prog w A.in1 .Lt P bt) (S : Addr) (hSf : S ∉ fp) (kw : List (Str × Value)) :
    ∀ (k j : Nat) (s : Shared) (vb : Value) (c : Nat), n - (j + 1) = k → j + 1 ≤ n → St (j + 1) s.heap → P (argBest bt j) vb →
    s.heap.get? S = some { cls := .type "list", dict := none, data := .seq #[vb, vb] c, slots := #[] } →
    (∀ v h' tk, P (argBest bt (n - 1)) v → (∀ b o, b ∉ wr → b ≠ S → s.heap.get? b = some o → h'.get? b = some o) → R (.ok (.ret v)) { s with heap := h', toks := tk }) →
    codeAny (model prog w) A (.builtin "min.loop" ⟨[.ref J, .none, .ref S], kw⟩) R s := by
  have hSw : S ∉ wr := fun h => hSf (W.sub _ h)
  have nm : (toString "min" ++ toString ".loop" : String) = "min.loop" := by decide
  intro k
  induction k with
  | zero =>
    intro j s vb c hk hj hst hPb hS hR
    have hin : j + 1 = n := by omega
    refine codeAny_builtin PySem.F.entry_min_loop ?_
    rw [Around.under_plainId PySem.F.plain_min_loop _]
    show wpAny _ A.in1 (seqItems? (.ref S) >>= _) _ _ s
    refine wpAny_bind (wpAny_seqItems hS rfl ?_)
    show wpAny _ A.in1 (tryCatch (pyNext (.ref J)) _ >>= _) _ _ s
    refine wpAny_bind (wpAny_tryCatch (W.done s _ _ (hin ▸ hst) fun h' tk kk => ?_))
    have hS' := kk S _ hSw hS
    show wpAny _ A.in1 (updateSeq S (fun _ => #[]) >>= _) _ _ _
    refine wpAny_bind (wpAny_updateSeq hS' rfl (wpAny_bind (wpAny_letGo (wpAny_pure ?_))))
    exact hR vb _ tk (by rw [← hin]; exact hPb) fun b o hbw hbS e => (Heap.get?_update_other _ _ (Ne.symm hbS)).trans (kk b o hbw e)
  | succ k ih =>
    intro j s vb c hk hj hst hPb hS hR
    refine codeAny_builtin PySem.F.entry_min_loop ?_
    rw [Around.under_plainId PySem.F.plain_min_loop _]
    show wpAny _ A.in1 (seqItems? (.ref S) >>= _) _ _ s
    refine wpAny_bind (wpAny_seqItems hS rfl ?_)
    show wpAny _ A.in1 (tryCatch (pyNext (.ref J)) _ >>= _) _ _ s
    refine wpAny_bind (wpAny_tryCatch (W.item (j + 1) s _ _ (by omega) hst fun v h' tk hP hst' kk => ?_))
    have hS' := kk S _ hSw hS
    show wpAny _ A.in1 (tryCatch (holding [v, v] (richCompare .Lt v vb >>= _)) _ >>= _) _ _ _
    refine wpAny_bind (wpAny_tryCatch (wpAny_holding (wpAny_bind (hcmp (j + 1) (argBest bt j) v vb _ _ _ hP hPb ?_))))
    refine wpAny_bind (wpAny_holding (wpAny_truthy_bool (wpAny_bind (wpAny_letGo (wpAny_pure ?_)))))
    cases hb : bt (j + 1) (argBest bt j) with
    | true =>
      simp only [if_true]
      refine wpAny_bind (wpAny_updateSeq hS' rfl (wpAny_bind (wpAny_letGo ?_)))
      rw [nm]
      refine wpAny_pure ⟨plainId_quiet PySem.F.plain_min_loop _, ih (j + 1) _ v _ (by omega) (by omega) (W.frame _ _ _ hst' fun b hbf o e => ?_) (by simp only [argBest, hb, if_true]; exact hP) (Heap.get?_update_self _ hS' rfl) fun v2 h2 tk2 hP2 kk2 => ?_⟩
      · exact (Heap.get?_update_other _ _ (fun h : S = b => hSf (by rw [h]; exact hbf))).trans e
      · exact hR v2 h2 tk2 hP2 fun b o hbw hbS e => kk2 b o hbw hbS ((Heap.get?_update_other _ _ (Ne.symm hbS)).trans (kk b o hbw e))
    | false =>
      simp only [Bool.false_eq_true, if_false]
      refine wpAny_bind (wpAny_letGo ?_)
      rw [nm]
      refine wpAny_pure ⟨plainId_quiet PySem.F.plain_min_loop _, ih (j + 1) _ vb c (by omega) (by omega) hst' (by simp only [argBest, hb, Bool.false_eq_true, if_false]; exact hPb) hS' fun v2 h2 tk2 hP2 kk2 => ?_⟩
      exact hR v2 h2 tk2 hP2 fun b o hbw hbS e => kk2 b o hbw hbS (kk b o hbw e)
theorem minD_first (W : Walks prog w A.in1 J fp wr n P St) (bt : Nat → Nat → Bool) (hcmp : CmpOf prog w A.in1 .Lt P bt) (S : Addr) (hSf : S ∉ fp) (hn : 0 < n) (kw : List (Str × Value)) {s : Shared} {c : Nat} (hst : St 0 s.heap)
    (hS : s.heap.get? S = some { cls := .type "list", dict := none, data := .seq #[] c, slots := #[] })
    (hR : ∀ v h' tk, P (argBest bt (n - 1)) v → (∀ b o, b ∉ wr → b ≠ S → s.heap.get? b = some o → h'.get? b = some o) → R (.ok (.ret v)) { s with heap := h', toks := tk }) :
    codeAny (model prog w) A (.builtin "min.loop" ⟨[.ref J, .none, .ref S], kw⟩) R s := by
  have hSw : S ∉ wr := fun h => hSf (W.sub _ h)
  have nm : (toString "min" ++ toString ".loop" : String) = "min.loop" := by decide
  refine codeAny_builtin PySem.F.entry_min_loop ?_
  rw [Around.under_plainId PySem.F.plain_min_loop _]
  show wpAny _ A.in1 (seqItems? (.ref S) >>= _) _ _ s
  refine wpAny_bind (wpAny_seqItems hS rfl ?_)
  show wpAny _ A.in1 (tryCatch (pyNext (.ref J)) _ >>= _) _ _ s
  refine wpAny_bind (wpAny_tryCatch (W.item 0 s _ _ hn hst fun v h' tk hP hst' kk => ?_))
  have hS' := kk S _ hSw hS
  show wpAny _ A.in1 (updateSeq S (fun _ => #[v, v]) >>= _) _ _ _
  refine wpAny_bind (wpAny_updateSeq hS' rfl ?_)
  rw [nm]
  refine wpAny_pure ⟨plainId_quiet PySem.F.plain_min_loop _, minD_turns W bt hcmp S hSf kw _ 0 _ v _ rfl hn (W.frame _ _ _ hst' fun b hbf o e => ?_) hP (Heap.get?_update_self _ hS' rfl) fun v2 h2 tk2 hP2 kk2 => ?_⟩
  · exact (Heap.get?_update_other _ _ (fun h : S = b => hSf (by rw [h]; exact hbf))).trans e
  · exact hR v2 h2 tk2 hP2 fun b o hbw hbS e => kk2 b o hbw hbS ((Heap.get?_update_other _ _ (Ne.symm hbS)).trans (kk b o hbw e))
theorem minD_none (W : Walks prog w A.in1 J fp wr 0 P St) (S : Addr) (hSf : S ∉ fp) {d : Value} {s : Shared} {c : Nat} (hst : St 0 s.heap) (hS : s.heap.get? S = some { cls := .type "list", dict := none, data := .seq #[] c, slots := #[] })
    (hR : ∀ h' tk, (∀ b o, b ∉ wr → s.heap.get? b = some o → h'.get? b = some o) → R (.ok (.ret d)) { s with heap := h', toks := tk }) :
    codeAny (model prog w) A (.builtin "min.loop" ⟨[.ref J, .none, .ref S], [(Str.ofString "default", d)]⟩) R s := by
  refine codeAny_builtin PySem.F.entry_min_loop ?_
  rw [Around.under_plainId PySem.F.plain_min_loop _]
  show wpAny _ A.in1 (seqItems? (.ref S) >>= _) _ _ s
  refine wpAny_bind (wpAny_seqItems hS rfl ?_)
  show wpAny _ A.in1 (tryCatch (pyNext (.ref J)) _ >>= _) _ _ s
  refine wpAny_bind (wpAny_tryCatch (W.done s _ _ hst fun h' tk kk => ?_))
  refine wpAny_bind (wpAny_rule (wpAny_pure ?_))
  exact hR h' tk kk
end
theorem args_minD (a v : Value) : argsOk "min" ⟨[a], [(Str.ofString "default", v)]⟩ := by unfold argsOk; kernel_rfl
section
variable {X : Cx}
def rMinD (K : PySem.W.Frag) : List V → List V → Hp → VK → Prop := fun xs ys H Q => ∃ p d, ∃ ns : List Int, xs = [.ref p] ∧ ys = [d] ∧ SqL K H p (ns.map V.int) ∧ (ns = [] → Q d H) ∧ (ns ≠ [] → ∀ M, M ∈ ns → (∀ a ∈ ns, M ≤ a) → Q (.int M) H)
theorem call_minD (hc : X.calm = true) : CallKR X (.builtin "min") ["default"] (rMinD X.K) := by
  intro pins s σ H xs ys us ws Q I rv rw' h
  obtain ⟨p, d, ns, rfl, rfl, hq, q0, q1⟩ := h
  obtain ⟨u, rfl, ru⟩ := vals1 rv
  obtain ⟨dv, rfl, rd⟩ := vals1 rw'
  cases (show u = Value.ref p from ru)
  obtain ⟨its, r, hp, _⟩ := I.list hq
  obtain ⟨zs, e1, e2⟩ := ints_items r
  have hl := hp.isList
  rw [e1] at hl
  have hsz : zs.size = ns.length := by rw [← e2]; simp
  have hlt : p < s.heap.objs.size := by obtain ⟨_, e, _⟩ := hl; exact Heap.lt_size e
  have nm : (toString "min" ++ toString ".loop" : String) = "min.loop" := by decide
  show wpAny _ _ (call (.builtin "min") [.ref p] [(Str.ofString "default", dv)]) _ _ _
  refine PyProof.Rows.kmk_tree PySem.F.kind_min PySem.F.plain_min PySem.F.entry_min (args_minD _ _) ?_
  show wpAny _ X.A.in1 (Builtin.Builtins.bindParams "min" ["key", "default"] 0 ⟨[], [(Str.ofString "default", dv)]⟩ >>= _) _ _ s
  refine wpAny_bind (wpAny_of_eq (show Builtin.Builtins.bindParams "min" ["key", "default"] 0 ⟨[], [(Str.ofString "default", dv)]⟩ = pure [none, some dv] from rfl) (wpAny_bind (wpAny_pure ?_)))
  refine wpAny_bind (iter_intList hl fun s2 e st hfp hlI => ?_)
  subst e
  refine wpAny_bind (wpAny_newList ?_ (Nat.zero_le _))
  rw [nm]
  have W := Walks.list (prog := X.prog) (w := X.w) (A := X.A.in1) (I.ok.hd hc) s.heap.objs.size p hlI (intItems zs)
  have isz : (intItems zs).size = ns.length := by simp [intItems, hsz]
  rw [isz] at W
  have hSf : (s.heap.push { cls := .type "list_iterator", data := .fields #[.ref p, .int 0 0] }).objs.size ∉ [s.heap.objs.size, p] := fun hm => Nat.lt_irrefl _ (hfp _ hm)
  have hst := W.frame 0 _ ((s.heap.push { cls := .type "list_iterator", data := .fields #[.ref p, .int 0 0] }).push { cls := .type "list", data := .seq ([] : List Value).toArray }) st fun b _ o e => Heap.get?_push_of_some _ e
  have hkeep : ∀ {h' : Heap}, (∀ b o, b ∉ [s.heap.objs.size] → b ≠ (s.heap.push { cls := .type "list_iterator", data := .fields #[.ref p, .int 0 0] }).objs.size → ((s.heap.push { cls := .type "list_iterator", data := .fields #[.ref p, .int 0 0] }).push { cls := .type "list", data := .seq ([] : List Value).toArray }).get? b = some o → h'.get? b = some o) → ∀ b o, s.heap.get? b = some o → h'.get? b = some o := fun {h'} k b o e => by
    have hb := Heap.lt_size e
    refine k b o (fun hm => ?_) (fun z => ?_) (Heap.get?_push_of_some _ (Heap.get?_push_of_some _ e))
    · rw [List.mem_singleton.mp hm] at hb; exact Nat.lt_irrefl _ hb
    · rw [Heap.size_push] at z; rw [z] at hb; exact absurd hb (Nat.not_lt.mpr (Nat.le_succ _))
  by_cases hn : ns = []
  · have h0 : ns.length = 0 := by rw [hn]; rfl
    rw [h0] at W
    refine wpAny_pure ⟨plainId_quiet PySem.F.plain_min_loop _, minD_none (d := dv) W _ hSf hst (Heap.get?_push_size _ rfl) fun h' tk kk => ?_⟩
    exact ⟨d, H, I.kept (h' := h') (t' := tk) (hkeep fun b o h1 _ e => kk b o h1 e), rd, q0 hn⟩
  · have hpos : 0 < ns.length := List.length_pos_iff.mpr hn
    refine wpAny_pure ⟨plainId_quiet PySem.F.plain_min_loop _, minD_first W _ (CmpOf.ints_lt (numAt zs) fun _ _ h => intItems_at h) _ hSf hpos _ hst (Heap.get?_push_size _ rfl) fun v h' tk hP kk => ?_⟩
    obtain ⟨t, rfl⟩ := intItems_at hP
    obtain ⟨h1, h2⟩ := argBest_lt (numAt zs) (ns.length - 1)
    refine ⟨.int _, H, I.kept (h' := h') (t' := tk) (hkeep fun b o h1 h2 e => kk b o h1 h2 e), ⟨t, rfl⟩, q1 hn _ ?_ fun a ha => ?_⟩
    · rw [numAt_coef e2, coef_lt (by omega)]; exact List.getElem_mem _
    · obtain ⟨j, hj, rfl⟩ := List.getElem_of_mem ha
      have := h2 j (by omega)
      rw [numAt_coef e2 j, coef_lt hj] at this
      exact this
theorem callK_minD {K : PySem.W.Frag} (h : X.K = K) (hc : X.calm = true) : CallKR X (.builtin "min") ["default"] (rMinD K) := by subst h; exact call_minD hc
end
end L2

set_option Elab.async false
set_option linter.all false
set_option maxRecDepth 100000
namespace L2
open PySem PySem.Spec PyProof.Rows
/-! ## values of polynomials -/
def E (N : Nat) (a : Nat → Int) (x : Int) : Int := sumN N fun i => a i * x ^ i
theorem E_ge {a : Nat → Int} {x : Int} {n : Nat} (h : ∀ i, n ≤ i → a i = 0) : ∀ {N : Nat}, n ≤ N → E N a x = E n a x := by
  intro N hN
  obtain ⟨k, rfl⟩ := Nat.exists_eq_add_of_le hN
  unfold E
  rw [sumN_split, sumN_zero (n := k) fun i _ => by rw [h _ (Nat.le_add_right _ _), Int.zero_mul], Int.add_zero]
theorem E_cv {a b : Nat → Int} {x : Int} {n m : Nat} (ha : ∀ i, n ≤ i → a i = 0) (hb : ∀ i, m ≤ i → b i = 0) : E (n + m + 1) (cv a b) x = E n a x * E m b x := by
  have e1 : E (n + m + 1) (cv a b) x = sumN (n + m + 1) fun k => sumN (k + 1) fun i => a i * b (k - i) * x ^ k := sumN_congr fun k _ => by
    show sumN (k + 1) (fun i => a i * b (k - i)) * x ^ k = _
    rw [← sumN_mulR]
  rw [e1, sumN_tri fun i k => a i * b (k - i) * x ^ k]
  have e2 : (sumN (n + m + 1) fun i => sumN (n + m - i + 1) fun j => a i * b (i + j - i) * x ^ (i + j)) = sumN (n + m + 1) fun i => a i * x ^ i * E m b x := sumN_congr fun i hi => by
    by_cases h : n ≤ i
    · rw [ha i h, Int.zero_mul, Int.zero_mul]
      exact sumN_zero fun j _ => by rw [Int.zero_mul, Int.zero_mul]
    · rw [← E_ge (N := n + m - i + 1) hb (by omega)]
      unfold E
      rw [← sumN_mul]
      refine sumN_congr fun j _ => ?_
      have e : i + j - i = j := by omega
      rw [e, Int.pow_add]
      ac_rfl
  rw [e2, sumN_mulR]
  congr 1
  exact E_ge ha (by omega)
def ev (f : List Int) (x : Int) : Int := E f.length (coef f) x
theorem ev_at {f : List Int} {x : Int} {N : Nat} (h : f.length ≤ N) : ev f x = E N (coef f) x := (E_ge (fun i hi => coef_ge hi) h).symm
theorem ev_congr {f g : List Int} (h : ∀ i, coef f i = coef g i) (x : Int) : ev f x = ev g x := by
  rw [ev_at (N := max f.length g.length) (Nat.le_max_left _ _), ev_at (f := g) (N := max f.length g.length) (Nat.le_max_right _ _)]
  exact sumN_congr fun i _ => by rw [h]
theorem ev_trim (f : List Int) (x : Int) : ev (trim f) x = ev f x := ev_congr (fun i => coef_trim f i) x
theorem ev_padd (f g : List Int) (x : Int) : ev (padd f g) x = ev f x + ev g x := by
  have e : ev (padd f g) x = ev (addc f g) x := ev_trim _ _
  rw [e, ev_at (f := f) (N := max f.length g.length) (Nat.le_max_left _ _), ev_at (f := g) (N := max f.length g.length) (Nat.le_max_right _ _)]
  rw [ev_at (f := addc f g) (N := max f.length g.length) (by unfold addc; simp)]
  unfold E
  rw [← sumN_add]
  exact sumN_congr fun i _ => by rw [coef_addc, Int.add_mul]
theorem ev_pmul (f g : List Int) (x : Int) : ev (pmul f g) x = ev f x * ev g x := by
  have hl : (pmul f g).length ≤ f.length + g.length + 1 := by
    unfold pmul
    split
    · exact Nat.zero_le _
    · rw [List.length_map, List.length_range]; omega
  rw [ev_at hl, cpf]
  exact E_cv (fun i hi => coef_ge hi) fun i hi => coef_ge hi
theorem coef_cons_zero (a : Int) (r : List Int) : coef (a :: r) 0 = a := rfl
theorem coef_cons_succ (a : Int) (r : List Int) (i : Nat) : coef (a :: r) (i + 1) = coef r i := by simp [coef]
/-- from the highest term down -/
def hor (x : Int) : List Int → Int
  | [] => 0
  | a :: r => hor x r * x + a
theorem hor_ev (x : Int) : ∀ f : List Int, hor x f = ev f x
  | [] => rfl
  | a :: r => by
    show hor x r * x + a = E (r.length + 1) (coef (a :: r)) x
    rw [hor_ev x r]
    unfold E
    rw [sumN_head, coef_cons_zero, Int.pow_zero, Int.mul_one]
    have e : (sumN r.length fun i => coef (a :: r) (i + 1) * x ^ (i + 1)) = ev r x * x := by
      unfold ev E
      rw [← sumN_mulR]
      refine sumN_congr fun i _ => ?_
      rw [coef_cons_succ, Int.pow_succ, Int.mul_assoc]
    rw [e]
    omega
theorem hor_drop {x : Int} {f : List Int} {i : Nat} (hi : i < f.length) : hor x (f.drop (f.length - (i + 1))) = hor x (f.drop (f.length - i)) * x + coef f (f.length - 1 - i) := by
  have e1 : f.length - (i + 1) = f.length - 1 - i := by omega
  have e2 : f.length - i = f.length - 1 - i + 1 := by omega
  rw [e1, e2, List.drop_eq_getElem_cons (by omega), coef_lt (by omega)]
  rfl
/-! ### shifted -/
def pshift (c : Int) (f : List Int) : List Int := pjoin [c, 1] (f.map fun a => trim [a])
theorem ev_const (a x : Int) : ev (trim [a]) x = a := by
  rw [ev_trim]
  show 0 + coef [a] 0 * x ^ 0 = a
  rw [Int.pow_zero, Int.mul_one, Int.zero_add]
  rfl
theorem ev_lin (c x : Int) : ev [c, 1] x = x + c := by
  show 0 + c * x ^ 0 + 1 * x ^ 1 = x + c
  rw [Int.pow_zero, Int.pow_succ, Int.pow_zero]
  omega
theorem ev_pshift (c x : Int) : ∀ f : List Int, ev (pshift c f) x = hor (x + c) f
  | [] => rfl
  | a :: r => by
    show ev (padd (pmul (pshift c r) [c, 1]) (trim [a])) x = hor (x + c) r * (x + c) + a
    rw [ev_padd, ev_pmul, ev_pshift c x r, ev_const, ev_lin]
theorem pshift_drop {c : Int} {f : List Int} {i : Nat} (hi : i < f.length) : pshift c (f.drop (f.length - (i + 1))) = padd (pmul (pshift c (f.drop (f.length - i))) [c, 1]) (trim [coef f (f.length - 1 - i)]) := by
  have e1 : f.length - (i + 1) = f.length - 1 - i := by omega
  have e2 : f.length - i = f.length - 1 - i + 1 := by omega
  rw [e1, e2, List.drop_eq_getElem_cons (by omega), coef_lt (by omega)]
  rfl
theorem padd_const (found step : List Int) (a : Int) : padd found (step.map fun x => a * x) = padd found (trim (pmul (trim [a]) step)) := norm_ext (norm_padd _ _) (norm_padd _ _) fun m => by
  rw [coef_padd, coef_padd, coef_trim, cp, coef_map (by simp), ctf, cv_unit (c := a) rfl fun i hi => coef_ge (by show 1 ≤ i; omega)]
/-! ### the derivative -/
def dl (f : List Int) : List Int := (List.range (f.length - 1)).map fun i => ((i + 1 : Nat) : Int) * coef f (i + 1)
theorem coef_dl (f : List Int) (m : Nat) : coef (dl f) m = ((m + 1 : Nat) : Int) * coef f (m + 1) :=
  coef_map_range' (c := fun i => ((i + 1 : Nat) : Int) * coef f (i + 1)) (fun i hi => by rw [coef_ge (by omega), Int.mul_zero]) m
theorem norm_dl {f : List Int} (h : Norm f) : Norm (dl f) := by
  by_cases hl : f.length ≤ 1
  · left
    unfold dl
    have : f.length - 1 = 0 := by omega
    rw [this]
    rfl
  · right
    have e : (dl f).length = f.length - 1 := by unfold dl; simp
    rw [coef_dl, e]
    have e2 : f.length - 1 - 1 + 1 = f.length - 1 := by omega
    rw [e2]
    refine Int.mul_ne_zero (by omega) (h.last fun z => by rw [z] at hl; exact hl (by decide))
theorem cv_deriv (a b : Nat → Int) (m : Nat) : ((m + 1 : Nat) : Int) * cv a b (m + 1) = cv (fun i => ((i + 1 : Nat) : Int) * a (i + 1)) b m + cv a (fun i => ((i + 1 : Nat) : Int) * b (i + 1)) m := by
  unfold cv
  rw [← sumN_mul]
  have e0 : (sumN (m + 1 + 1) fun i => ((m + 1 : Nat) : Int) * (a i * b (m + 1 - i))) = sumN (m + 1 + 1) fun i => (i : Int) * a i * b (m + 1 - i) + a i * (((m + 1 - i : Nat) : Int) * b (m + 1 - i)) := sumN_congr fun i hi => by
    have : ((m + 1 : Nat) : Int) = (i : Int) + ((m + 1 - i : Nat) : Int) := by omega
    rw [this, Int.add_mul]
    congr 1
    · rw [Int.mul_assoc]
    · ac_rfl
  rw [e0, sumN_add]
  congr 1
  · rw [sumN_head]
    have z : ((0 : Nat) : Int) * a 0 * b (m + 1 - 0) = 0 := by simp
    rw [z, Int.zero_add]
    refine sumN_congr fun i hi => ?_
    have e : m + 1 - (i + 1) = m - i := by omega
    rw [e]
  · show sumN (m + 1) _ + a (m + 1) * (((m + 1 - (m + 1) : Nat) : Int) * b (m + 1 - (m + 1))) = _
    have z : a (m + 1) * (((m + 1 - (m + 1) : Nat) : Int) * b (m + 1 - (m + 1))) = 0 := by simp
    rw [z, Int.add_zero]
    refine sumN_congr fun i hi => ?_
    have e : m + 1 - i = m - i + 1 := by omega
    rw [e]
theorem dl_pmul {f g : List Int} (hf : Norm f) (hg : Norm g) : dl (pmul f g) = padd (trim (pmul (dl f) g)) (trim (pmul f (dl g))) := norm_ext (norm_dl (norm_pmul hf hg)) (norm_padd _ _) fun m => by
  rw [coef_dl, coef_padd, coef_trim, coef_trim, cp, cp, cp, cv_deriv]
  have e1 : coef (dl f) = fun i => ((i + 1 : Nat) : Int) * coef f (i + 1) := funext fun i => coef_dl f i
  have e2 : coef (dl g) = fun i => ((i + 1 : Nat) : Int) * coef g (i + 1) := funext fun i => coef_dl g i
  rw [e1, e2]
end L2

/-! rests by a monic polynomial; the determinant of all rests, by zeros -/
set_option Elab.async false
set_option linter.all false
set_option maxRecDepth 100000
namespace L2
abbrev Fn := Nat → Int
theorem sgm_sumN (f : Nat → Int) : ∀ n, sgm n f = sumN n f
  | 0 => rfl
  | n + 1 => by
    show sgm n f + f n = sumN n f + f n
    rw [sgm_sumN f n]
def xp (i : Nat) : Fn := fun k => if k = i then 1 else 0
structure Top (f : Fn) (n : Nat) : Prop where
  one : f n = 1
  top : ∀ m, n < m → f m = 0
/-- r is the rest of u by f; the quotient's numbers end somewhere -/
structure Rst (f : Fn) (n : Nat) (u r : Fn) : Prop where
  ex : ∃ (q : Fn) (N : Nat), (∀ m, N ≤ m → q m = 0) ∧ ∀ m, u m = cv q f m + r m
  lo : ∀ m, n ≤ m → r m = 0
theorem cv_top {d f : Fn} {n t : Nat} (hf : Top f n) (hd : ∀ i, t < i → d i = 0) : cv d f (t + n) = d t := by
  unfold cv
  rw [sumN_one (k := t) (by omega) fun i hi hne => ?_]
  · rw [show t + n - t = n by omega, hf.one, Int.mul_one]
  · by_cases c : t < i
    · rw [hd i c, Int.zero_mul]
    · rw [hf.top _ (by omega), Int.mul_zero]
theorem cv_sub (a b c : Fn) (m : Nat) : cv (fun i => a i - b i) c m = cv a c m - cv b c m := by
  have h := cv_add (fun i => a i - b i) b c m
  have e : (fun i => a i - b i + b i) = a := by funext i; omega
  rw [e] at h
  omega
theorem Rst.uniq {f : Fn} {n : Nat} {u r s : Fn} (hf : Top f n) (h : Rst f n u r) (h' : Rst f n u s) : r = s := by
  obtain ⟨⟨q, N, hq, e⟩, lo⟩ := h
  obtain ⟨⟨q', N', hq', e'⟩, lo'⟩ := h'
  have eq1 : ∀ m, cv (fun i => q i - q' i) f m = s m - r m := fun m => by
    rw [cv_sub]
    have := e m
    have := e' m
    omega
  have dz : ∀ k t, max N N' - k ≤ t → q t - q' t = 0 := by
    intro k
    induction k with
    | zero => intro t ht; rw [hq t (by omega), hq' t (by omega)]; rfl
    | succ k ih =>
      intro t ht
      by_cases c : max N N' - k ≤ t
      · exact ih t c
      · have := cv_top (d := fun i => q i - q' i) (t := t) hf fun i hi => ih i (by omega)
        rw [eq1, lo _ (by omega), lo' _ (by omega)] at this
        exact this.symm
  funext m
  have h0 : (fun i => q i - q' i) = fun _ => 0 := funext fun t => dz (max N N') t (by omega)
  have := eq1 m
  rw [h0, cv_zero] at this
  omega
theorem cv_smul (k : Int) (a c : Fn) (m : Nat) : cv (fun i => k * a i) c m = k * cv a c m := by
  unfold cv
  rw [← sumN_mul]
  exact sumN_congr fun i hi => by rw [Int.mul_assoc]
theorem cv_smulR (k : Int) (a c : Fn) (m : Nat) : cv a (fun i => k * c i) m = k * cv a c m := by
  rw [cv_comm, cv_smul, cv_comm]
theorem Rst.add {f : Fn} {n : Nat} {u r v s : Fn} (h : Rst f n u r) (h' : Rst f n v s) (k : Int) : Rst f n (fun m => u m + k * v m) (fun m => r m + k * s m) := by
  obtain ⟨⟨q, N, hq, e⟩, lo⟩ := h
  obtain ⟨⟨q', N', hq', e'⟩, lo'⟩ := h'
  refine ⟨⟨fun i => q i + k * q' i, max N N', fun m hm => by show q m + k * q' m = 0; rw [hq m (by omega), hq' m (by omega)]; omega, fun m => ?_⟩, fun m hm => by show r m + k * s m = 0; rw [lo m hm, lo' m hm]; omega⟩
  rw [cv_add, cv_smul, e m, e' m, Int.mul_add]
  omega
theorem Rst.zero (f : Fn) (n : Nat) : Rst f n (fun _ => 0) (fun _ => 0) := ⟨⟨fun _ => 0, 0, fun _ _ => rfl, fun m => by rw [cv_zero]; rfl⟩, fun _ _ => rfl⟩
theorem Rst.sum {f : Fn} {n : Nat} {u r : Nat → Fn} (a : Nat → Int) : ∀ m, (∀ k, k < m → Rst f n (u k) (r k)) → Rst f n (fun c => sgm m fun k => a k * u k c) (fun c => sgm m fun k => a k * r k c)
  | 0, _ => Rst.zero f n
  | m + 1, h => (Rst.sum a m fun k hk => h k (by omega)).add (h m (by omega)) (a m)
/-- x times the rest of u has the rest of x times u -/
theorem Rst.next {f : Fn} {n : Nat} {p u r s : Fn} {P : Nat} (hp : ∀ m, P ≤ m → p m = 0) (h : Rst f n u r) (h' : Rst f n (cv p r) s) : Rst f n (cv p u) s := by
  obtain ⟨⟨q, N, hq, e⟩, lo⟩ := h
  obtain ⟨⟨q', N', hq', e'⟩, lo'⟩ := h'
  refine ⟨⟨fun i => cv p q i + q' i, max (P + N) N', fun m hm => ?_, fun m => ?_⟩, lo'⟩
  · show cv p q m + q' m = 0
    rw [hq' m (by omega)]
    unfold cv
    rw [sumN_zero fun i hi => ?_]
    · rfl
    · by_cases c : P ≤ i
      · rw [hp i c, Int.zero_mul]
      · rw [hq (m - i) (by omega), Int.mul_zero]
  · have e1 : cv p u m = cv p (fun i => cv q f i + r i) m := cv_congr (fun i _ => rfl) fun i _ => e i
    rw [e1, cv_addR, cv_add, ← cv_assoc, e' m]
    omega
theorem Rst.self {f : Fn} {n : Nat} {u : Fn} (h : ∀ m, n ≤ m → u m = 0) : Rst f n u u := ⟨⟨fun _ => 0, 0, fun _ _ => rfl, fun m => by rw [cv_zero]; omega⟩, h⟩
theorem cv_xp (i : Nat) (u : Fn) (m : Nat) : cv (xp i) u m = if i ≤ m then u (m - i) else 0 := by
  unfold cv xp
  by_cases c : i ≤ m
  · rw [if_pos c, sumN_one (k := i) (by omega) fun j hj hne => by rw [if_neg hne, Int.zero_mul], if_pos rfl, Int.one_mul]
  · rw [if_neg c, sumN_zero fun j hj => by rw [if_neg (by omega), Int.zero_mul]]
theorem xp_zero (i m : Nat) (h : i + 1 ≤ m) : xp i m = 0 := if_neg (by omega)
theorem xp_succ (i : Nat) (u : Fn) : cv (xp (i + 1)) u = cv (xp 1) (cv (xp i) u) := by
  funext m
  rw [cv_xp, cv_xp]
  by_cases c : 1 ≤ m
  · rw [if_pos c, cv_xp]
    by_cases c2 : i ≤ m - 1
    · rw [if_pos c2, if_pos (by omega), show m - 1 - i = m - (i + 1) by omega]
    · rw [if_neg c2, if_neg (by omega)]
  · rw [if_neg c, if_neg (by omega)]
/-- all rests: of g, and of x times the last one -/
structure Rows (f : Fn) (n : Nat) (g : Fn) (R : Nat → Fn) : Prop where
  zero : Rst f n g (R 0)
  succ : ∀ i, Rst f n (cv (xp 1) (R i)) (R (i + 1))
theorem Rows.at {f : Fn} {n : Nat} {g : Fn} {R : Nat → Fn} (h : Rows f n g R) : ∀ i, Rst f n (cv (xp i) g) (R i)
  | 0 => by
    have : cv (xp 0) g = g := by funext m; rw [cv_xp, if_pos (by omega)]; rfl
    rw [this]; exact h.zero
  | i + 1 => by
    rw [xp_succ]
    exact Rst.next (fun m hm => xp_zero 1 m hm) (h.at i) (h.succ i)
/-- of p times g -/
theorem Rows.comb {f : Fn} {n : Nat} {g : Fn} {R : Nat → Fn} (h : Rows f n g R) {p : Fn} {P : Nat} (hp : ∀ m, P ≤ m → p m = 0) : Rst f n (cv p g) fun c => sgm P fun k => p k * R k c := by
  have e : cv p g = fun c => sgm P fun k => p k * cv (xp k) g c := by
    funext c
    rw [sgm_sumN]
    have e1 : ∀ k, k < P → p k * cv (xp k) g c = if k ≤ c then p k * g (c - k) else 0 := fun k _ => by
      rw [cv_xp]
      split
      · rfl
      · rw [Int.mul_zero]
    rw [sumN_congr e1]
    unfold cv
    by_cases z : P ≤ c + 1
    · have : c + 1 = P + (c + 1 - P) := by omega
      rw [this, sumN_split, sumN_zero (f := fun i => p (P + i) * _) fun i hi => by rw [hp _ (by omega), Int.zero_mul], Int.add_zero]
      exact sumN_congr fun i hi => by rw [if_pos (by omega)]
    · obtain ⟨d, rfl⟩ : ∃ d, P = (c + 1) + d := ⟨P - (c + 1), by omega⟩
      have s1 := sumN_split (fun i => if i ≤ c then p i * g (c - i) else 0) (c + 1) d
      have s2 : (sumN d fun i => if c + 1 + i ≤ c then p (c + 1 + i) * g (c - (c + 1 + i)) else 0) = 0 := sumN_zero fun i hi => if_neg (by omega)
      rw [s1, s2, Int.add_zero]
      exact sumN_congr fun i hi => (if_pos (by omega)).symm
  rw [e]
  exact Rst.sum p P fun k _ => h.at k
/-! ### by zeros -/
def lin (z : Int) : Fn := fun k => if k = 0 then - z else if k = 1 then 1 else 0
def newt (z : Nat → Int) : Nat → Fn
  | 0 => xp 0
  | j + 1 => cv (newt z j) (lin (z j))
theorem cv_lin (a : Fn) (z : Int) (m : Nat) : cv a (lin z) m = (if 1 ≤ m then a (m - 1) else 0) - z * a m := by
  rw [cv_comm]
  unfold cv
  cases m with
  | zero =>
    show 0 + lin z 0 * a (0 - 0) = _
    rw [if_neg (by omega)]
    show 0 + (- z) * a 0 = 0 - z * a 0
    rw [Int.neg_mul]; omega
  | succ m =>
    rw [sumN_head, sumN_head, sumN_zero fun i hi => ?_]
    · show (- z) * a (m + 1 - 0) + (1 * a (m + 1 - (0 + 1)) + 0) = _
      rw [if_pos (by omega), Int.neg_mul, Int.one_mul, Nat.sub_zero]
      show - (z * a (m + 1)) + (a (m + 1 - 1) + 0) = _
      omega
    · show lin z (i + 1 + 1) * _ = 0
      have : lin z (i + 1 + 1) = 0 := by unfold lin; rw [if_neg (by omega), if_neg (by omega)]
      rw [this, Int.zero_mul]
theorem newt_top (z : Nat → Int) : ∀ j, Top (newt z j) j
  | 0 => ⟨by show xp 0 0 = 1; rfl, fun m hm => by show xp 0 m = 0; exact if_neg (by omega)⟩
  | j + 1 => by
    have ih := newt_top z j
    refine ⟨?_, fun m hm => ?_⟩
    · show cv (newt z j) (lin (z j)) (j + 1) = 1
      rw [cv_lin, if_pos (by omega), ih.top (j + 1) (by omega), show j + 1 - 1 = j by omega, ih.one]; omega
    · show cv (newt z j) (lin (z j)) m = 0
      rw [cv_lin, if_pos (by omega), ih.top m (by omega), ih.top (m - 1) (by omega)]; omega
/-- a polynomial less its value is divided by x - z -/
theorem synth (z : Int) : ∀ h : List Int, ∃ h' : List Int, ∀ m, coef h m = cv (lin z) (coef h') m + if m = 0 then ev h z else 0
  | [] => ⟨[], fun m => by
      have : coef ([] : List Int) = fun _ => 0 := funext fun i => coef_nil i
      rw [this, cv_comm, cv_zero]
      show (0 : Int) = 0 + if m = 0 then (0 : Int) else 0
      split <;> rfl⟩
  | a :: t => by
    obtain ⟨t', ht⟩ := synth z t
    refine ⟨ev t z :: t', fun m => ?_⟩
    have e0 : ev (a :: t) z = a + z * ev t z := by
      rw [← hor_ev, ← hor_ev]
      show hor z t * z + a = _
      rw [Int.mul_comm]; omega
    rw [cv_comm, cv_lin, e0]
    cases m with
    | zero =>
      rw [if_neg (by omega), if_pos rfl, coef_cons_zero, coef_cons_zero]; omega
    | succ m =>
      rw [if_pos (by omega), if_neg (by omega), coef_cons_succ, coef_cons_succ, ht m, cv_comm, cv_lin, show m + 1 - 1 = m by omega]
      cases m with
      | zero => rw [if_neg (by omega), if_pos rfl, coef_cons_zero]; (try omega)
      | succ m => rw [if_pos (by omega), if_neg (by omega), coef_cons_succ, show m + 1 - 1 = m by omega]; (try omega)
/-- N i times g by N i, N (i + 1), .. -/
theorem newt_exp (z : Nat → Int) (g : List Int) (i : Nat) : ∀ d, ∃ (c : Nat → Int) (h : List Int), (∀ l, l < i → c l = 0) ∧ (0 < d → c i = ev g (z i)) ∧ (d = 0 → h = g) ∧ ∀ m, cv (newt z i) (coef g) m = sgm (i + d) (fun l => c l * newt z l m) + cv (newt z (i + d)) (coef h) m
  | 0 => ⟨fun _ => 0, g, fun _ _ => rfl, fun h => absurd h (by omega), fun _ => rfl, fun m => by
      rw [sgm_zero fun l _ => Int.zero_mul _]; show _ = 0 + cv (newt z i) (coef g) m; omega⟩
  | d + 1 => by
    obtain ⟨c, h, h1, h2, h3, h4⟩ := newt_exp z g i d
    obtain ⟨h', e⟩ := synth (z (i + d)) h
    refine ⟨fun l => if l = i + d then ev h (z (i + d)) else c l, h', fun l hl => by show (if l = i + d then _ else c l) = 0; rw [if_neg (by omega)]; exact h1 l hl, fun _ => ?_, fun hd => absurd hd (by omega), fun m => ?_⟩
    · show (if i = i + d then ev h (z (i + d)) else c i) = _
      by_cases hd : d = 0
      · have := h3 hd
        subst hd
        rw [if_pos (by omega), this]; rfl
      · rw [if_neg (by omega)]; exact h2 (by omega)
    · rw [h4 m]
      show _ = sgm (i + d) _ + (if i + d = i + d then _ else _) * newt z (i + d) m + cv (cv (newt z (i + d)) (lin (z (i + d)))) (coef h') m
      rw [if_pos rfl, cv_assoc]
      have e1 : cv (newt z (i + d)) (coef h) m = cv (newt z (i + d)) (fun m => cv (lin (z (i + d))) (coef h') m + ev h (z (i + d)) * xp 0 m) m := cv_congr (fun _ _ => rfl) fun k _ => by
        rw [e k]
        unfold xp
        split
        · rw [Int.mul_one]
        · rw [Int.mul_zero]
      have e2 : cv (newt z (i + d)) (xp 0) m = newt z (i + d) m := by rw [cv_comm, cv_xp, if_pos (by omega)]; rfl
      have e3 : sgm (i + d) (fun l => (if l = i + d then ev h (z (i + d)) else c l) * newt z l m) = sgm (i + d) (fun l => c l * newt z l m) := sgm_congr fun l hl => by rw [if_neg (by omega)]
      rw [e1, cv_addR, cv_smulR, e2, e3]
      omega
theorem res_zeros {z : Nat → Int} {n : Nat} {g : List Int} {R : Nat → Fn} (h : Rows (newt z n) n (coef g) R) : det n (fun i j => R i j) = prN n fun i => ev g (z i) := by
  have hf := newt_top z n
  -- the combinations
  have ex : ∀ i, i < n → ∃ c : Nat → Int, (∀ l, l < i → c l = 0) ∧ c i = ev g (z i) ∧ ∀ j, sgm n (fun k => newt z i k * R k j) = sgm n fun l => c l * newt z l j := fun i hi => by
    obtain ⟨c, hq, h1, h2, _, h4⟩ := newt_exp z g i (n - i)
    rw [show i + (n - i) = n by omega] at h4
    refine ⟨c, h1, h2 (by omega), fun j => ?_⟩
    have r1 := h.comb (p := newt z i) (P := n) fun m hm => (newt_top z i).top m (by omega)
    have r2 : Rst (newt z n) n (cv (newt z i) (coef g)) fun j => sgm n fun l => c l * newt z l j := ⟨⟨coef hq, hq.length, fun m hm => coef_ge hm, fun m => by rw [h4 m, cv_comm]; omega⟩, fun m hm => sgm_zero fun l hl => by rw [(newt_top z l).top m (by omega), Int.mul_zero]⟩
    exact congrFun (Rst.uniq hf r1 r2) j
  have ch : ∃ C : Mx, ∀ i, i < n → (∀ l, l < i → C i l = 0) ∧ C i i = ev g (z i) ∧ ∀ j, sgm n (fun k => newt z i k * R k j) = sgm n fun l => C i l * newt z l j := by
    have : ∀ i, ∃ c : Nat → Int, i < n → (∀ l, l < i → c l = 0) ∧ c i = ev g (z i) ∧ ∀ j, sgm n (fun k => newt z i k * R k j) = sgm n fun l => c l * newt z l j := fun i => by
      by_cases hi : i < n
      · obtain ⟨c, hc⟩ := ex i hi
        exact ⟨c, fun _ => hc⟩
      · exact ⟨fun _ => 0, fun h => absurd h hi⟩
    exact ⟨fun i => Classical.choose (this i), fun i hi => Classical.choose_spec (this i) hi⟩
  obtain ⟨C, hC⟩ := ch
  have e1 : det n (mxm n (fun i k => newt z i k) (fun i j => R i j)) = det n (mxm n C fun i k => newt z i k) := det_congr fun i j hi hj => (hC i hi).2.2 j
  rw [det_mul, det_mul] at e1
  have e2 : det n (fun i k => newt z i k) = 1 := by
    rw [det_low n _ fun i j hij hj => (newt_top z i).top j hij]
    have : ∀ m, prN m (fun i => newt z i i) = 1 := by
      intro m
      induction m with
      | zero => rfl
      | succ m ih => show prN m _ * newt z m m = 1; rw [ih, (newt_top z m).one]; rfl
    exact this n
  have e3 : det n C = prN n fun i => ev g (z i) := by
    rw [det_tri n C fun i j hij hi => (hC i hi).1 j hij]
    exact prN_congr fun i hi => (hC i hi).2.1
  rw [e2, e3, Int.one_mul, Int.mul_one] at e1
  exact e1
end L2

/-! how great the rests are -/
set_option Elab.async false
set_option linter.all false
set_option maxRecDepth 100000
namespace L2
def tk (f : Fn) (n : Nat) : Nat → Fn
  | 0 => xp 0
  | k + 1 => fun m => (if m = 0 then 0 else tk f n k (m - 1)) - tk f n k (n - 1) * f m
section
variable {f : Fn} {n : Nat}
theorem tk_lo (hf : Top f n) (hn : 1 ≤ n) : ∀ k m, n ≤ m → tk f n k m = 0
  | 0, m, h => if_neg (by omega)
  | k + 1, m, h => by
    show (if m = 0 then 0 else tk f n k (m - 1)) - tk f n k (n - 1) * f m = 0
    rw [if_neg (by omega)]
    by_cases c : m = n
    · rw [c, hf.one]; omega
    · rw [hf.top m (by omega), tk_lo hf hn k (m - 1) (by omega)]; omega
theorem tk_rst (hf : Top f n) (hn : 1 ≤ n) : ∀ k, Rst f n (xp k) (tk f n k)
  | 0 => Rst.self fun m hm => tk_lo hf hn 0 m hm
  | k + 1 => by
    have e : xp (k + 1) = cv (xp 1) (xp k) := by
      funext m
      rw [cv_xp]
      unfold xp
      by_cases c : 1 ≤ m
      · rw [if_pos c]
        by_cases c2 : m = k + 1
        · rw [if_pos c2, if_pos (by omega)]
        · rw [if_neg c2, if_neg (by omega)]
      · rw [if_neg c, if_neg (by omega)]
    rw [e]
    refine Rst.next (fun m hm => xp_zero 1 m hm) (tk_rst hf hn k) ⟨⟨fun i => if i = 0 then tk f n k (n - 1) else 0, 1, fun m hm => if_neg (by omega), fun m => ?_⟩, tk_lo hf hn (k + 1)⟩
    have e1 : cv (fun i => if i = 0 then tk f n k (n - 1) else 0) f m = tk f n k (n - 1) * f m := cv_unit (if_pos rfl) (fun i hi => if_neg (by omega)) m
    rw [e1, cv_xp]
    show _ = _ + ((if m = 0 then 0 else tk f n k (m - 1)) - tk f n k (n - 1) * f m)
    by_cases c : 1 ≤ m
    · rw [if_pos c, if_neg (by omega)]; omega
    · rw [if_neg c, if_pos (by omega)]; omega
theorem rows_tk (hf : Top f n) (hn : 1 ≤ n) {g : Fn} {L : Nat} (hg : ∀ m, L ≤ m → g m = 0) {R : Nat → Fn} (h : Rows f n g R) (i : Nat) : R i = fun c => sgm L fun k => g k * tk f n (k + i) c := by
  refine Rst.uniq hf (h.at i) ?_
  have e : cv (xp i) g = fun c => sgm L fun k => g k * xp (k + i) c := by
    funext c
    rw [cv_xp, sgm_sumN]
    by_cases z : i ≤ c
    · rw [if_pos z]
      by_cases y : c - i < L
      · rw [sumN_one (k := c - i) y fun k hk hne => by unfold xp; rw [if_neg (by omega), Int.mul_zero]]
        unfold xp
        rw [if_pos (by omega), Int.mul_one]
      · rw [hg _ (by omega), sumN_zero fun k hk => by unfold xp; rw [if_neg (by omega), Int.mul_zero]]
    · rw [if_neg z, sumN_zero fun k hk => by unfold xp; rw [if_neg (by omega), Int.mul_zero]]
  rw [e]
  exact Rst.sum g L fun k _ => tk_rst hf hn (k + i)
/-- no number, with its place, is above c -/
def wb (W c : Nat) (u : Fn) : Prop := ∀ j, (u j).natAbs * W ^ j ≤ c
theorem wb_tk (hf : Top f n) (hn : 1 ≤ n) {W : Nat} (hW : 1 ≤ W) (hb : wb W ((2 * W) ^ n) f) : ∀ k, wb W ((W * (1 + 2 ^ n)) ^ k) (tk f n k)
  | 0, j => by
    show (xp 0 j).natAbs * W ^ j ≤ 1
    unfold xp
    by_cases c : j = 0
    · rw [if_pos c, c]; simp
    · rw [if_neg c]; simp
  | k + 1, j => by
    have ih := wb_tk hf hn hW hb k
    show ((if j = 0 then 0 else tk f n k (j - 1)) - tk f n k (n - 1) * f j).natAbs * W ^ j ≤ _
    generalize hc : (W * (1 + 2 ^ n)) ^ k = c at ih
    have h1 : (if j = 0 then (0 : Int) else tk f n k (j - 1)).natAbs * W ^ j ≤ c * W := by
      by_cases z : j = 0
      · rw [if_pos z]; simp
      · rw [if_neg z]
        have := Nat.mul_le_mul_right W (ih (j - 1))
        rw [Nat.mul_assoc, ← Nat.pow_succ, show (j - 1).succ = j by omega] at this
        exact this
    have h2 : (tk f n k (n - 1) * f j).natAbs * W ^ j ≤ c * W * 2 ^ n := by
      rw [Int.natAbs_mul, Nat.mul_assoc]
      have a1 := Nat.mul_le_mul_left (tk f n k (n - 1)).natAbs (hb j)
      refine Nat.le_trans a1 ?_
      have e : (tk f n k (n - 1)).natAbs * (2 * W) ^ n = (tk f n k (n - 1)).natAbs * W ^ (n - 1) * (W * 2 ^ n) := by
        rw [Nat.mul_pow]
        have : W ^ n = W ^ (n - 1) * W := by rw [← Nat.pow_succ, show (n - 1).succ = n by omega]
        rw [this]
        ac_rfl
      rw [e, Nat.mul_assoc c]
      exact Nat.mul_le_mul_right _ (ih (n - 1))
    have h3 := Int.natAbs_sub_le (if j = 0 then (0 : Int) else tk f n k (j - 1)) (tk f n k (n - 1) * f j)
    refine Nat.le_trans (Nat.mul_le_mul_right _ h3) ?_
    rw [Nat.add_mul, Nat.pow_succ, hc, ← Nat.mul_assoc, Nat.mul_add, Nat.mul_one]
    exact Nat.add_le_add h1 h2
theorem wb_newt {z : Nat → Int} {W : Nat} (hz : ∀ i, (z i).natAbs ≤ W) : ∀ j, wb W ((2 * W) ^ j) (newt z j)
  | 0, m => by
    show (xp 0 m).natAbs * W ^ m ≤ 1
    unfold xp
    by_cases c : m = 0
    · rw [if_pos c, c]; simp
    · rw [if_neg c]; simp
  | j + 1, m => by
    have ih := wb_newt hz j
    show (cv (newt z j) (lin (z j)) m).natAbs * W ^ m ≤ _
    rw [cv_lin]
    generalize hc : (2 * W) ^ j = c at ih
    have h1 : (if 1 ≤ m then newt z j (m - 1) else (0 : Int)).natAbs * W ^ m ≤ c * W := by
      by_cases y : 1 ≤ m
      · rw [if_pos y]
        have := Nat.mul_le_mul_right W (ih (m - 1))
        rw [Nat.mul_assoc, ← Nat.pow_succ, show (m - 1).succ = m by omega] at this
        exact this
      · rw [if_neg y]; simp
    have h2 : (z j * newt z j m).natAbs * W ^ m ≤ c * W := by
      rw [Int.natAbs_mul, Nat.mul_assoc, Nat.mul_comm c W]
      exact Nat.mul_le_mul (hz j) (ih m)
    have h3 := Int.natAbs_sub_le (if 1 ≤ m then newt z j (m - 1) else (0 : Int)) (z j * newt z j m)
    refine Nat.le_trans (Nat.mul_le_mul_right _ h3) ?_
    rw [Nat.add_mul, Nat.pow_succ, hc]
    have : c * (2 * W) = c * W + c * W := by rw [← Nat.mul_assoc, Nat.mul_comm c 2, Nat.mul_assoc, Nat.two_mul]
    rw [this]
    exact Nat.add_le_add h1 h2
theorem rows_abs (hf : Top f n) (hn : 1 ≤ n) {W cg L : Nat} (hW : 1 ≤ W) (hb : wb W ((2 * W) ^ n) f) {g : Fn} (hg : ∀ m, L ≤ m → g m = 0) (bg : wb W cg g) {R : Nat → Fn} (h : Rows f n g R) (i j : Nat) : (R i j).natAbs ≤ L * (cg * (1 + 2 ^ n) ^ L * (W * (1 + 2 ^ n)) ^ i) := by
  rw [rows_tk hf hn hg h i]
  refine sgm_abs fun k hk => ?_
  rw [Int.natAbs_mul]
  have h1 := wb_tk hf hn hW hb (k + i) j
  have h2 : (tk f n (k + i) j).natAbs ≤ (W * (1 + 2 ^ n)) ^ (k + i) := Nat.le_trans (Nat.le_mul_of_pos_right _ (Nat.pow_pos hW)) h1
  refine Nat.le_trans (Nat.mul_le_mul_left _ h2) ?_
  rw [Nat.pow_add, ← Nat.mul_assoc]
  refine Nat.mul_le_mul_right _ ?_
  rw [Nat.mul_pow, ← Nat.mul_assoc]
  exact Nat.mul_le_mul (bg k) (Nat.pow_le_pow_right (Nat.le_trans (Nat.le_refl 1) (Nat.le_add_right 1 _)) (Nat.le_of_lt hk))
end
end L2

/-! discriminants by zeros; shifted polynomials by zeros -/
set_option Elab.async false
set_option linter.all false
set_option maxRecDepth 100000
namespace L2
theorem prN_mul (f g : Nat → Int) : ∀ n, prN n (fun i => f i * g i) = prN n f * prN n g
  | 0 => rfl
  | n + 1 => by
    show prN n (fun i => f i * g i) * (f n * g n) = prN n f * f n * (prN n g * g n)
    rw [prN_mul f g n]; ac_rfl
theorem prN_eq_zero {f : Nat → Int} : ∀ {n : Nat}, prN n f = 0 ↔ ∃ i, i < n ∧ f i = 0
  | 0 => ⟨fun h => by exact absurd (show (1 : Int) = 0 from h) (by decide), fun ⟨i, h, _⟩ => absurd h (by omega)⟩
  | n + 1 => by
    show prN n f * f n = 0 ↔ _
    rw [Int.mul_eq_zero, prN_eq_zero]
    constructor
    · rintro (⟨i, h, e⟩ | e)
      · exact ⟨i, by omega, e⟩
      · exact ⟨n, by omega, e⟩
    · rintro ⟨i, h, e⟩
      by_cases c : i = n
      · exact .inr (c ▸ e)
      · exact .inl ⟨i, by omega, e⟩
theorem E_lin (z x : Int) : E 2 (lin z) x = x - z := by
  show 0 + (- z) * x ^ 0 + 1 * x ^ 1 = x - z
  rw [Int.pow_zero, Int.pow_succ, Int.pow_zero]; omega
theorem lin_ge (z : Int) : ∀ i, 2 ≤ i → lin z i = 0 := fun i h => by unfold lin; rw [if_neg (by omega), if_neg (by omega)]
theorem E_newt (z : Nat → Int) (x : Int) : ∀ n, E (n + 1) (newt z n) x = prN n fun i => x - z i
  | 0 => by
    show 0 + xp 0 0 * x ^ 0 = 1
    rw [Int.pow_zero]; rfl
  | n + 1 => by
    have ht := newt_top z (n + 1)
    have h1 := E_cv (x := x) (n := n + 1) (m := 2) (a := newt z n) (b := lin (z n)) (fun i hi => (newt_top z n).top i (by omega)) (lin_ge _)
    rw [E_newt z x n, E_lin] at h1
    have h2 := E_ge (a := newt z (n + 1)) (x := x) (n := n + 1 + 1) (fun i hi => ht.top i (by omega)) (N := n + 1 + 2 + 1) (by omega)
    rw [← h2]
    exact h1
def dN (a : Fn) : Fn := fun i => ((i + 1 : Nat) : Int) * a (i + 1)
theorem dN_lin (z : Int) : dN (lin z) = xp 0 := by
  funext i
  unfold dN
  match i with
  | 0 => rfl
  | i + 1 => rw [lin_ge _ _ (by omega), Int.mul_zero]; exact (if_neg (by omega)).symm
theorem cv_one (a : Fn) (m : Nat) : cv a (xp 0) m = a m := by rw [cv_comm, cv_xp, if_pos (by omega)]; rfl
theorem dN_newt (z : Nat → Int) (n : Nat) : dN (newt z (n + 1)) = fun m => cv (dN (newt z n)) (lin (z n)) m + newt z n m := by
  funext m
  have h := cv_deriv (newt z n) (lin (z n)) m
  show ((m + 1 : Nat) : Int) * cv (newt z n) (lin (z n)) (m + 1) = _
  rw [h]
  have e : (fun i => ((i + 1 : Nat) : Int) * lin (z n) (i + 1)) = xp 0 := dN_lin (z n)
  rw [e, cv_one]
  rfl
theorem E_add (a b : Fn) (x : Int) (n : Nat) : E n (fun i => a i + b i) x = E n a x + E n b x := by
  unfold E
  rw [← sumN_add]
  exact sumN_congr fun i _ => by rw [Int.add_mul]
def dv (z : Nat → Int) (n : Nat) (x : Int) : Int := E n (dN (newt z n)) x
theorem dN_top {a : Fn} {n : Nat} (h : ∀ i, n + 1 ≤ i → a i = 0) : ∀ i, n ≤ i → dN a i = 0 := fun i hi => by unfold dN; rw [h _ (by omega), Int.mul_zero]
theorem dv_succ (z : Nat → Int) (n : Nat) (x : Int) : dv z (n + 1) x = dv z n x * (x - z n) + prN n fun i => x - z i := by
  unfold dv
  have t1 : ∀ i, n ≤ i → dN (newt z n) i = 0 := dN_top fun i hi => (newt_top z n).top i (by omega)
  have t2 : ∀ i, n + 1 ≤ i → dN (newt z (n + 1)) i = 0 := dN_top fun i hi => (newt_top z (n + 1)).top i (by omega)
  rw [← E_ge t2 (N := n + 2 + 1) (by omega), dN_newt, E_add, E_cv t1 (lin_ge _), E_lin, E_ge (fun i hi => (newt_top z n).top i (by omega)) (n := n + 1) (N := n + 2 + 1) (by omega), E_newt]
/-- the law's product: first by the lesser place -/
def due (q : Nat → Nat → Int) (n : Nat) : Int := prN n fun i => prN (n - (i + 1)) fun k => q i (i + 1 + k)
theorem due_succ (q : Nat → Nat → Int) (n : Nat) : due q (n + 1) = due q n * prN n fun i => q i n := by
  show prN n _ * prN (n + 1 - (n + 1)) _ = _
  rw [show n + 1 - (n + 1) = 0 by omega]
  show prN n _ * 1 = _
  rw [Int.mul_one]
  unfold due
  rw [← prN_mul]
  refine prN_congr fun i hi => ?_
  show prN (n + 1 - (i + 1)) _ = _
  rw [show n + 1 - (i + 1) = n - (i + 1) + 1 by omega]
  show prN (n - (i + 1)) _ * q i (i + 1 + (n - (i + 1))) = _
  rw [show i + 1 + (n - (i + 1)) = n by omega]
def tg : Nat → Int
  | 0 => 1
  | n + 1 => tg n * sg n
theorem prN_neg (f : Nat → Int) : ∀ n, prN n (fun i => - f i) = sg n * prN n f
  | 0 => rfl
  | n + 1 => by
    show prN n (fun i => - f i) * (- f n) = sg (n + 1) * (prN n f * f n)
    rw [prN_neg f n, sg_succ]
    generalize sg n = s; generalize prN n f = p; generalize f n = y
    grind
theorem disc_zeros (z : Nat → Int) : ∀ n, tg n * (prN n fun i => dv z n (z i)) = due (fun i j => (z i - z j) * (z i - z j)) n
  | 0 => rfl
  | n + 1 => by
    rw [due_succ, ← disc_zeros z n]
    show tg n * sg n * (prN n (fun i => dv z (n + 1) (z i)) * dv z (n + 1) (z n)) = _
    have e1 : prN n (fun i => dv z (n + 1) (z i)) = prN n (fun i => dv z n (z i)) * prN n (fun i => z i - z n) := by
      rw [← prN_mul]
      refine prN_congr fun i hi => ?_
      rw [dv_succ, prN_eq_zero.mpr ⟨i, hi, by omega⟩, Int.add_zero]
    have e2 : dv z (n + 1) (z n) = sg n * prN n fun i => z i - z n := by
      rw [dv_succ, show z n - z n = 0 by omega, Int.mul_zero, Int.zero_add, ← prN_neg]
      exact prN_congr fun i hi => by omega
    rw [e1, e2, prN_mul]
    have := sg_sq n
    generalize sg n = s at *; generalize tg n = t; generalize prN n (fun i => dv z n (z i)) = A; generalize prN n (fun i => z i - z n) = D
    grind
theorem due_zero (z : Nat → Int) (n : Nat) : due (fun i j => (z i - z j) * (z i - z j)) n = 0 ↔ ∃ i j, i < j ∧ j < n ∧ z i = z j := by
  unfold due
  rw [prN_eq_zero]
  constructor
  · rintro ⟨i, hi, e⟩
    obtain ⟨k, hk, e2⟩ := prN_eq_zero.mp e
    refine ⟨i, i + 1 + k, by omega, by omega, ?_⟩
    rcases Int.mul_eq_zero.mp e2 with y | y <;> omega
  · rintro ⟨i, j, h1, h2, e⟩
    refine ⟨i, by omega, prN_eq_zero.mpr ⟨j - (i + 1), by omega, ?_⟩⟩
    show (z i - z (i + 1 + (j - (i + 1)))) * _ = 0
    rw [show i + 1 + (j - (i + 1)) = j by omega, show z i - z j = 0 by omega]; rfl
theorem ev_dl {f : List Int} {z : Nat → Int} {n : Nat} (h : coef f = newt z n) (x : Int) : ev (dl f) x = dv z n x := by
  have e : coef (dl f) = dN (newt z n) := by funext m; rw [coef_dl, h]; rfl
  unfold dv
  have t1 : ∀ i, n ≤ i → dN (newt z n) i = 0 := dN_top fun i hi => (newt_top z n).top i (by omega)
  rw [ev_at (N := max n (dl f).length) (Nat.le_max_right _ _), e, E_ge t1 (Nat.le_max_left _ _)]
/-! ### shifted -/
theorem coef_linp (c : Int) : coef [c, 1] = lin (- c) := by
  funext m
  match m with
  | 0 => show c = - - c; omega
  | 1 => rfl
  | m + 2 => rw [coef_ge (by show 2 ≤ _; omega), lin_ge _ _ (by omega)]
theorem coef_const (a : Int) (m : Nat) : coef (trim [a]) m = if m = 0 then a else 0 := by
  rw [coef_trim]
  match m with
  | 0 => rfl
  | m + 1 => rw [coef_ge (by show 1 ≤ _; omega), if_neg (by omega)]
theorem ps_cons (c a : Int) (r : List Int) (m : Nat) : coef (pshift c (a :: r)) m = cv (coef (pshift c r)) (lin (- c)) m + if m = 0 then a else 0 := by
  show coef (padd (pmul (pshift c r) [c, 1]) (trim [a])) m = _
  rw [coef_padd, cp, coef_linp, coef_const]
theorem ps_nil (c : Int) : coef (pshift c []) = fun _ => 0 := funext fun m => coef_nil m
theorem ps_zero (c : Int) : ∀ g : List Int, (∀ i, coef g i = 0) → coef (pshift c g) = fun _ => 0
  | [], _ => ps_nil c
  | b :: r, h => by
    have e := ps_zero c r fun i => by rw [← coef_cons_succ b r i]; exact h (i + 1)
    have e0 : b = 0 := h 0
    funext m
    rw [ps_cons, e, cv_zero, e0]
    split <;> rfl
theorem ps_congr (c : Int) : ∀ f g : List Int, (∀ i, coef f i = coef g i) → coef (pshift c f) = coef (pshift c g)
  | [], g, h => by rw [ps_nil, ps_zero c g fun i => by rw [← h i, coef_nil]]
  | f, [], h => by rw [ps_nil, ps_zero c f fun i => by rw [h i, coef_nil]]
  | a :: f, b :: g, h => by
    have e := ps_congr c f g fun i => by rw [← coef_cons_succ a f i, ← coef_cons_succ b g i]; exact h (i + 1)
    have e0 : a = b := h 0
    funext m
    rw [ps_cons, ps_cons, e, e0]
def mlin (z : Int) : Int → List Int → List Int
  | a, [] => [a]
  | a, b :: r => (a - z * b) :: mlin z b r
theorem coef_mlin (z : Int) : ∀ (a : Int) (f : List Int) (m : Nat), coef (mlin z a f) m = (if m = 0 then a else coef f (m - 1)) - z * coef f m
  | a, [], m => by
    show coef [a] m = _
    rw [coef_nil, coef_nil]
    match m with
    | 0 => rw [if_pos rfl]; show a = _; omega
    | m + 1 => rw [coef_ge (by show 1 ≤ _; omega), if_neg (by omega)]; omega
  | a, b :: r, 0 => by
    show a - z * b = _
    rw [if_pos rfl]; rfl
  | a, b :: r, m + 1 => by
    show coef ((a - z * b) :: mlin z b r) (m + 1) = _
    rw [coef_cons_succ, coef_mlin z b r m, coef_cons_succ, if_neg (Nat.succ_ne_zero m), show m + 1 - 1 = m from rfl]
    match m with
    | 0 => rw [if_pos rfl]; rfl
    | m + 1 => rw [if_neg (Nat.succ_ne_zero m), coef_cons_succ, show m + 1 - 1 = m from rfl]
theorem ps_mlin (c z : Int) : ∀ (f : List Int) (a : Int) (m : Nat), coef (pshift c (mlin z a f)) m = cv (coef (pshift c f)) (lin (z - c)) m + if m = 0 then a else 0
  | [], a, m => by
    show coef (pshift c [a]) m = _
    rw [ps_cons, ps_nil, cv_zero, cv_zero]
  | b :: r, a, m => by
    show coef (pshift c ((a - z * b) :: mlin z b r)) m = _
    rw [ps_cons]
    have e1 : coef (pshift c (mlin z b r)) = fun m => cv (coef (pshift c r)) (lin (z - c)) m + b * xp 0 m := by
      funext k
      rw [ps_mlin c z r b k]
      unfold xp
      split
      · rw [Int.mul_one]
      · rw [Int.mul_zero]
    have e2 : coef (pshift c (b :: r)) = fun m => cv (coef (pshift c r)) (lin (- c)) m + b * xp 0 m := by
      funext k
      rw [ps_cons]
      unfold xp
      split
      · rw [Int.mul_one]
      · rw [Int.mul_zero]
    rw [e1, e2, cv_add, cv_add, cv_smul, cv_smul]
    have x1 : ∀ u : Fn, cv (xp 0) u m = u m := fun u => by rw [cv_comm, cv_one]
    have e3 : cv (cv (coef (pshift c r)) (lin (z - c))) (lin (- c)) m = cv (cv (coef (pshift c r)) (lin (- c))) (lin (z - c)) m := by
      rw [cv_assoc, cv_assoc]
      exact cv_congr (fun _ _ => rfl) fun i _ => cv_comm _ _ i
    rw [e3, x1, x1]
    unfold lin
    by_cases h : m = 0
    · rw [if_pos h, if_pos h, if_pos h, if_pos h]
      grind
    · rw [if_neg h, if_neg h, if_neg h, if_neg h]
theorem ps_newt (c : Int) (z : Nat → Int) : ∀ (j : Nat) (F : List Int), coef F = newt z j → coef (pshift c F) = newt (fun i => z i - c) j
  | 0, F, h => by
    have e : ∀ i, coef F i = coef [1] i := fun i => by
      rw [h]
      match i with
      | 0 => rfl
      | i + 1 => rw [coef_ge (by show 1 ≤ _; omega)]; rfl
    rw [ps_congr c F [1] e]
    funext m
    rw [ps_cons, ps_nil, cv_zero]
    show 0 + (if m = 0 then (1 : Int) else 0) = if m = 0 then 1 else 0
    omega
  | j + 1, F, h => by
    have hG : coef ((List.range (j + 1)).map (newt z j)) = newt z j := funext fun i => coef_map_range' (fun i hi => (newt_top z j).top i (by omega)) i
    have ih := ps_newt c z j _ hG
    have e : ∀ i, coef F i = coef (mlin (z j) 0 ((List.range (j + 1)).map (newt z j))) i := fun i => by
      rw [h, coef_mlin, hG]
      show cv (newt z j) (lin (z j)) i = _
      rw [cv_lin]
      by_cases y : i = 0
      · rw [if_neg (by omega), if_pos y]
      · rw [if_pos (by omega), if_neg y]
    rw [ps_congr c F _ e]
    funext m
    rw [ps_mlin, ih]
    show _ + (if m = 0 then (0 : Int) else 0) = cv (newt (fun i => z i - c) j) (lin (z j - c)) m
    have : (if m = 0 then (0 : Int) else 0) = 0 := by split <;> rfl
    rw [this, Int.add_zero]
theorem due_shift (z : Nat → Int) (c : Int) (n : Nat) : due (fun i j => (z i - c - (z j - c)) * (z i - c - (z j - c))) n = due (fun i j => (z i - z j) * (z i - z j)) n := by
  unfold due
  refine prN_congr fun i hi => prN_congr fun k hk => ?_
  show (z i - c - (z (i + 1 + k) - c)) * _ = _
  rw [show z i - c - (z (i + 1 + k) - c) = z i - z (i + 1 + k) by omega]
/-! ### how great -/
theorem wb_dN {z : Nat → Int} {n : Nat} (hz : ∀ i, (z i).natAbs ≤ 2 ^ 14) (hn : n ≤ 12) : wb (2 ^ 14) (2 ^ 184) (dN (newt z n)) := fun j => by
  by_cases c : n ≤ j
  · rw [dN_top (a := newt z n) (n := n) (fun i hi => (newt_top z n).top i (by omega)) j c]; simp
  · unfold dN
    rw [Int.natAbs_mul, Int.natAbs_natCast]
    have h := wb_newt (W := 2 ^ 14) hz n (j + 1)
    have h2 : (newt z n (j + 1)).natAbs * (2 ^ 14) ^ j ≤ (2 * 2 ^ 14) ^ n := Nat.le_trans (Nat.mul_le_mul_left _ (Nat.pow_le_pow_right (by decide) (by omega))) h
    have h3 : (2 * 2 ^ 14) ^ n ≤ 2 ^ 180 := by
      have e : (2 * 2 ^ 14) = 2 ^ 15 := by decide
      rw [e, ← Nat.pow_mul]
      exact Nat.pow_le_pow_right (by decide) (by omega)
    rw [Nat.mul_assoc]
    refine Nat.le_trans (Nat.mul_le_mul (show j + 1 ≤ 2 ^ 4 by have : (2 : Nat) ^ 4 = 16 := rfl; omega) (Nat.le_trans h2 h3)) ?_
    rw [← Nat.pow_add]
    exact Nat.pow_le_pow_right (by decide) (by decide)
end L2

/-! resultants of products, changed about, of linear ones -/
set_option Elab.async false
set_option linter.all false
set_option maxRecDepth 100000
namespace L2
theorem prN_one {f : Nat → Int} : ∀ {n : Nat}, (∀ i, i < n → f i = 1) → prN n f = 1
  | 0, _ => rfl
  | n + 1, h => by
    show prN n f * f n = 1
    rw [prN_one fun i hi => h i (by omega), h n (by omega)]; rfl
def dlt (i k : Nat) : Int := if k = i then 1 else 0
theorem det_dlt (n : Nat) : det n dlt = 1 := by
  rw [det_tri n dlt fun i j h _ => show dlt i j = 0 from if_neg (by omega)]
  exact prN_one fun i _ => if_pos rfl
theorem sgm_one {f : Nat → Int} {k n : Nat} (hk : k < n) (h : ∀ i, i < n → i ≠ k → f i = 0) : sgm n f = f k := by rw [sgm_sumN, sumN_one hk h]
theorem sgm_add (f g : Nat → Int) (n : Nat) : sgm n (fun i => f i + g i) = sgm n f + sgm n g := by rw [sgm_sumN, sgm_sumN, sgm_sumN, sumN_add]
theorem sgm_split (f : Nat → Int) (a b : Nat) : sgm (a + b) f = sgm a f + sgm b fun i => f (a + i) := by rw [sgm_sumN, sgm_sumN, sgm_sumN, sumN_split]
theorem sgm_dltL {n i : Nat} (hi : i < n) (f : Nat → Int) : sgm n (fun k => dlt i k * f k) = f i := by
  rw [sgm_one hi fun k _ hne => by show dlt i k * f k = 0; unfold dlt; rw [if_neg hne, Int.zero_mul]]
  show dlt i i * f i = f i
  unfold dlt; rw [if_pos rfl, Int.one_mul]
theorem sgm_dltR {n c : Nat} (hc : c < n) (f : Nat → Int) : sgm n (fun k => f k * dlt k c) = f c := by
  rw [sgm_one hc fun k _ hne => by show f k * dlt k c = 0; unfold dlt; rw [if_neg (fun z => hne z.symm), Int.mul_zero]]
  show f c * dlt c c = f c
  unfold dlt; rw [if_pos rfl, Int.mul_one]
/-- nothing below, at the left -/
theorem det_blockU {n m : Nat} {M : Mx} (h : ∀ i j, n ≤ i → i < n + m → j < n → M i j = 0) : det (n + m) M = det n M * det m fun r c => M (n + r) (n + c) := by
  let Pm : Mx := fun i k => if i < n then dlt i k else if k < n then 0 else M i k
  let Qm : Mx := fun k c => if k < n then M k c else dlt k c
  let Um : Mx := fun i k => if i < n then (if k < n then dlt i k else M i k) else dlt i k
  let Vm : Mx := fun k c => if k < n then (if c < n then M k c else 0) else dlt k c
  have e1 : det (n + m) M = det (n + m) (mxm (n + m) Pm Qm) := det_congr fun i c hi hc => by
    show M i c = sgm (n + m) fun k => Pm i k * Qm k c
    by_cases a : i < n
    · have : (fun k => Pm i k * Qm k c) = fun k => dlt i k * Qm k c := funext fun k => by show (if i < n then _ else _) * _ = _; rw [if_pos a]
      rw [this, sgm_dltL hi fun k => Qm k c]
      show M i c = if i < n then M i c else _
      rw [if_pos a]
    · have : (fun k => Pm i k * Qm k c) = fun k => (if k < n then 0 else M i k) * dlt k c := funext fun k => by
        show (if i < n then _ else (if k < n then 0 else M i k)) * (if k < n then _ else _) = _
        rw [if_neg a]
        by_cases y : k < n
        · rw [if_pos y, Int.zero_mul, Int.zero_mul]
        · rw [if_neg y, if_neg y]
      rw [this, sgm_dltR hc fun k => if k < n then 0 else M i k]
      split
      · exact h i c (by omega) hi (by assumption)
      · rfl
  have e2 : det (n + m) Pm = det m fun r c => M (n + r) (n + c) := by
    rw [det_block (A := dlt) m Pm (fun r c hr hc => if_pos hr) (fun r c hr hc => by show (if r < n then dlt r c else _) = 0; rw [if_pos hr]; exact if_neg (by omega)), det_dlt, Int.one_mul]
    refine det_congr fun r c hr hc => ?_
    show (if n + r < n then _ else if n + c < n then 0 else M (n + r) (n + c)) = _
    rw [if_neg (by omega), if_neg (by omega)]
  have e3 : det (n + m) Qm = det (n + m) (mxm (n + m) Um Vm) := det_congr fun i c hi hc => by
    show Qm i c = sgm (n + m) fun k => Um i k * Vm k c
    by_cases a : i < n
    · show (if i < n then M i c else _) = _
      rw [if_pos a]
      have : (fun k => Um i k * Vm k c) = fun k => dlt i k * (if c < n then M k c else 0) + (if k < n then 0 else M i k) * dlt k c := funext fun k => by
        show (if i < n then (if k < n then dlt i k else M i k) else _) * (if k < n then (if c < n then M k c else 0) else dlt k c) = _
        rw [if_pos a]
        by_cases y : k < n
        · rw [if_pos y, if_pos y, if_pos y, Int.zero_mul, Int.add_zero]
        · rw [if_neg y, if_neg y, if_neg y]
          have : dlt i k = 0 := if_neg (by omega)
          rw [this, Int.zero_mul, Int.zero_add]
      rw [this, sgm_add, sgm_dltL hi fun k => if c < n then M k c else 0, sgm_dltR hc fun k => if k < n then 0 else M i k]
      split
      · omega
      · omega
    · show (if i < n then M i c else dlt i c) = _
      rw [if_neg a]
      have : (fun k => Um i k * Vm k c) = fun k => dlt i k * Vm k c := funext fun k => by
        show (if i < n then _ else dlt i k) * _ = _
        rw [if_neg a]
      rw [this, sgm_dltL hi fun k => Vm k c]
      show _ = if i < n then _ else dlt i c
      rw [if_neg a]
  have e4 : det (n + m) Um = 1 := by
    rw [det_tri (n + m) Um fun i j hij hi => ?_]
    · refine prN_one fun i _ => ?_
      show (if i < n then (if i < n then dlt i i else M i i) else dlt i i) = 1
      have : dlt i i = 1 := if_pos rfl
      split
      · exact this
      · exact this
    · show (if i < n then (if j < n then dlt i j else M i j) else dlt i j) = 0
      have : dlt i j = 0 := if_neg (by omega)
      split
      · rw [if_pos (by omega)]; exact this
      · exact this
  have e5 : det (n + m) Vm = det n M := by
    rw [det_block (A := M) m Vm (fun r c hr hc => by show (if r < n then (if c < n then M r c else 0) else _) = _; rw [if_pos hr, if_pos hc]) (fun r c hr hc => by show (if r < n then (if c < n then M r c else 0) else _) = 0; rw [if_pos hr, if_neg (by omega)])]
    have : (det m fun r c => Vm (n + r) (n + c)) = det m dlt := det_congr fun r c _ _ => by
      show (if n + r < n then _ else dlt (n + r) (n + c)) = _
      rw [if_neg (by omega)]
      unfold dlt
      by_cases y : c = r
      · rw [if_pos y, if_pos (by omega)]
      · rw [if_neg y, if_neg (by omega)]
    rw [this, det_dlt, Int.mul_one]
  rw [e1, det_mul, e2, e3, det_mul, e4, e5, Int.one_mul, Int.mul_comm]
/-! ### rests -/
def IsRes (f : Fn) (n : Nat) (g : Fn) (D : Int) : Prop := ∃ R : Nat → Fn, Rows f n g R ∧ det n (fun i j => R i j) = D
theorem Rows.uniq {f : Fn} {n : Nat} {g : Fn} {R S : Nat → Fn} (hf : Top f n) (h : Rows f n g R) (h' : Rows f n g S) : ∀ i, R i = S i := fun i => Rst.uniq hf (h.at i) (h'.at i)
theorem IsRes.uniq {f : Fn} {n : Nat} {g : Fn} {D D' : Int} (hf : Top f n) (h : IsRes f n g D) (h' : IsRes f n g D') : D = D' := by
  obtain ⟨R, hR, rfl⟩ := h
  obtain ⟨S, hS, rfl⟩ := h'
  have := Rows.uniq hf hR hS
  exact det_congr fun i j _ _ => by rw [this i]
theorem rst_ex {f : Fn} {n : Nat} (hf : Top f n) (hn : 1 ≤ n) {u : Fn} {L : Nat} (hu : ∀ m, L ≤ m → u m = 0) : ∃ r, Rst f n u r := by
  have e : u = fun c => sgm L fun k => u k * xp k c := by
    funext c
    rw [sgm_sumN]
    by_cases y : c < L
    · rw [sumN_one (k := c) y fun k hk hne => by unfold xp; rw [if_neg (by omega), Int.mul_zero]]
      unfold xp
      rw [if_pos rfl, Int.mul_one]
    · rw [hu _ (by omega), sumN_zero fun k hk => by unfold xp; rw [if_neg (by omega), Int.mul_zero]]
  refine ⟨fun c => sgm L fun k => u k * tk f n k c, ?_⟩
  have := Rst.sum (f := f) (n := n) (u := fun k => xp k) (r := fun k => tk f n k) u L fun k _ => tk_rst hf hn k
  rw [← e] at this
  exact this
theorem Top.fin {f : Fn} {n : Nat} (h : Top f n) : ∀ m, n + 1 ≤ m → f m = 0 := fun m hm => h.top m (by omega)
theorem Top.mul {f g : Fn} {n m : Nat} (hf : Top f n) (hg : Top g m) : Top (cv f g) (n + m) := by
  refine ⟨by rw [cv_top hg fun i hi => hf.top i hi]; exact hf.one, fun k hk => ?_⟩
  unfold cv
  refine sumN_zero fun i hi => ?_
  by_cases c : n < i
  · rw [hf.top i c, Int.zero_mul]
  · rw [hg.top _ (by omega), Int.mul_zero]
theorem cv_fin {a b : Fn} {P N : Nat} (ha : ∀ m, P ≤ m → a m = 0) (hb : ∀ m, N ≤ m → b m = 0) : ∀ m, P + N ≤ m → cv a b m = 0 := fun m hm => by
  unfold cv
  refine sumN_zero fun i hi => ?_
  by_cases c : P ≤ i
  · rw [ha i c, Int.zero_mul]
  · rw [hb _ (by omega), Int.mul_zero]
theorem cv_low {s f : Fn} {n m : Nat} (hs : ∀ t, m ≤ t → s t = 0) (hf : Top f n) : ∀ t, n + m ≤ t → cv s f t = 0 := fun t ht => by
  unfold cv
  refine sumN_zero fun i hi => ?_
  by_cases c : m ≤ i
  · rw [hs i c, Int.zero_mul]
  · rw [hf.top _ (by omega), Int.mul_zero]
theorem cv_fun_comm (a b : Fn) : cv a b = cv b a := funext fun m => cv_comm a b m
theorem cv_fun_assoc (a b c : Fn) : cv (cv a b) c = cv a (cv b c) := funext fun m => cv_assoc a b c m
/-- the quotient's numbers end where they should -/
theorem quo_top {f q : Fn} {n m N : Nat} (hf : Top f n) (hq : ∀ t, N ≤ t → q t = 0) (h : ∀ k, n + m ≤ k → cv q f k = 0) : ∀ t, m ≤ t → q t = 0 := by
  have dz : ∀ k t, N - k ≤ t → m ≤ t → q t = 0 := by
    intro k
    induction k with
    | zero => intro t ht _; exact hq t (by omega)
    | succ k ih =>
      intro t ht hm
      by_cases c : N - k ≤ t
      · exact ih t c hm
      · have := cv_top (d := q) (t := t) hf fun i hi => ih i (by omega) (by omega)
        rw [h _ (by omega)] at this
        exact this.symm
  exact fun t ht => dz N t (by omega) ht
/-- the letter's powers, then f times them -/
def bas (f : Fn) (n : Nat) (i : Nat) : Fn := if i < n then xp i else cv (xp (i - n)) f
theorem bas_lo {f : Fn} {n i : Nat} (h : i < n) : bas f n i = xp i := if_pos h
theorem bas_hi {f : Fn} {n : Nat} (j : Nat) : bas f n (n + j) = cv (xp j) f := by
  unfold bas; rw [if_neg (by omega), show n + j - n = j by omega]
theorem bas_top {f : Fn} {n : Nat} (hf : Top f n) (i : Nat) : Top (bas f n i) i := by
  by_cases c : i < n
  · rw [bas_lo c]
    exact ⟨if_pos rfl, fun m hm => if_neg (by omega)⟩
  · obtain ⟨j, rfl⟩ : ∃ j, i = n + j := ⟨i - n, by omega⟩
    rw [bas_hi]
    refine ⟨by rw [cv_xp, if_pos (by omega), show n + j - j = n by omega]; exact hf.one, fun m hm => ?_⟩
    rw [cv_xp]
    split
    · exact hf.top _ (by omega)
    · rfl
theorem det_bas {f : Fn} {n : Nat} (hf : Top f n) (N : Nat) : det N (fun i k => bas f n i k) = 1 := by
  rw [det_low N _ fun i j hij _ => (bas_top hf i).top j hij]
  exact prN_one fun i _ => (bas_top hf i).one
theorem sgm_xp {r : Fn} {n : Nat} (h : ∀ m, n ≤ m → r m = 0) (c : Nat) : sgm n (fun l => r l * xp l c) = r c := by
  by_cases y : c < n
  · rw [sgm_one y fun k _ hne => by show r k * xp k c = 0; unfold xp; rw [if_neg (fun z => hne z.symm), Int.mul_zero]]
    show r c * xp c c = r c
    unfold xp; rw [if_pos rfl, Int.mul_one]
  · rw [h c (by omega)]
    exact sgm_zero fun k hk => by unfold xp; rw [if_neg (by omega), Int.mul_zero]
theorem cv_sgm {s f : Fn} {m : Nat} (h : ∀ t, m ≤ t → s t = 0) (c : Nat) : sgm m (fun l => s l * cv (xp l) f c) = cv s f c := by
  have e : cv s f c = cv (fun k => sgm m fun l => s l * xp l k) f c := cv_congr (fun i _ => (sgm_xp h i).symm) fun _ _ => rfl
  rw [e]
  have key : ∀ m', cv (fun k => sgm m' fun l => s l * xp l k) f c = sgm m' fun l => s l * cv (xp l) f c := by
    intro m'
    induction m' with
    | zero => exact cv_zero f c
    | succ m' ih =>
      show cv (fun k => sgm m' (fun l => s l * xp l k) + s m' * xp m' k) f c = sgm m' _ + _
      rw [cv_add, ih, cv_smul]
  exact (key m).symm
theorem sgm_bas {f a : Fn} {n m : Nat} {r s : Fn} (hr : ∀ t, n ≤ t → r t = 0) (hs : ∀ t, m ≤ t → s t = 0) (c : Nat) : sgm (n + m) (fun l => (if l < n then r l else s (l - n)) * bas f n l c) = r c + cv s f c := by
  rw [sgm_split]
  have e1 : sgm n (fun l => (if l < n then r l else s (l - n)) * bas f n l c) = sgm n fun l => r l * xp l c := sgm_congr fun l hl => by rw [if_pos hl, bas_lo hl]
  have e2 : sgm m (fun j => (if n + j < n then r (n + j) else s (n + j - n)) * bas f n (n + j) c) = sgm m fun j => s j * cv (xp j) f c := sgm_congr fun j hj => by rw [if_neg (by omega), bas_hi, show n + j - n = j by omega]
  rw [e1, e2, sgm_xp hr, cv_sgm hs]
theorem res_mulL {f g h : Fn} {n m L : Nat} {R Rf Rg : Nat → Fn} (hf : Top f n) (hg : Top g m) (hn : 1 ≤ n) (hm : 1 ≤ m) (hh : ∀ k, L ≤ k → h k = 0) (hR : Rows (cv f g) (n + m) h R) (hRf : Rows f n h Rf) (hRg : Rows g m h Rg) : det (n + m) (fun i j => R i j) = det n (fun i j => Rf i j) * det m fun i j => Rg i j := by
  have hfg := hf.mul hg
  -- each row by the basis
  have ex : ∀ i, ∃ cr : Fn, i < n + m → (∀ l, l < n → cr l = if i < n then Rf i l else 0) ∧ (n ≤ i → ∀ l, n ≤ l → cr l = Rg (i - n) (l - n)) ∧ ∀ j, sgm (n + m) (fun k => bas f n i k * R k j) = sgm (n + m) fun l => cr l * bas f n l j := fun i => by
    by_cases hi : i < n + m
    · by_cases c : i < n
      · obtain ⟨⟨q, N, hq, e⟩, lo⟩ := hRf.at i
        obtain ⟨s, ⟨q2, N2, hq2, e2⟩, lo2⟩ := rst_ex hg hm hq
        refine ⟨fun l => if l < n then Rf i l else s (l - n), fun _ => ⟨fun l hl => by show (if l < n then _ else _) = _; rw [if_pos hl, if_pos c], fun z => absurd z (by omega), fun j => ?_⟩⟩
        have r1 := hR.comb (p := bas f n i) (P := n + m) fun t ht => (bas_top hf i).top t (by omega)
        have r2 : Rst (cv f g) (n + m) (cv (bas f n i) h) fun j => sgm (n + m) fun l => (if l < n then Rf i l else s (l - n)) * bas f n l j := by
          have es : (fun j => sgm (n + m) fun l => (if l < n then Rf i l else s (l - n)) * bas f n l j) = fun j => Rf i j + cv s f j := funext fun j => sgm_bas (a := f) lo lo2 j
          rw [es, bas_lo c]
          refine ⟨⟨q2, N2, hq2, fun t => ?_⟩, fun t ht => ?_⟩
          · rw [e t]
            have : cv q f t = cv (fun k => cv q2 g k + s k) f t := cv_congr (fun k _ => e2 k) fun _ _ => rfl
            rw [this, cv_add]
            have : cv (cv q2 g) f t = cv q2 (cv f g) t := by rw [cv_assoc, cv_fun_comm g f]
            rw [this]; omega
          · show Rf i t + cv s f t = 0
            rw [lo t (by omega), cv_low lo2 hf t ht]; rfl
        exact congrFun (Rst.uniq hfg r1 r2) j
      · obtain ⟨j', rfl⟩ : ∃ j', i = n + j' := ⟨i - n, by omega⟩
        obtain ⟨⟨q, N, hq, e⟩, lo⟩ := hRg.at j'
        refine ⟨fun l => if l < n then 0 else Rg j' (l - n), fun _ => ⟨fun l hl => by show (if l < n then (0 : Int) else _) = _; rw [if_pos hl, if_neg c], fun _ l hl => by show (if l < n then (0 : Int) else Rg j' (l - n)) = _; rw [if_neg (by omega), show n + j' - n = j' by omega], fun j => ?_⟩⟩
        have r1 := hR.comb (p := bas f n (n + j')) (P := n + m) fun t ht => (bas_top hf (n + j')).top t (by omega)
        have r2 : Rst (cv f g) (n + m) (cv (bas f n (n + j')) h) fun j => sgm (n + m) fun l => (if l < n then 0 else Rg j' (l - n)) * bas f n l j := by
          have es : (fun j => sgm (n + m) fun l => (if l < n then 0 else Rg j' (l - n)) * bas f n l j) = fun j => cv (Rg j') f j := funext fun j => by
            have := sgm_bas (f := f) (a := f) (n := n) (m := m) (r := fun _ => 0) (s := Rg j') (fun _ _ => rfl) lo j
            rw [this]; omega
          rw [es, bas_hi]
          refine ⟨⟨q, N, hq, fun t => ?_⟩, fun t ht => cv_low lo hf t ht⟩
          have e3 : cv (cv (xp j') f) h = cv (cv (xp j') h) f := by rw [cv_fun_assoc, cv_fun_assoc, cv_fun_comm f h]
          rw [e3]
          have : cv (cv (xp j') h) f t = cv (fun k => cv q g k + Rg j' k) f t := cv_congr (fun k _ => e k) fun _ _ => rfl
          rw [this, cv_add]
          have : cv (cv q g) f t = cv q (cv f g) t := by rw [cv_assoc, cv_fun_comm g f]
          rw [this]
        exact congrFun (Rst.uniq hfg r1 r2) j
    · exact ⟨fun _ => 0, fun z => absurd z hi⟩
  obtain ⟨C, hC⟩ : ∃ C : Mx, ∀ i, i < n + m → (∀ l, l < n → C i l = if i < n then Rf i l else 0) ∧ (n ≤ i → ∀ l, n ≤ l → C i l = Rg (i - n) (l - n)) ∧ ∀ j, sgm (n + m) (fun k => bas f n i k * R k j) = sgm (n + m) fun l => C i l * bas f n l j :=
    ⟨fun i => Classical.choose (ex i), fun i hi => Classical.choose_spec (ex i) hi⟩
  have e1 : det (n + m) (mxm (n + m) (fun i k => bas f n i k) fun i j => R i j) = det (n + m) (mxm (n + m) C fun i k => bas f n i k) := det_congr fun i j hi hj => (hC i hi).2.2 j
  rw [det_mul, det_mul, det_bas hf, Int.one_mul, Int.mul_one] at e1
  rw [e1, det_blockU fun i j h1 h2 h3 => by rw [(hC i h2).1 j h3, if_neg (by omega)]]
  congr 1
  · exact det_congr fun i j hi hj => by rw [(hC i (by omega)).1 j hj, if_pos hi]
  · exact det_congr fun i j hi hj => by rw [(hC (n + i) (by omega)).2.1 (by omega) (n + j) (by omega), show n + i - n = i by omega, show n + j - n = j by omega]
theorem res_mulR {f g h : Fn} {n L : Nat} {R1 R2 R3 : Nat → Fn} (hf : Top f n) (hh : ∀ k, L ≤ k → h k = 0) (h1 : Rows f n g R1) (h2 : Rows f n h R2) (h3 : Rows f n (cv g h) R3) : det n (fun i j => R3 i j) = det n (fun i j => R1 i j) * det n fun i j => R2 i j := by
  rw [← det_mul]
  refine det_congr fun i j hi hj => ?_
  have a1 := h1.at i
  have a2 := h2.comb (p := R1 i) (P := n) a1.lo
  rw [cv_fun_comm] at a2
  have a3 := Rst.next hh a1 a2
  have a4 := h3.at i
  have e : cv (xp i) (cv g h) = cv h (cv (xp i) g) := by rw [← cv_fun_assoc, cv_fun_comm]
  rw [e] at a4
  exact congrFun (Rst.uniq hf a4 a3) j
theorem res_same {f h h' p : Fn} {n P : Nat} {R R' : Nat → Fn} (hf : Top f n) (hp : ∀ k, P ≤ k → p k = 0) (e : ∀ k, h' k = h k + cv p f k) (h1 : Rows f n h R) (h2 : Rows f n h' R') : ∀ i, R' i = R i := by
  have h3 : Rows f n h' R := ⟨by
    obtain ⟨⟨q, N, hq, e1⟩, lo⟩ := h1.zero
    refine ⟨⟨fun i => q i + p i, max N P, fun m hm => by show q m + p m = 0; rw [hq m (by omega), hp m (by omega)]; rfl, fun m => ?_⟩, lo⟩
    rw [e m, e1 m, cv_add]; omega, h1.succ⟩
  exact Rows.uniq hf h2 h3
/-! ### changed about -/
theorem sg_add (a b : Nat) : sg (a + b) = sg a * sg b := by
  induction b with
  | zero => show sg a = sg a * 1; omega
  | succ b ih => rw [← Nat.add_assoc, sg_succ, ih, sg_succ]; grind
theorem sg_pw (a : Nat) : ∀ k : Nat, sg a ^ k = sg (a * k)
  | 0 => by rw [Int.pow_zero, Nat.mul_zero]; rfl
  | k + 1 => by rw [Int.pow_succ, sg_pw a k, ← sg_add]; rfl
def rot (N k a : Nat) : Nat := if a < k then N - k + a else a - k
theorem det_rot {N : Nat} (M : Mx) : ∀ k, k ≤ N → det N (fun a c => M (rot N k a) c) = sg (N - 1) ^ k * det N M
  | 0, _ => by
    have : (fun a c => M (rot N 0 a) c) = M := by
      funext a c
      unfold rot
      rw [if_neg (by omega)]; rfl
    rw [this, Int.pow_zero, Int.one_mul]
  | k + 1, hk => by
    have ih := det_rot (N := N) M k (by omega)
    have h := det_cyc (n := N) (N - 1) (fun a c => M (rot N k a) c) (by omega)
    rw [ih] at h
    have e : det N (fun a c => M (rot N (k + 1) a) c) = det N (fun a c => M (rot N k (cyc (N - 1) a)) c) := det_congr fun a c ha hc => by
      have : rot N (k + 1) a = rot N k (cyc (N - 1) a) := by
        cases a with
        | zero =>
          show rot N (k + 1) 0 = rot N k (N - 1)
          unfold rot
          rw [if_pos (by omega), if_neg (by omega)]; omega
        | succ b =>
          have : cyc (N - 1) (b + 1) = b := by
            show (if b < N - 1 then b else b + 1) = b
            rw [if_pos (by omega)]
          rw [this]
          unfold rot
          by_cases y : b < k
          · rw [if_pos y, if_pos (by omega)]; omega
          · rw [if_neg y, if_neg (by omega)]; omega
      rw [this]
    rw [e, h, Int.pow_succ]
    generalize sg (N - 1) = s; generalize s ^ k = t; generalize det N M = d
    grind
/-- all rows: g times the letter's powers, then f times them -/
def syl (f g : Fn) (n : Nat) (i : Nat) : Fn := if i < n then cv (xp i) g else cv (xp (i - n)) f
theorem det_syl {f g : Fn} {n m : Nat} {R : Nat → Fn} (hf : Top f n) (hg : Top g m) (hR : Rows f n g R) : det (n + m) (fun i k => syl f g n i k) = det n fun i j => R i j := by
  have ex : ∀ i, ∃ cr : Fn, i < n + m → (∀ l, l < n → cr l = if i < n then R i l else 0) ∧ (n ≤ i → ∀ l, n ≤ l → cr l = dlt (i - n) (l - n)) ∧ ∀ j, syl f g n i j = sgm (n + m) fun l => cr l * bas f n l j := fun i => by
    by_cases hi : i < n + m
    · by_cases c : i < n
      · obtain ⟨⟨q, N, hq, e⟩, lo⟩ := hR.at i
        have tg : ∀ k, n + m ≤ k → cv (xp i) g k = 0 := fun k hk => by
          rw [cv_xp]; split
          · exact hg.top _ (by omega)
          · rfl
        have qt := quo_top (m := m) hf hq fun k hk => by
          have := e k
          rw [tg k hk, lo k (by omega)] at this; omega
        refine ⟨fun l => if l < n then R i l else q (l - n), fun _ => ⟨fun l hl => by show (if l < n then _ else _) = _; rw [if_pos hl, if_pos c], fun z => absurd z (by omega), fun j => ?_⟩⟩
        rw [sgm_bas (a := f) lo qt]
        unfold syl
        rw [if_pos c, e j]; omega
      · obtain ⟨j', rfl⟩ : ∃ j', i = n + j' := ⟨i - n, by omega⟩
        refine ⟨fun l => if l < n then 0 else dlt j' (l - n), fun _ => ⟨fun l hl => by show (if l < n then (0 : Int) else _) = _; rw [if_pos hl, if_neg c], fun _ l hl => by show (if l < n then (0 : Int) else dlt j' (l - n)) = _; rw [if_neg (by omega), show n + j' - n = j' by omega], fun j => ?_⟩⟩
        have := sgm_bas (f := f) (a := f) (n := n) (m := m) (r := fun _ => 0) (s := fun k => dlt j' k) (fun _ _ => rfl) (fun t ht => if_neg (by omega)) j
        rw [this]
        unfold syl
        rw [if_neg c, show n + j' - n = j' by omega]
        show cv (xp j') f j = 0 + cv (xp j') f j
        omega
    · exact ⟨fun _ => 0, fun z => absurd z hi⟩
  obtain ⟨C, hC⟩ : ∃ C : Mx, ∀ i, i < n + m → (∀ l, l < n → C i l = if i < n then R i l else 0) ∧ (n ≤ i → ∀ l, n ≤ l → C i l = dlt (i - n) (l - n)) ∧ ∀ j, syl f g n i j = sgm (n + m) fun l => C i l * bas f n l j :=
    ⟨fun i => Classical.choose (ex i), fun i hi => Classical.choose_spec (ex i) hi⟩
  have e1 : det (n + m) (fun i k => syl f g n i k) = det (n + m) (mxm (n + m) C fun i k => bas f n i k) := det_congr fun i j hi hj => (hC i hi).2.2 j
  rw [det_mul, det_bas hf, Int.mul_one] at e1
  rw [e1, det_blockU fun i j h1 h2 h3 => by rw [(hC i h2).1 j h3, if_neg (by omega)]]
  have e2 : (det m fun r c => C (n + r) (n + c)) = det m dlt := det_congr fun i j hi hj => by rw [(hC (n + i) (by omega)).2.1 (by omega) (n + j) (by omega), show n + i - n = i by omega, show n + j - n = j by omega]
  rw [e2, det_dlt, Int.mul_one]
  exact det_congr fun i j hi hj => by rw [(hC i (by omega)).1 j hj, if_pos hi]
theorem res_swap {f g : Fn} {n m : Nat} {R S : Nat → Fn} (hf : Top f n) (hg : Top g m) (hm : 1 ≤ m) (hR : Rows f n g R) (hS : Rows g m f S) : det m (fun i j => S i j) = sg (n * m) * det n fun i j => R i j := by
  rw [← det_syl hf hg hR, ← det_syl hg hf hS]
  have h := det_rot (N := n + m) (fun i k => syl f g n i k) m (by omega)
  have e : det (m + n) (fun i k => syl g f m i k) = det (n + m) (fun a c => syl f g n (rot (n + m) m a) c) := by
    rw [Nat.add_comm m n]
    refine det_congr fun a c ha hc => ?_
    have : syl g f m a = syl f g n (rot (n + m) m a) := by
      unfold syl rot
      by_cases y : a < m
      · rw [if_pos y, if_pos y, if_neg (by omega), show n + m - m + a - n = a by omega]
      · rw [if_neg y, if_neg y, if_pos (by omega)]
    rw [this]
  rw [e, h, sg_pw]
  congr 1
  obtain ⟨k, rfl⟩ : ∃ k, m = k + 1 := ⟨m - 1, by omega⟩
  have e1 : (n + (k + 1) - 1) * (k + 1) = n * (k + 1) + k * (k + 1) := by rw [show n + (k + 1) - 1 = n + k by omega, Nat.add_mul]
  rw [e1, sg_add]
  have e2 : sg (k * (k + 1)) = 1 := by
    unfold sg
    rw [if_pos]
    rcases Nat.mod_two_eq_zero_or_one k with y | y
    · rw [Nat.mul_mod, y]; simp
    · rw [Nat.mul_mod, show (k + 1) % 2 = 0 by omega]; simp
  rw [e2, Int.mul_one]
/-! ### the signs of discriminants -/
theorem tg_add (n : Nat) : ∀ m, tg (n + m) = tg n * tg m * sg (n * m)
  | 0 => by show tg n = tg n * 1 * sg 0; rw [show sg 0 = 1 from rfl]; omega
  | m + 1 => by
    show tg (n + m) * sg (n + m) = tg n * (tg m * sg m) * sg (n * (m + 1))
    rw [tg_add n m, Nat.mul_add, Nat.mul_one, sg_add, sg_add]
    generalize tg n = a; generalize tg m = b; generalize sg (n * m) = c; generalize sg n = d; generalize sg m = e
    grind
/-! ### how great, for numbers of any kind -/
section
variable {f : Fn} {n : Nat}
theorem wb_tkC (hf : Top f n) (hn : 1 ≤ n) {W C : Nat} (hW : 1 ≤ W) (hb : wb W (C * W ^ n) f) : ∀ k, wb W ((W * (1 + C)) ^ k) (tk f n k)
  | 0, j => by
    show (xp 0 j).natAbs * W ^ j ≤ 1
    unfold xp
    by_cases c : j = 0
    · rw [if_pos c, c]; simp
    · rw [if_neg c]; simp
  | k + 1, j => by
    have ih := wb_tkC hf hn hW hb k
    show ((if j = 0 then 0 else tk f n k (j - 1)) - tk f n k (n - 1) * f j).natAbs * W ^ j ≤ _
    generalize hc : (W * (1 + C)) ^ k = c at ih
    have h1 : (if j = 0 then (0 : Int) else tk f n k (j - 1)).natAbs * W ^ j ≤ c * W := by
      by_cases z : j = 0
      · rw [if_pos z]; simp
      · rw [if_neg z]
        have := Nat.mul_le_mul_right W (ih (j - 1))
        rw [Nat.mul_assoc, ← Nat.pow_succ, show (j - 1).succ = j by omega] at this
        exact this
    have h2 : (tk f n k (n - 1) * f j).natAbs * W ^ j ≤ c * W * C := by
      rw [Int.natAbs_mul, Nat.mul_assoc]
      have a1 := Nat.mul_le_mul_left (tk f n k (n - 1)).natAbs (hb j)
      refine Nat.le_trans a1 ?_
      have e : (tk f n k (n - 1)).natAbs * (C * W ^ n) = (tk f n k (n - 1)).natAbs * W ^ (n - 1) * (W * C) := by
        have : W ^ n = W ^ (n - 1) * W := by rw [← Nat.pow_succ, show (n - 1).succ = n by omega]
        rw [this]
        ac_rfl
      rw [e, Nat.mul_assoc c]
      exact Nat.mul_le_mul_right _ (ih (n - 1))
    have h3 := Int.natAbs_sub_le (if j = 0 then (0 : Int) else tk f n k (j - 1)) (tk f n k (n - 1) * f j)
    refine Nat.le_trans (Nat.mul_le_mul_right _ h3) ?_
    rw [Nat.add_mul, Nat.pow_succ, hc, ← Nat.mul_assoc, Nat.mul_add, Nat.mul_one]
    exact Nat.add_le_add h1 h2
theorem rows_absC (hf : Top f n) (hn : 1 ≤ n) {W C cg L : Nat} (hW : 1 ≤ W) (hb : wb W (C * W ^ n) f) {g : Fn} (hg : ∀ m, L ≤ m → g m = 0) (bg : wb W cg g) {R : Nat → Fn} (h : Rows f n g R) (i j : Nat) : (R i j).natAbs ≤ L * (cg * (1 + C) ^ L * (W * (1 + C)) ^ i) := by
  rw [rows_tk hf hn hg h i]
  refine sgm_abs fun k hk => ?_
  rw [Int.natAbs_mul]
  have h1 := wb_tkC hf hn hW hb (k + i) j
  have h2 : (tk f n (k + i) j).natAbs ≤ (W * (1 + C)) ^ (k + i) := Nat.le_trans (Nat.le_mul_of_pos_right _ (Nat.pow_pos hW)) h1
  refine Nat.le_trans (Nat.mul_le_mul_left _ h2) ?_
  rw [Nat.pow_add, ← Nat.mul_assoc]
  refine Nat.mul_le_mul_right _ ?_
  rw [Nat.mul_pow, ← Nat.mul_assoc]
  exact Nat.mul_le_mul (bg k) (Nat.pow_le_pow_right (Nat.le_trans (Nat.le_refl 1) (Nat.le_add_right 1 _)) (Nat.le_of_lt hk))
end
theorem wb_cv {f g : Fn} {W a b P : Nat} (hW : 1 ≤ W) (hf : wb W a f) (hg : wb W b g) (hP : ∀ i, P ≤ i → f i = 0) : wb W (P * (a * b)) (cv f g) := fun c => by
  rw [← cv_sgm hP]
  have hp : 0 < W ^ c := Nat.pow_pos hW
  have h : (sgm P fun l => f l * cv (xp l) g c).natAbs ≤ P * (a * b / W ^ c) := sgm_abs fun l hl => by
    rw [Nat.le_div_iff_mul_le hp, Int.natAbs_mul, cv_xp]
    by_cases y : l ≤ c
    · rw [if_pos y]
      have e : W ^ c = W ^ l * W ^ (c - l) := by rw [← Nat.pow_add, show l + (c - l) = c by omega]
      have : (f l).natAbs * (g (c - l)).natAbs * W ^ c = ((f l).natAbs * W ^ l) * ((g (c - l)).natAbs * W ^ (c - l)) := by rw [e]; ac_rfl
      rw [this]
      exact Nat.mul_le_mul (hf l) (hg (c - l))
    · rw [if_neg y]; simp
  refine Nat.le_trans (Nat.mul_le_mul_right _ h) ?_
  rw [Nat.mul_assoc]
  exact Nat.mul_le_mul_left _ (Nat.div_mul_le_self _ _)
/-- a monic one of numbers not above W -/
theorem wb_monic {f : Fn} {n W : Nat} (hf : Top f n) (hb : ∀ i, (f i).natAbs ≤ W) (hW : 1 ≤ W) : wb W (W ^ n) f := fun j => by
  by_cases c : n < j
  · rw [hf.top j c]; simp
  · by_cases d : j = n
    · rw [d, hf.one]; simp
    · refine Nat.le_trans (Nat.mul_le_mul_right _ (hb j)) ?_
      rw [Nat.mul_comm, ← Nat.pow_succ]
      exact Nat.pow_le_pow_right hW (by omega)
/-! ### all together -/
theorem IsRes.mulL {f g h : Fn} {n m L : Nat} {a b c : Int} (hf : Top f n) (hg : Top g m) (hn : 1 ≤ n) (hm : 1 ≤ m) (hh : ∀ k, L ≤ k → h k = 0) (h1 : IsRes f n h a) (h2 : IsRes g m h b) (h3 : IsRes (cv f g) (n + m) h c) : c = a * b := by
  obtain ⟨R1, r1, rfl⟩ := h1
  obtain ⟨R2, r2, rfl⟩ := h2
  obtain ⟨R3, r3, rfl⟩ := h3
  exact res_mulL hf hg hn hm hh r3 r1 r2
theorem IsRes.mulR {f g h : Fn} {n L : Nat} {a b c : Int} (hf : Top f n) (hh : ∀ k, L ≤ k → h k = 0) (h1 : IsRes f n g a) (h2 : IsRes f n h b) (h3 : IsRes f n (cv g h) c) : c = a * b := by
  obtain ⟨R1, r1, rfl⟩ := h1
  obtain ⟨R2, r2, rfl⟩ := h2
  obtain ⟨R3, r3, rfl⟩ := h3
  exact res_mulR hf hh r1 r2 r3
theorem IsRes.swap {f g : Fn} {n m : Nat} {a b : Int} (hf : Top f n) (hg : Top g m) (hm : 1 ≤ m) (h1 : IsRes f n g a) (h2 : IsRes g m f b) : b = sg (n * m) * a := by
  obtain ⟨R1, r1, rfl⟩ := h1
  obtain ⟨R2, r2, rfl⟩ := h2
  exact res_swap hf hg hm r1 r2
theorem IsRes.same {f h h' p : Fn} {n P : Nat} {a b : Int} (hf : Top f n) (hp : ∀ k, P ≤ k → p k = 0) (e : ∀ k, h' k = h k + cv p f k) (h1 : IsRes f n h a) (h2 : IsRes f n h' b) : b = a := by
  obtain ⟨R1, r1, rfl⟩ := h1
  obtain ⟨R2, r2, rfl⟩ := h2
  have := res_same hf hp e r1 r2
  exact det_congr fun i j _ _ => by rw [this i]
theorem isRes_ex {f g : Fn} {n L : Nat} (hf : Top f n) (hn : 1 ≤ n) (hg : ∀ k, L ≤ k → g k = 0) : ∃ a, IsRes f n g a := by
  obtain ⟨r, hr⟩ := rst_ex hf hn hg
  have step : ∀ r : Fn, (∀ k, n ≤ k → r k = 0) → ∃ s : Fn, Rst f n (cv (xp 1) r) s := fun r h => rst_ex hf hn (L := 2 + n) (cv_fin (fun m hm => xp_zero 1 m hm) h)
  let nx : {r : Fn // ∀ k, n ≤ k → r k = 0} → {r : Fn // ∀ k, n ≤ k → r k = 0} := fun r => ⟨Classical.choose (step r.1 r.2), (Classical.choose_spec (step r.1 r.2)).lo⟩
  let R : Nat → {r : Fn // ∀ k, n ≤ k → r k = 0} := fun i => Nat.rec ⟨r, hr.lo⟩ (fun _ r => nx r) i
  exact ⟨_, fun i => (R i).1, ⟨hr, fun i => Classical.choose_spec (step (R i).1 (R i).2)⟩, rfl⟩
theorem dN_cv (f g : Fn) : ∀ k, dN (cv f g) k = cv (dN f) g k + cv f (dN g) k := fun k => cv_deriv f g k
/-- the discriminant of a product, but for the signs -/
theorem IsRes.deriv {f g : Fn} {n m : Nat} {a b c r : Int} (hf : Top f n) (hg : Top g m) (hn : 1 ≤ n) (hm : 1 ≤ m) (h1 : IsRes f n (dN f) a) (h2 : IsRes g m (dN g) b) (h3 : IsRes f n g r) (h4 : IsRes (cv f g) (n + m) (dN (cv f g)) c) : c = a * b * r * (sg (n * m) * r) := by
  have hfg := hf.mul hg
  have fd : ∀ {u : Fn} {k : Nat}, Top u k → ∀ i, k ≤ i → dN u i = 0 := fun h => dN_top h.fin
  obtain ⟨x, hx⟩ := isRes_ex (g := dN (cv f g)) hf hn (fd hfg)
  obtain ⟨y, hy⟩ := isRes_ex (g := dN (cv f g)) hg hm (fd hfg)
  obtain ⟨u, hu⟩ := isRes_ex (g := cv (dN f) g) hf hn (cv_fin (fd hf) hg.fin)
  obtain ⟨v, hv⟩ := isRes_ex (g := cv f (dN g)) hg hm (cv_fin hf.fin (fd hg))
  obtain ⟨t, ht⟩ := isRes_ex (g := f) hg hm hf.fin
  have e1 := IsRes.mulL hf hg hn hm (fd hfg) hx hy h4
  have e2 := IsRes.same hf (fd hg) (fun k => by rw [dN_cv, cv_fun_comm f (dN g)]) hu hx
  have e3 := IsRes.same hg (fd hf) (fun k => by rw [dN_cv]; omega) hv hy
  have e4 := IsRes.mulR hf hg.fin h1 h3 hu
  have e5 := IsRes.mulR hg (fd hg) ht h2 hv
  have e6 := IsRes.swap hf hg hm h3 ht
  rw [e1, e2, e3, e4, e5, e6]
  ac_rfl
end L2

/-! resultants with linear polynomials; the letter's power with two terms more -/
set_option Elab.async false
set_option linter.all false
set_option maxRecDepth 100000
namespace L2
/-- two along the way, any row last -/
theorem det_bi (d e : Int) : ∀ (n : Nat) (v : Fn) (M : Mx), (∀ i c, i < n → c < n + 1 → M i c = if c = i then d else if c = i + 1 then e else 0) → (∀ c, c < n + 1 → M n c = v c) → det (n + 1) M = sgm (n + 1) fun j => v j * (sg (n - j) * (d ^ j * e ^ (n - j)))
  | 0, v, M, _, h2 => by
    rw [det_one, h2 0 (by omega)]
    show v 0 = 0 + v 0 * (sg 0 * (d ^ 0 * e ^ 0))
    rw [Int.pow_zero, Int.pow_zero, show sg 0 = 1 from rfl]; omega
  | n + 1, v, M, h1, h2 => by
    rw [det_succ]
    show sgm n _ + sg (n + 1 - n) * M n (n + 1) * det (n + 1) (fun r c => M (skp n r) c) + sg (n + 1 - (n + 1)) * M (n + 1) (n + 1) * det (n + 1) (fun r c => M (skp (n + 1) r) c) = _
    rw [sgm_zero fun i hi => by rw [h1 i (n + 1) (by omega) (by omega), if_neg (by omega), if_neg (by omega), Int.mul_zero, Int.zero_mul]]
    have e1 : M n (n + 1) = e := by rw [h1 n (n + 1) (by omega) (by omega), if_neg (by omega), if_pos rfl]
    have e2 := det_bi d e n v (fun r c => M (skp n r) c) (fun i c hi hc => by
      have : skp n i = i := by unfold skp; rw [if_pos hi]
      rw [this]; exact h1 i c (by omega) (by omega)) fun c hc => by
      have : skp n n = n + 1 := by unfold skp; rw [if_neg (by omega)]
      rw [this]; exact h2 c (by omega)
    have e3 : det (n + 1) (fun r c => M (skp (n + 1) r) c) = d ^ (n + 1) := by
      rw [det_tri (n + 1) _ fun i j hij hi => by
        have : skp (n + 1) i = i := by unfold skp; rw [if_pos hi]
        rw [this, h1 i j hi (by omega), if_neg (by omega), if_neg (by omega)]]
      have : ∀ k, k ≤ n + 1 → prN k (fun i => M (skp (n + 1) i) i) = d ^ k := by
        intro k
        induction k with
        | zero => intro _; rw [Int.pow_zero]; rfl
        | succ k ih =>
          intro hk
          show prN k _ * M (skp (n + 1) k) k = _
          have : skp (n + 1) k = k := by unfold skp; rw [if_pos (by omega)]
          rw [ih (by omega), this, h1 k k (by omega) (by omega), if_pos rfl, Int.pow_succ]
      exact this (n + 1) (Nat.le_refl _)
    rw [e1, e2, e3, h2 (n + 1) (by omega), show n + 1 - n = 1 by omega, Nat.sub_self]
    show _ = sgm (n + 1) _ + v (n + 1) * (sg (n + 1 - (n + 1)) * (d ^ (n + 1) * e ^ (n + 1 - (n + 1))))
    rw [Nat.sub_self]
    have e4 : sgm (n + 1) (fun j => v j * (sg (n + 1 - j) * (d ^ j * e ^ (n + 1 - j)))) = (- e) * sgm (n + 1) fun j => v j * (sg (n - j) * (d ^ j * e ^ (n - j))) := by
      rw [← sgm_mul]
      refine sgm_congr fun j hj => ?_
      rw [show n + 1 - j = n - j + 1 by omega, sg_succ, Int.pow_succ]
      generalize sg (n - j) = s; generalize e ^ (n - j) = p; generalize d ^ j = q; generalize v j = w
      grind
    rw [e4, show sg 1 = -1 from rfl, show sg 0 = 1 from rfl, Int.pow_zero]
    generalize sgm (n + 1) (fun j => v j * (sg (n - j) * (d ^ j * e ^ (n - j)))) = S
    generalize d ^ (n + 1) = D
    generalize v (n + 1) = w
    grind
def li (d e : Int) : Fn := fun k => if k = 0 then d else if k = 1 then e else 0
theorem li_fin (d e : Int) : ∀ k, 2 ≤ k → li d e k = 0 := fun k h => by unfold li; rw [if_neg (by omega), if_neg (by omega)]
theorem cv_li (a : Fn) (d e : Int) (m : Nat) : cv (li d e) a m = d * a m + e * (if 1 ≤ m then a (m - 1) else 0) := by
  have h : li d e = fun k => d * xp 0 k + e * xp 1 k := by
    funext k
    unfold li xp
    by_cases c : k = 0
    · rw [if_pos c, if_pos c, if_neg (by omega)]; omega
    · rw [if_neg c, if_neg c]
      by_cases c1 : k = 1
      · rw [if_pos c1, if_pos c1]; omega
      · rw [if_neg c1, if_neg c1]; omega
  rw [h, cv_add, cv_smul, cv_smul, cv_xp, cv_xp, if_pos (by omega)]; rfl
theorem res_li {f : Fn} {n : Nat} {d e D : Int} (hf : Top f n) (hn : 1 ≤ n) (h : IsRes f n (li d e) D) : D = sgm (n + 1) fun j => f j * (sg (n - j) * (d ^ j * e ^ (n - j))) := by
  obtain ⟨R, hR, rfl⟩ := h
  obtain ⟨k, rfl⟩ : ∃ k, n = k + 1 := ⟨n - 1, by omega⟩
  have at_ : ∀ i c, cv (xp i) (li d e) c = if c = i then d else if c = i + 1 then e else 0 := fun i c => by
    rw [cv_xp]
    unfold li
    by_cases y : i ≤ c
    · rw [if_pos y]
      by_cases z : c = i
      · rw [if_pos z, if_pos (by omega)]
      · rw [if_neg z, if_neg (by omega)]
        by_cases w : c = i + 1
        · rw [if_pos w, if_pos (by omega)]
        · rw [if_neg w, if_neg (by omega)]
    · rw [if_neg y, if_neg (by omega), if_neg (by omega)]
  have low : ∀ i, i < k → R i = cv (xp i) (li d e) := fun i hi => Rst.uniq hf (hR.at i) (Rst.self fun m hm => by rw [at_, if_neg (by omega), if_neg (by omega)])
  have last : R k = fun c => (if c = k then d else 0) - (if c < k + 1 then e * f c else 0) := by
    refine Rst.uniq hf (hR.at k) ⟨⟨fun i => if i = 0 then e else 0, 1, fun m hm => if_neg (by omega), fun m => ?_⟩, fun m hm => by show (if m = k then d else 0) - _ = 0; rw [if_neg (by omega), if_neg (by omega)]; rfl⟩
    have e1 : cv (fun i => if i = 0 then e else 0) f m = e * f m := cv_unit (if_pos rfl) (fun i hi => if_neg (by omega)) m
    rw [e1, at_]
    by_cases y : m < k + 1
    · rw [if_pos y, if_neg (show ¬ m = k + 1 by omega)]
      by_cases z : m = k
      · rw [if_pos z]; omega
      · rw [if_neg z]; omega
    · rw [if_neg y, if_neg (show ¬ m = k by omega)]
      by_cases z : m = k + 1
      · rw [if_pos z, z, hf.one]; omega
      · rw [if_neg z, hf.top m (by omega)]; omega
  rw [det_bi d e k (fun c => (if c = k then d else 0) - (if c < k + 1 then e * f c else 0)) (fun i j => R i j) (fun i c hi hc => by show R i c = _; rw [low i hi, at_]) fun c hc => by show R k c = _; rw [last]]
  show _ = sgm (k + 1) _ + f (k + 1) * (sg (k + 1 - (k + 1)) * (d ^ (k + 1) * e ^ (k + 1 - (k + 1))))
  rw [Nat.sub_self, hf.one, show sg 0 = 1 from rfl, Int.pow_zero]
  have e2 : sgm (k + 1) (fun j => ((if j = k then d else 0) - (if j < k + 1 then e * f j else 0)) * (sg (k - j) * (d ^ j * e ^ (k - j)))) = sgm (k + 1) (fun j => (if j = k then d else 0) * (sg (k - j) * (d ^ j * e ^ (k - j)))) + sgm (k + 1) (fun j => f j * (sg (k + 1 - j) * (d ^ j * e ^ (k + 1 - j)))) := by
    rw [← sgm_add]
    refine sgm_congr fun j hj => ?_
    rw [if_pos hj, show k + 1 - j = k - j + 1 by omega, sg_succ, Int.pow_succ]
    generalize sg (k - j) = s; generalize e ^ (k - j) = p; generalize d ^ j = q; generalize f j = w; generalize (if j = k then d else 0) = y
    grind
  rw [e2, sgm_one (k := k) (by omega) fun i _ hne => by show (if i = k then d else 0) * _ = 0; rw [if_neg hne, Int.zero_mul]]
  show (if k = k then d else 0) * (sg (k - k) * (d ^ k * e ^ (k - k))) + _ = _
  rw [if_pos rfl, Nat.sub_self, show sg 0 = 1 from rfl, Int.pow_zero, Int.pow_succ]
  generalize sgm (k + 1) _ = S
  generalize d ^ k = p
  grind
theorem res_const {f : Fn} {n : Nat} {a D : Int} (hf : Top f n) (h : IsRes f n (fun k => a * xp 0 k) D) : D = a ^ n := by
  obtain ⟨R, hR, rfl⟩ := h
  have low : ∀ i, i < n → R i = fun c => a * xp i c := fun i hi => Rst.uniq hf (hR.at i) (by
    have e : cv (xp i) (fun k => a * xp 0 k) = fun c => a * xp i c := funext fun c => by rw [cv_smulR, cv_one]
    rw [e]
    exact Rst.self fun m hm => by show a * xp i m = 0; unfold xp; rw [if_neg (by omega), Int.mul_zero])
  rw [det_tri n _ fun i j hij hi => by show R i j = 0; rw [low i hi]; show a * xp i j = 0; unfold xp; rw [if_neg (by omega), Int.mul_zero]]
  have : ∀ k, k ≤ n → prN k (fun i => R i i) = a ^ k := by
    intro k
    induction k with
    | zero => intro _; rw [Int.pow_zero]; rfl
    | succ k ih =>
      intro hk
      show prN k _ * R k k = _
      rw [ih (by omega), low k (by omega), Int.pow_succ]
      show _ * (a * xp k k) = _
      unfold xp; rw [if_pos rfl, Int.mul_one]
  exact this n (Nat.le_refl _)
/-- the letter's power n, a times the letter, b -/
def tri (n : Nat) (a b : Int) : Fn := fun k => if k = n then 1 else if k = 1 then a else if k = 0 then b else 0
theorem tri_top {n : Nat} (a b : Int) (hn : 2 ≤ n) : Top (tri n a b) n := ⟨if_pos rfl, fun m hm => by unfold tri; rw [if_neg (by omega), if_neg (by omega), if_neg (by omega)]⟩
theorem pw_neg (x : Int) : ∀ n : Nat, (- x) ^ n = sg n * x ^ n
  | 0 => by rw [Int.pow_zero, Int.pow_zero]; rfl
  | n + 1 => by rw [Int.pow_succ, pw_neg x n, sg_succ, Int.pow_succ]; generalize sg n = s; generalize x ^ n = y; grind
theorem pw_mul (x y : Int) : ∀ n : Nat, (x * y) ^ n = x ^ n * y ^ n
  | 0 => by rw [Int.pow_zero, Int.pow_zero, Int.pow_zero]; rfl
  | n + 1 => by rw [Int.pow_succ, pw_mul x y n, Int.pow_succ, Int.pow_succ]; ac_rfl
theorem dN_tri {n : Nat} (a b : Int) (hn : 2 ≤ n) (k : Nat) : dN (tri n a b) k = (n : Int) * xp (n - 1) k + a * xp 0 k := by
  unfold dN tri xp
  by_cases c : k = 0
  · rw [if_neg (by omega), if_pos (by omega), if_pos c, if_neg (by omega), c]; omega
  · rw [if_neg c]
    by_cases y : k = n - 1
    · rw [if_pos (by omega), if_pos y, show k + 1 = n by omega]; omega
    · rw [if_neg (by omega), if_neg (by omega), if_neg (by omega), if_neg y]; omega
theorem tri_res {n : Nat} {a b D : Int} (hn : 2 ≤ n) (h : IsRes (tri n a b) n (dN (tri n a b)) D) : D = b ^ (n - 1) * (n : Int) ^ n + sg (n - 1) * a ^ n * ((n : Int) - 1) ^ (n - 1) := by
  obtain ⟨k, rfl⟩ : ∃ k, n = k + 2 := ⟨n - 2, by omega⟩
  have hf := tri_top a b hn
  have e1 : ((k + 2 : Nat) : Int) - 1 = ((k + 1 : Nat) : Int) := by omega
  rw [show k + 2 - 1 = k + 1 by omega, e1]
  by_cases hb : b = 0
  · -- the letter times the rest
    subst hb
    have hx : Top (xp 1) 1 := ⟨if_pos rfl, fun m hm => if_neg (by omega)⟩
    let g : Fn := fun c => xp (k + 1) c + a * xp 0 c
    have hg : Top g (k + 1) := ⟨by show xp (k + 1) (k + 1) + a * xp 0 (k + 1) = 1; unfold xp; rw [if_pos rfl, if_neg (by omega)]; omega, fun m hm => by show xp (k + 1) m + a * xp 0 m = 0; unfold xp; rw [if_neg (by omega), if_neg (by omega)]; omega⟩
    have ef : tri (k + 2) a 0 = cv (xp 1) g := by
      funext c
      rw [cv_xp]
      show (if c = k + 2 then 1 else if c = 1 then a else if c = 0 then 0 else 0) = if 1 ≤ c then xp (k + 1) (c - 1) + a * xp 0 (c - 1) else 0
      unfold xp
      by_cases y : c = k + 2
      · rw [if_pos y, if_pos (by omega), if_pos (by omega), if_neg (by omega)]; omega
      · rw [if_neg y]
        by_cases z : c = 1
        · rw [if_pos z, if_pos (by omega), if_neg (by omega), if_pos (by omega)]; omega
        · rw [if_neg z]
          by_cases w : c = 0
          · rw [if_pos w, if_neg (by omega)]
          · rw [if_neg w, if_pos (by omega), if_neg (by omega), if_neg (by omega)]; omega
    have fin : ∀ m, k + 2 ≤ m → dN (tri (k + 2) a 0) m = 0 := dN_top hf.fin
    obtain ⟨x, hx'⟩ := isRes_ex (g := dN (tri (k + 2) a 0)) hx (by omega) fin
    obtain ⟨y, hy'⟩ := isRes_ex (g := dN (tri (k + 2) a 0)) hg (by omega) fin
    have h' := h
    rw [ef, show k + 2 = 1 + (k + 1) by omega] at h'
    rw [← ef, show 1 + (k + 1) = k + 2 by omega] at h'
    have hD : D = x * y := by
      refine IsRes.mulL (L := k + 2) hx hg (by omega) (by omega) fin hx' hy' ?_
      rw [← ef, show 1 + (k + 1) = k + 2 by omega]
      exact h
    obtain ⟨c1, hc1⟩ := isRes_ex (f := xp 1) (n := 1) (g := fun k => a * xp 0 k) (L := 1) hx (by omega) fun m hm => by show a * xp 0 m = 0; unfold xp; rw [if_neg (by omega), Int.mul_zero]
    obtain ⟨c2, hc2⟩ := isRes_ex (f := g) (n := k + 1) (g := fun c => (- (((k + 1 : Nat) : Int) * a)) * xp 0 c) (L := 1) hg (by omega) fun m hm => by show _ * xp 0 m = 0; unfold xp; rw [if_neg (by omega), Int.mul_zero]
    have s1 := IsRes.same (P := k + 1) (p := fun c => ((k + 2 : Nat) : Int) * xp k c) hx (fun m hm => by show _ * xp k m = 0; unfold xp; rw [if_neg (by omega), Int.mul_zero]) (fun c => by
      rw [dN_tri a 0 hn c, cv_smul, cv_fun_comm, cv_xp]
      show _ = a * xp 0 c + ((k + 2 : Nat) : Int) * (if 1 ≤ c then xp k (c - 1) else 0)
      rw [show k + 2 - 1 = k + 1 by omega]
      have : xp (k + 1) c = if 1 ≤ c then xp k (c - 1) else 0 := by
        unfold xp
        by_cases y : c = k + 1
        · rw [if_pos y, if_pos (by omega), if_pos (by omega)]
        · rw [if_neg y]
          by_cases z : 1 ≤ c
          · rw [if_pos z, if_neg (by omega)]
          · rw [if_neg z]
      rw [this]; omega) hc1 hx'
    have s2 := IsRes.same (P := 1) (p := fun c => ((k + 2 : Nat) : Int) * xp 0 c) hg (fun m hm => by show _ * xp 0 m = 0; unfold xp; rw [if_neg (by omega), Int.mul_zero]) (fun c => by
      rw [dN_tri a 0 hn c, cv_smul, cv_xp, if_pos (by omega)]
      show _ = (- (((k + 1 : Nat) : Int) * a)) * xp 0 c + ((k + 2 : Nat) : Int) * (xp (k + 1) c + a * xp 0 c)
      rw [show k + 2 - 1 = k + 1 by omega]
      have : ((k + 2 : Nat) : Int) = ((k + 1 : Nat) : Int) + 1 := by omega
      rw [this]
      generalize ((k + 1 : Nat) : Int) = t; generalize xp (k + 1) c = u; generalize xp 0 c = v
      grind) hc2 hy'
    rw [hD, s1, s2, res_const hx hc1, res_const hg hc2, pw_neg, pw_mul, Int.pow_succ 0 k, Int.mul_zero, Int.zero_mul, Int.zero_add, show a ^ (k + 2) = a ^ (k + 1) * a from Int.pow_succ a (k + 1), Int.pow_succ a 0, Int.pow_zero]
    generalize ((k + 1 : Nat) : Int) ^ (k + 1) = t; generalize sg (k + 1) = s; generalize a ^ (k + 1) = u
    grind
  · have fin : ∀ m, k + 2 ≤ m → dN (tri (k + 2) a b) m = 0 := dN_top hf.fin
    have x1 : xp 1 = li 0 1 := by
      funext c
      unfold xp li
      by_cases y : c = 1
      · rw [if_pos y, if_neg (by omega)]
      · rw [if_neg y]
        by_cases z : c = 0
        · rw [if_pos z]
        · rw [if_neg z]
    obtain ⟨x, hx⟩ := isRes_ex (g := li 0 1) (L := 2) hf (by omega) (li_fin 0 1)
    obtain ⟨y, hy⟩ := isRes_ex (g := cv (li 0 1) (dN (tri (k + 2) a b))) hf (by omega) (cv_fin (li_fin 0 1) fin)
    obtain ⟨z, hz⟩ := isRes_ex (g := li (- (((k + 2 : Nat) : Int) * b)) (- (((k + 1 : Nat) : Int) * a))) (L := 2) hf (by omega) (li_fin _ _)
    have m1 := IsRes.mulR hf fin hx h hy
    have m2 := IsRes.same (P := 1) (p := fun c => ((k + 2 : Nat) : Int) * xp 0 c) hf (fun m hm => by show _ * xp 0 m = 0; unfold xp; rw [if_neg (by omega), Int.mul_zero]) (fun c => by
      rw [← x1, cv_xp, cv_smul, cv_xp, if_pos (show 0 ≤ c by omega)]
      show (if 1 ≤ c then dN (tri (k + 2) a b) (c - 1) else 0) = li _ _ c + ((k + 2 : Nat) : Int) * tri (k + 2) a b c
      rw [dN_tri a b hn]
      unfold li tri
      by_cases c0 : c = 0
      · rw [if_neg (by omega), if_pos c0, if_neg (by omega), if_neg (by omega), if_pos c0]; omega
      · rw [if_pos (show 1 ≤ c by omega), if_neg c0]
        unfold xp
        by_cases c1 : c = 1
        · rw [if_pos c1, if_neg (by omega), if_pos (by omega), if_neg (by omega), if_pos c1]
          have : ((k + 2 : Nat) : Int) = ((k + 1 : Nat) : Int) + 1 := by omega
          rw [this]
          generalize ((k + 1 : Nat) : Int) = t
          grind
        · rw [if_neg c1, if_neg (show ¬ c - 1 = 0 by omega)]
          by_cases c2 : c = k + 2
          · rw [if_pos c2, if_pos (by omega)]; omega
          · rw [if_neg c2, if_neg (by omega), if_neg c1, if_neg c0]; omega) hz hy
    have v1 := res_li hf (by omega) hx
    have v2 := res_li hf (by omega) hz
    have tz : ∀ (d e : Int), sgm (k + 2 + 1) (fun j => tri (k + 2) a b j * (sg (k + 2 - j) * (d ^ j * e ^ (k + 2 - j)))) = b * (sg k * e ^ (k + 2)) - a * (sg k * (d * e ^ (k + 1))) + d ^ (k + 2) := by
      intro d e
      rw [sgm_shift, sgm_shift]
      show tri (k + 2) a b 0 * (sg (k + 2 - 0) * (d ^ 0 * e ^ (k + 2 - 0))) + (tri (k + 2) a b (0 + 1) * (sg (k + 2 - (0 + 1)) * (d ^ (0 + 1) * e ^ (k + 2 - (0 + 1)))) + sgm (k + 1) fun i => tri (k + 2) a b (i + 1 + 1) * (sg (k + 2 - (i + 1 + 1)) * (d ^ (i + 1 + 1) * e ^ (k + 2 - (i + 1 + 1))))) = _
      rw [sgm_one (k := k) (by omega) fun i hi hne => by
        show tri (k + 2) a b (i + 1 + 1) * _ = 0
        unfold tri
        rw [if_neg (by omega), if_neg (by omega), if_neg (by omega), Int.zero_mul]]
      have t0 : tri (k + 2) a b 0 = b := by unfold tri; rw [if_neg (by omega), if_neg (by omega), if_pos rfl]
      have t1 : tri (k + 2) a b (0 + 1) = a := by unfold tri; rw [if_neg (by omega), if_pos rfl]
      have t2 : tri (k + 2) a b (k + 1 + 1) = 1 := if_pos rfl
      rw [t0, t1, t2, show k + 2 - 0 = k + 2 by omega, show k + 2 - (0 + 1) = k + 1 by omega, show k + 2 - (k + 1 + 1) = 0 by omega, show sg 0 = 1 from rfl, Int.pow_zero, Int.pow_zero, sg_succ, show sg (k + 1) = - sg k from sg_succ k, show k + 1 + 1 = k + 2 from rfl, Int.pow_succ d 0, Int.pow_zero]
      generalize sg k = s; generalize e ^ (k + 2) = p; generalize e ^ (k + 1) = q; generalize d ^ (k + 2) = r
      grind
    rw [tz] at v1 v2
    have w1 : x = sg k * b := by
      rw [v1, Int.one_pow, Int.one_pow, Int.pow_succ]; grind
    have w2 : z = sg k * b * (b ^ (k + 1) * ((k + 2 : Nat) : Int) ^ (k + 2) + sg (k + 1) * a ^ (k + 2) * ((k + 1 : Nat) : Int) ^ (k + 1)) := by
      rw [v2, pw_neg, pw_neg, pw_neg, pw_mul, pw_mul, pw_mul, sg_succ, show sg (k + 1) = - sg k from sg_succ k]
      have s2 := sg_sq k
      have p1 : ((k + 1 : Nat) : Int) ^ (k + 2) = ((k + 1 : Nat) : Int) ^ (k + 1) * ((k + 1 : Nat) : Int) := Int.pow_succ _ _
      have p2 : a ^ (k + 2) = a ^ (k + 1) * a := Int.pow_succ _ _
      have p3 : b ^ (k + 2) = b ^ (k + 1) * b := Int.pow_succ _ _
      have p4 : ((k + 2 : Nat) : Int) = ((k + 1 : Nat) : Int) + 1 := by omega
      rw [p1, p2, p3]
      generalize ((k + 2 : Nat) : Int) ^ (k + 2) = N at *
      rw [p4]
      generalize ((k + 1 : Nat) : Int) ^ (k + 1) = t at *
      generalize ((k + 1 : Nat) : Int) = m at *
      generalize sg k = s at *
      generalize a ^ (k + 1) = u at *
      generalize b ^ (k + 1) = v at *
      grind
    have hs : sg k * b ≠ 0 := Int.mul_ne_zero (fun c => by have := sg_abs k; rw [c] at this; cases this) hb
    have : sg k * b * D = sg k * b * (b ^ (k + 1) * ((k + 2 : Nat) : Int) ^ (k + 2) + sg (k + 1) * a ^ (k + 2) * ((k + 1 : Nat) : Int) ^ (k + 1)) := by rw [← w1, ← m1, m2, w2, w1]
    exact Int.eq_of_mul_eq_mul_left hs this
/-- with a square part -/
theorem sq_res {g h : Fn} {n m : Nat} {D : Int} (hg : Top g n) (hh : Top h m) (hn : 1 ≤ n) (hd : IsRes (cv (cv g g) h) (n + n + m) (dN (cv (cv g g) h)) D) : D = 0 := by
  have hgh := hg.mul hh
  have e : cv (cv g g) h = cv g (cv g h) := cv_fun_assoc _ _ _
  rw [e, Nat.add_assoc] at hd
  have fd : ∀ {u : Fn} {k : Nat}, Top u k → ∀ i, k ≤ i → dN u i = 0 := fun h => dN_top h.fin
  obtain ⟨a, ha⟩ := isRes_ex (g := dN g) hg hn (fd hg)
  obtain ⟨b, hb⟩ := isRes_ex (g := dN (cv g h)) hgh (by omega) (fd hgh)
  obtain ⟨r, hr⟩ := isRes_ex (g := cv g h) hg hn hgh.fin
  obtain ⟨z, hz⟩ := isRes_ex (g := fun k => 0 * xp 0 k) (L := 0) hg hn fun m hm => Int.zero_mul _
  have e1 := IsRes.same hg hh.fin (fun k => by rw [cv_fun_comm g h]; omega) hz hr
  have e2 := res_const hg hz
  have e3 := IsRes.deriv hg hgh hn (by omega) ha hb hr hd
  obtain ⟨k, rfl⟩ : ∃ k, n = k + 1 := ⟨n - 1, by omega⟩
  rw [e3, e1, e2, Int.pow_succ, Int.mul_zero, Int.mul_zero, Int.zero_mul]
end L2

/-! a list comprehension one name of which is read by a comprehension within it -/
set_option Elab.async false
set_option linter.all false
set_option maxRecDepth 100000
namespace L2
open PySem PySem.Spec PyProof.Rows
theorem relabel_back2 {env : Env} : ∀ {names : List (Str × NameKind)} {x : Str} {kd : NameKind}, kd = .cell ∨ kd = .free →
    (names.map fun (n, k) => if (k == NameKind.free && env.scope.kind == .function && env.kindOf n == some .cell) then (n, NameKind.cell) else (n, k)).lookup x = some kd → names.lookup x = some .free ∨ names.lookup x = some .cell
  | [], _, _, _, h => by simp at h
  | (n, k) :: r, x, kd, hk, h => by
    have ih := @relabel_back2 env r x kd hk
    have h' : List.lookup x ((if (k == NameKind.free && env.scope.kind == .function && env.kindOf n == some .cell) = true then (n, NameKind.cell) else (n, k)) :: (r.map fun (n, k) => if (k == NameKind.free && env.scope.kind == .function && env.kindOf n == some .cell) then (n, NameKind.cell) else (n, k))) = some kd := h
    by_cases hc : (k == NameKind.free && env.scope.kind == .function && env.kindOf n == some .cell) = true
    · rw [if_pos hc] at h'
      have hkf : k = .free := by
        simp only [Bool.and_eq_true, beq_iff_eq] at hc
        exact hc.1.1
      subst hkf
      cases hx : x == n with
      | true => exact .inl (by simp only [List.lookup_cons, hx])
      | false => simp only [List.lookup_cons, hx] at h' ⊢; exact ih h'
    · rw [if_neg hc] at h'
      cases hx : x == n with
      | true =>
        simp only [List.lookup_cons, hx] at h' ⊢
        have e : k = kd := Option.some.inj h'
        subst e
        rcases hk with hk | hk
        · rw [hk]; exact .inr rfl
        · rw [hk]; exact .inl rfl
      | false => simp only [List.lookup_cons, hx] at h' ⊢; exact ih h'
/-- the scope of such a comprehension: own is its one cell -/
structure CompScopeC (X : Cx) (N : List Str) (sl : List (Option Nat)) (scope : Scope) (own : Str) : Prop where
  kind : scope.kind = .function
  cells : ∀ n acc, cellsFrom n scope.names acc = (own, n) :: acc
  push : ∀ h, pushCells h scope.names = h.push { cls := .type "cell", data := .cell none }
  cell1 : ∀ x, scope.names.lookup x = some .cell → x = own
  ownc : scope.names.lookup own = some .cell
  locs : ∀ y ∈ scope.names, y.2 = .local → scope.names.lookup y.1 = some .local
  frees : ∀ y ∈ scope.names, y.2 = .free → X.env.kindOf y.1 = some .cell ∨ X.env.kindOf y.1 = some .free
  len : sl.length = N.length
  out : ∀ (j i : Nat) (x : Str), N[j]? = some x → sl[j]? = some (some i) → X.N[i]? = some x ∧ scope.names.lookup x = some .free
abbrev cmpCxC (X : Cx) (N : List Str) (scope : Scope) (own : Str) (cl : List (Str × Addr)) (C : Addr) (s2 : Shared) (H2 : Hp) (fp : List Addr) : Cx :=
  { X with N := N, s₀ := s2, H₀ := H2, env := compEnvC scope cl C X.env, outer := X.stack, ex := fp, fn := fun x => decide (x = own), pn := [], xe := fun _ _ => False }
theorem newEnv_one {M : Model} {A : Around} {E : Value → Shared → Prop} {s : Shared} {scope : Scope} {own : Str} {globals : Addr} {cl : List (Str × Addr)} {qual : Str} {env : Env} {Q : Env → Shared → Prop}
    (hc : ∀ n acc, cellsFrom n scope.names acc = (own, n) :: acc) (hp : ∀ h, pushCells h scope.names = h.push { cls := .type "cell", data := .cell none })
    (hQ : Q (newEnv scope s.heap.objs.size globals ((own, s.heap.objs.size + 1) :: cl) qual none .none (some env) builtinsNs) { s with heap := (s.heap.push { cls := .type "dict", data := .dict #[] }).push { cls := .type "cell", data := .cell none } }) :
    wpAny M A (newFunctionEnv scope globals cl [] qual none .none (some env)) Q E s := by
  simp only [newFunctionEnv, Option.isSome_some, if_true]
  refine wpAny_bind (wpAny_alloc ?_)
  refine wpAny_bind (wpAny_layCells _ (fun name kind cells => by cases hkc : kind == NameKind.cell <;> simp [hkc]) _ _ _ _ ?_)
  rw [hc, hp]
  rw [show ({ s with heap := s.heap.push { cls := .type "dict", data := .dict #[] } } : Shared).heap.objs.size = s.heap.objs.size + 1 from Heap.size_push ..]
  rw [List.forIn_nil]
  exact wpAny_bind (wpAny_pure (wpAny_pure hQ))
section
variable {X : Cx} {N : List Str} {sl : List (Option Nat)} {scope : Scope} {own : Str}
theorem CompScopeC.clos (S : CompScopeC X N sl scope own) (ok : X.Ok) : closureFor scope X.env = pure (closOf X.env.cells scope.names []) :=
  closureFor_eq fun y hy hf => ok.has y.1 (S.frees y hy hf)
theorem CompScopeC.cell0 (S : CompScopeC X N sl scope own) {x : Str} (hf : scope.names.lookup x = some .free) {c : Addr} (hc : X.env.cells.lookup x = some c) : (closOf X.env.cells scope.names []).lookup x = some c :=
  closOf_has hc _ _ (.inr (PySem.mem_of_lookup hf)) fun d hd => by simp at hd
theorem CompScopeC.cell (S : CompScopeC X N sl scope own) {x : Str} (hf : scope.names.lookup x = some .free) {c c0 : Addr} (hc : X.env.cells.lookup x = some c) : ((own, c0) :: closOf X.env.cells scope.names []).lookup x = some c := by
  have hne : (x == own) = false := by
    refine beq_eq_false_iff_ne.mpr fun z => ?_
    subst z
    rw [S.ownc] at hf; cases hf
  rw [List.lookup_cons, hne]
  exact S.cell0 hf hc
theorem lookC {cl : List (Str × Addr)} {x : Str} {c c0 : Addr} (h : ((own, c0) :: cl).lookup x = some c) : (x = own ∧ c = c0) ∨ (x ≠ own ∧ cl.lookup x = some c) := by
  rw [List.lookup_cons] at h
  cases e : x == own with
  | true => rw [e] at h; exact .inl ⟨by simpa using e, (Option.some.inj h).symm⟩
  | false => rw [e] at h; exact .inr ⟨by simpa using e, h⟩
/-- the block's context is well -/
theorem CompScopeC.ok (S : CompScopeC X N sl scope own) {pins : List (Addr × Obj)} {σ : St} {H2 : Hp} {s2 : Shared} {fp : List Addr} {C c0 : Addr} (I : Inv X pins σ H2 s2) (hf : ∀ b ∈ fp, FpOk X pins H2 b) (hlt : ∀ b ∈ fp, b < s2.heap.objs.size) (hC : s2.heap.objs.size ≤ C) (hc0 : s2.heap.objs.size ≤ c0) :
    (cmpCxC X N scope own ((own, c0) :: closOf X.env.cells scope.names []) C s2 H2 fp).Ok where
  mod := I.ok.mod
  kind := S.kind
  glob := I.ok.glob
  blt := I.ok.blt
  above := hC
  inj := fun x y c h1 h2 => by
    rcases lookC h1 with ⟨e1, e2⟩ | ⟨e1, e2⟩
    · rcases lookC h2 with ⟨e3, e4⟩ | ⟨e3, e4⟩
      · rw [e1, e3]
      · obtain ⟨v, q⟩ := I.cell y c (CompScope.back e4)
        have := q.lt
        rw [e2] at this
        exact absurd (Nat.lt_of_lt_of_le this hc0) (Nat.lt_irrefl _)
    · rcases lookC h2 with ⟨e3, e4⟩ | ⟨e3, e4⟩
      · obtain ⟨v, q⟩ := I.cell x c (CompScope.back e2)
        have := q.lt
        rw [e4] at this
        exact absurd (Nat.lt_of_lt_of_le this hc0) (Nat.lt_irrefl _)
      · exact I.ok.inj x y c (CompScope.back e2) (CompScope.back e4)
  has := fun x hx => by
    have hx' : scope.names.lookup x = some .free ∨ scope.names.lookup x = some .cell := by
      rcases hx with hx | hx
      · exact relabel_back2 (.inl rfl) hx
      · exact relabel_back2 (.inr rfl) hx
    rcases hx' with hx' | hx'
    · obtain ⟨c, hc⟩ := I.ok.has x (S.frees _ (PySem.mem_of_lookup hx') rfl)
      exact ⟨c, S.cell hx' hc⟩
    · have := S.cell1 x hx'
      subst this
      exact ⟨c0, by show List.lookup x ((x, c0) :: _) = _; rw [List.lookup_cons, beq_self_eq_true]⟩
  cab := fun x c h hl => by
    rcases lookC hl with ⟨_, e2⟩ | ⟨e1, _⟩
    · rw [e2]; exact hc0
    · exact absurd (of_decide_eq_true h) e1
  hd := I.ok.hd
  frames := I.ok.frames
  stk := .inl rfl
  exf := fun b hb => ⟨Nat.ne_of_lt (Nat.lt_of_lt_of_le (hlt b hb) hC), fun x c h => by
    rcases lookC h with ⟨_, e2⟩ | ⟨_, e2⟩
    · rw [e2]; exact Nat.ne_of_gt (Nat.lt_of_lt_of_le (hlt b hb) hc0)
    · exact (hf b hb).2.2.2.2.1 x c (CompScope.back e2)⟩
  bs := I.bs
  bsz := Nat.le_trans I.ok.bsz I.sz
  noex := fun b o e hb => by
    rcases (hf b hb).2.2.2.1 with z | z
    · exact I.ok.noex b o e z
    · exact absurd (Nat.lt_of_lt_of_le (Nat.lt_of_lt_of_le (Heap.lt_size e) I.ok.bsz) z) (Nat.lt_irrefl _)
  exfs := fun b hb z => by
    rcases List.mem_cons.mp (I.stkSub b z) with e | e
    · exact (hf b hb).2.1 e
    · exact (hf b hb).2.2.1 e
  funs := I.stack
  frf := I.stkFree

/-- the names read from around, at any later state of the block -/
theorem CompScopeC.again (S : CompScopeC X N sl scope own) {pins : List (Addr × Obj)} {σ : St} {H2 : Hp} {s2 : Shared} {fp : List Addr} {C c0 : Addr} (I : Inv X pins σ H2 s2) (hf : ∀ b ∈ fp, FpOk X pins H2 b)
    {pins' : List (Addr × Obj)} {σ' : St} {H' : Hp} {s' : Shared} (J : Inv (cmpCxC X N scope own ((own, c0) :: closOf X.env.cells scope.names []) C s2 H2 fp) pins' σ' H' s') :
    Inv (cmpCxC X N scope own ((own, c0) :: closOf X.env.cells scope.names []) C s2 H2 fp) pins' (innerSt sl σ) H' s' := by
  obtain ⟨m, hn, _⟩ := J.loc
  refine ⟨J.ok, J.os, J.bare, J.base, ⟨m, hn, fun j x v e1 e2 _ => ?_⟩, J.cell, J.free, J.freeC, J.pin, J.hok, ?_⟩
  · obtain ⟨i, h1, h2⟩ := innerSt_get e2
    obtain ⟨hN, hfree⟩ := S.out j i x e1 h1
    have hk := S.frees _ (PySem.mem_of_lookup hfree) rfl
    obtain ⟨m0, hn0, hl0⟩ := I.loc
    have hv : Vis X.env.scope x := by
      rcases hk with hk | hk
      · exact .inr (.inl hk)
      · exact .inr (.inr hk)
    obtain ⟨u, r, l⟩ := hl0 i x v hN h2 hv
    refine ⟨u, r, .inr ⟨?_, ?_⟩⟩
    · rcases lookup_relabel_free (env := X.env) hfree with z | z
      · exact .inr z
      · exact .inl z
    · rcases l with ⟨z, _⟩ | ⟨_, c, hc, q⟩
      · rcases hk with hk | hk
        · have hk' : X.env.kindOf x = some .cell := hk
          rw [hk'] at z; cases z
        · have hk' : X.env.kindOf x = some .free := hk
          rw [hk'] at z; cases z
      · refine ⟨c, S.cell hfree hc, ?_⟩
        obtain ⟨o, ho, hd⟩ := q
        have ncfp : c ∉ fp := fun z => (hf c z).2.2.2.2.1 x c hc rfl
        obtain ⟨sl', e⟩ := J.base.any ho (I.freeC x c hc) ncfp
        exact ⟨_, e, hd⟩
  · unfold innerSt
    rw [List.length_map]
    exact S.len

theorem comp_runC {elt tg iter : Expr} {ifs : List Expr} {pos pos2 : Pos} {wi : TI} {g : TG} {tif : TT} {te : TE} {use : Option (Value → Sem Unit)} {QQ : Value → Shared → Prop} (S : CompScopeC X N sl scope own) (hcalm : X.calm = true) (hi : PI X tg iter wi)
    (hg : ∀ cl C s2 H2 fp, PG (cmpCxC X N scope own cl C s2 H2 fp) tg g) (hif : ∀ cl C s2 H2 fp, PIf (cmpCxC X N scope own cl C s2 H2 fp) ifs tif) (he : ∀ cl C s2 H2 fp, PE (cmpCxC X N scope own cl C s2 H2 fp) elt te)
    (hs : ∀ x, foldedSetIterable iter X.env x = pure x) {pins : List (Addr × Obj)} {s : Shared} {σ : St} {H : Hp} {Q : VK} (I : Inv X pins σ H s) (h : tComp wi sl g tif te σ H Q)
    (hend : ∀ (D C : Addr) (H3 : Hp) (s4 : Shared) (fl : Flow), Inv X pins σ H3 s4 → H3 C = none → C ≠ X.env.locals → C ∉ X.fs → X.s₀.heap.objs.size ≤ C → (∀ x c, X.env.cells.lookup x = some c → c ≠ C) → (∀ p ∈ X.pn ++ pins, p.1 ≠ C) → (∃ m, s4.heap.Ns C m) → Q (.ref D) H3 →
      compPost (model X.prog X.w) X.A X.xe use QQ (.ref D) C (.ok fl) s4) :
    wpAny (model X.prog X.w) X.A (comprehension (.ListComp elt [⟨tg, iter, ifs, 0⟩] scope pos) scope X.env pos2 (newList []) false (eval iter X.env) use) QQ X.xe s := by
  refine wpAny_comprehension_free (use := use) rfl hs (S.clos I.ok) S.kind S.locs (wpAny_mono (hi pins s σ H _ I h) (fun xv s1 h1 => wpAny_mono h1 (fun itv s2 h2 => ?_) fun _ _ e => e) fun _ _ e => e)
  obtain ⟨it, fp, tn, J, H2, rfl, I2, T, st2, f2, hR⟩ := h2
  obtain ⟨W, ⟨m0, w0⟩, turn⟩ := hR _ I2.fresh
  refine wpAny_newObj_type (newEnv_one S.cells S.push ?_)
  dsimp only
  generalize hP : s2.heap.push { cls := .type "list", dict := none, data := .seq ([] : List Value).toArray } = P2
  generalize hh1 : (P2.push { cls := .type "dict", data := .dict #[] }).push { cls := .type "cell", data := .cell none } = h₁
  have hC : P2.objs.size = s2.heap.objs.size + 1 := by rw [← hP, Heap.size_push]
  have hDC : s2.heap.objs.size ≠ P2.objs.size := by rw [hC]; exact Nat.ne_of_lt (Nat.lt_succ_self _)
  have hCle : s2.heap.objs.size ≤ P2.objs.size := by rw [hC]; exact Nat.le_succ _
  have hcle : s2.heap.objs.size ≤ P2.objs.size + 1 := Nat.le_succ_of_le hCle
  have hDc : s2.heap.objs.size ≠ P2.objs.size + 1 := by rw [hC]; exact Nat.ne_of_lt (Nat.lt_succ_of_lt (Nat.lt_succ_self _))
  have hns₁ : h₁.Ns P2.objs.size (fun _ => none) := hh1 ▸ (Heap.Ns.new P2 (.type "dict")).keeps (fun b o e => Heap.get?_push_of_some _ e)
  have hlt : ∀ b ∈ fp, b < s2.heap.objs.size := fun b hb => let ⟨o, e, _⟩ := T.obj 0 _ st2 b hb; Heap.lt_size e
  have old : ∀ b o, s2.heap.get? b = some o → h₁.get? b = some o := fun b o e => hh1 ▸ Heap.get?_push_of_some _ (Heap.get?_push_of_some _ (hP ▸ Heap.get?_push_of_some _ e))
  have hD1 : h₁.get? s2.heap.objs.size = some { cls := .type "list", dict := none, data := .seq ([] : List Value).toArray } := hh1 ▸ Heap.get?_push_of_some _ (Heap.get?_push_of_some _ (hP ▸ Heap.get?_push_size _ rfl))
  have hc1 : h₁.IsCell (P2.objs.size + 1) none := by
    have : (P2.push { cls := .type "dict", data := .dict #[] }).objs.size = P2.objs.size + 1 := Heap.size_push ..
    rw [← this, ← hh1]
    exact ⟨_, Heap.get?_push_size _ rfl, rfl⟩
  have hok := S.ok (C := P2.objs.size) (c0 := P2.objs.size + 1) I2 f2 hlt hCle hcle
  have hokH : HOk X.prog X.w (upd H2 s2.heap.objs.size (.lst [])) h₁ := I2.hok.laid old (Nat.le_refl _) ⟨Nat.zero_le _, [], _, .nil, hD1⟩
  have hUn : Un (frs X.stack) fp H2 (upd H2 s2.heap.objs.size (.lst [])) s2.heap h₁ := Un.laid old (Nat.le_refl _) I2.fresh
  have hcellK : ∀ x c, ((own, P2.objs.size + 1) :: closOf X.env.cells scope.names []).lookup x = some c → ∃ v, h₁.IsCell c v := fun x c hc => by
    rcases lookC hc with ⟨_, e2⟩ | ⟨_, e2⟩
    · rw [e2]; exact ⟨_, hc1⟩
    · obtain ⟨v, o, ho, hd⟩ := I2.cell x c (CompScope.back e2)
      exact ⟨v, o, old c o ho, hd⟩
  have hfreeK : ∀ x c, ((own, P2.objs.size + 1) :: closOf X.env.cells scope.names []).lookup x = some c → upd H2 s2.heap.objs.size (.lst []) c = none := fun x c hc => by
    rcases lookC hc with ⟨_, e2⟩ | ⟨_, e2⟩
    · rw [e2, upd_ne (Ne.symm hDc)]
      exact I2.hok.fresh hcle
    · obtain ⟨v, q⟩ := I2.cell x c (CompScope.back e2)
      rw [upd_ne (Nat.ne_of_lt q.lt)]
      exact I2.freeC x c (CompScope.back e2)
  have hfreeC : upd H2 s2.heap.objs.size (.lst []) P2.objs.size = none := by
    rw [upd_ne (Ne.symm hDC)]
    exact I2.hok.fresh hCle
  have start : ∀ tk : Nat, Inv (cmpCxC X N scope own ((own, P2.objs.size + 1) :: closOf X.env.cells scope.names []) P2.objs.size s2 H2 fp) [] (innerSt sl σ) (upd H2 s2.heap.objs.size (.lst [])) { s2 with heap := h₁, toks := tk } := fun tk => by
    have J0 : Inv (cmpCxC X N scope own ((own, P2.objs.size + 1) :: closOf X.env.cells scope.names []) P2.objs.size s2 H2 fp) [] (List.replicate N.length none) (upd H2 s2.heap.objs.size (.lst [])) { s2 with heap := h₁, toks := tk } :=
      ⟨hok, rfl, I2.bare, hUn, ⟨_, hns₁, fun i x v e1 e2 _ => by
        rw [List.getElem?_replicate] at e2
        split at e2 <;> cases e2⟩, hcellK, hfreeC, hfreeK, fun p hp => absurd (show p ∈ ([] : List (Addr × Obj)) from hp) (by simp), hokH, by simp⟩
    exact S.again I2 f2 J0
  have stK : tn 0 h₁ := T.keep _ _ _ st2 fun b hb o e => old b o e
  have fr1 : ∀ b ∈ fp, upd H2 s2.heap.objs.size (.lst []) b = none := fun b hb => by
    rw [upd_ne (Nat.ne_of_lt (hlt b hb))]
    exact (f2 b hb).1
  -- what stays true of the iterator's objects
  have stat : ∀ {H' : Hp}, (∀ b ∈ fp, H' b = none) → ∀ b ∈ fp, FpOk (cmpCxC X N scope own ((own, P2.objs.size + 1) :: closOf X.env.cells scope.names []) P2.objs.size s2 H2 fp) [] H' b := fun hn b hb =>
    ⟨hn b hb, Nat.ne_of_lt (Nat.lt_of_lt_of_le (hlt b hb) hCle), fun z => hok.exfs b hb z, .inl hb, fun x c hc => (hok.exf b hb).2 x c hc, fun p hp => absurd (show p ∈ ([] : List (Addr × Obj)) from hp) (by simp)⟩
  have loop : ∀ tk : Nat, codeAny (model X.prog X.w) X.A (.compLoop (.ListComp elt [⟨tg, iter, ifs, 0⟩] scope pos) 0 (.ref it) (.ref s2.heap.objs.size) (compEnvC scope ((own, P2.objs.size + 1) :: closOf X.env.cells scope.names []) P2.objs.size X.env))
      (compPost (model X.prog X.w) X.A X.xe use QQ (.ref s2.heap.objs.size) P2.objs.size) { s2 with heap := h₁, toks := tk } := fun tk => by
    refine codeAny_loop rfl (fun n s' => ∃ i H', Inv (cmpCxC X N scope own ((own, P2.objs.size + 1) :: closOf X.env.cells scope.names []) P2.objs.size s2 H2 fp) [] (innerSt sl σ) H' s' ∧ tn i s'.heap ∧ (∀ b ∈ fp, H' b = none) ∧ W i n H') ?_ m0 ⟨0, _, start tk, stK, fr1, w0⟩
    rintro n s3 ⟨i, H3, I3, st3, fr3, w3⟩
    show wpAny _ X.A ((compTurn (.ListComp elt [⟨tg, iter, ifs, 0⟩] scope pos) 0 (.ref it) (.ref s2.heap.objs.size) (compEnvC scope ((own, P2.objs.size + 1) :: closOf X.env.cells scope.names []) P2.objs.size X.env)).onRaise (fun x => do noteFrame x (compEnvC scope ((own, P2.objs.size + 1) :: closOf X.env.cells scope.names []) P2.objs.size X.env); theTreesLotGoes x)) _ _ s3
    refine wpAny_noted ?_
    rw [compTurn_list]
    rcases turn i n H3 w3 with ⟨stop, qn⟩ | ⟨go, step⟩
    · refine wpAny_bind (wpAny_standAt (wpAny_bind (wpAny_mono (T.done (cmpCxC X N scope own ((own, P2.objs.size + 1) :: closOf X.env.cells scope.names []) P2.objs.size s2 H2 fp) rfl rfl rfl hcalm i [] s3 _ H3 _ I3 (stat fr3) st3 stop) (fun r s4 ⟨hr, I4⟩ => ?_) fun _ _ z => z)))
      subst hr
      refine wpAny_pure ?_
      obtain ⟨m4, hn4, _⟩ := I4.loc
      have u0 : Un (frs X.stack) fp H2 H3 s2.heap s4.heap := I4.base
      have hI : Inv X pins σ H3 s4 := I2.call' (s' := s4) (ch := fp) I4.os u0 I4.hok I4.bare fun b hb => ⟨(f2 b hb).2.2.2.1, (f2 b hb).2.1, (f2 b hb).2.2.2.2.1, (f2 b hb).2.2.2.2.2⟩
      have hC' := I2.fpOk (H' := H3) hCle I4.free
      exact hend _ _ H3 s4 _ hI I4.free hC'.2.1 hC'.2.2.1 (Nat.le_trans I2.sz hCle) hC'.2.2.2.2.1 hC'.2.2.2.2.2 ⟨m4, hn4⟩ qn
    · refine wpAny_bind (wpAny_standAt (wpAny_bind (wpAny_mono (T.item (cmpCxC X N scope own ((own, P2.objs.size + 1) :: closOf X.env.cells scope.names []) P2.objs.size s2 H2 fp) rfl rfl rfl hcalm i [] s3 _ H3 (fun _ _ => False) I3 (stat fr3) st3 go) (fun r s4 ⟨u, hr, h4⟩ => ?_) fun _ _ z => z.elim)))
      subst hr
      refine wpAny_bind (wpAny_mono h4 (fun _ s5 ⟨x, H5, I5, r5, y5, st5, fr5⟩ => ?_) fun _ _ z => z.elim)
      have I5' := I5.pinned (stat fr5) (T.obj _ _ st5)
      refine wpAny_bind (wpAny_mono (hg _ _ _ _ _ _ s5 _ H5 x u _ I5' r5 (step x H5 y5)) (fun _ s6 ⟨σ6, H6, I6, q6⟩ => ?_) fun _ _ z => (show False from z).elim)
      have again : ∀ {σ7 : St} {H7 : Hp} {s7 : Shared}, Inv (cmpCxC X N scope own ((own, P2.objs.size + 1) :: closOf X.env.cells scope.names []) P2.objs.size s2 H2 fp) ([] ++ pinsAt fp s5.heap) σ7 H7 s7 → (∃ m', m' < n ∧ W (i + 1) m' H7) →
          ∃ m', m' < n ∧ ∃ i H', Inv (cmpCxC X N scope own ((own, P2.objs.size + 1) :: closOf X.env.cells scope.names []) P2.objs.size s2 H2 fp) [] (innerSt sl σ) H' s7 ∧ tn i s7.heap ∧ (∀ b ∈ fp, H' b = none) ∧ W i m' H' := fun {σ7 H7 s7} I7 ⟨m', hm, w7⟩ => by
        refine ⟨m', hm, i + 1, H7, S.again I2 f2 I7.unpinned, T.keep _ _ _ st5 fun b hb o e => (I7.pin (b, o) (List.mem_append_right _ (List.mem_append_right _ (mem_pinsAt hb e)))).1, fun b hb => ?_, w7⟩
        obtain ⟨o, e, d⟩ := T.obj _ _ st5 b hb
        exact (I7.pin (b, o) (List.mem_append_right _ (List.mem_append_right _ (mem_pinsAt hb e)))).2.1
      refine wpAny_bind (wpAny_mono (hif _ _ _ _ _ _ s6 σ6 H6 _ I6 q6) (fun ok s7 ⟨H7, I7, q7⟩ => ?_) fun _ _ z => (show False from z).elim)
      cases ok with
      | false =>
        exact wpAny_pure ⟨rfl, again I7 (by simpa using q7)⟩
      | true =>
        rw [if_pos rfl] at q7
        refine wpAny_bind (wpAny_bind (wpAny_mono ((he _ _ _ _ _).out _ s7 σ6 H7 _ I7 q7) (fun y s8 ⟨yv, H8, I8, r8, ys, hys, hlen, w8⟩ => ?_) fun _ _ z => (show False from z).elim))
        refine wpAny_bind (wpAny_mono (mt_append (X := cmpCxC X N scope own ((own, P2.objs.size + 1) :: closOf X.env.cells scope.names []) P2.objs.size s2 H2 fp) _ s8 σ6 H8 (.ref s2.heap.objs.size) [yv] (.ref s2.heap.objs.size) [y]
          (fun v H9 => v = .non ∧ ∃ m', m' < n ∧ W (i + 1) m' H9) I8 rfl (.cons r8 .nil) ⟨_, ys, yv, rfl, rfl, hys, hlen, rfl, w8⟩) (fun r s9 ⟨v9, H9, I9, r9, e9, w9⟩ => ?_) fun _ _ z => (show False from z).elim)
        exact wpAny_pure (wpAny_pure ⟨rfl, again I9 w9⟩)
  exact codeAny_compStart_list (loop _) (T.self _ 0 _ _ _ stK (loop _))
theorem pe_compC {elt tg iter : Expr} {ifs : List Expr} {pos : Pos} {wi : TI} {g : TG} {tif : TT} {te : TE} (S : CompScopeC X N sl scope own) (hcalm : X.calm = true) (hi : PI X tg iter wi)
    (hg : ∀ cl C s2 H2 fp, PG (cmpCxC X N scope own cl C s2 H2 fp) tg g) (hif : ∀ cl C s2 H2 fp, PIf (cmpCxC X N scope own cl C s2 H2 fp) ifs tif) (he : ∀ cl C s2 H2 fp, PE (cmpCxC X N scope own cl C s2 H2 fp) elt te)
    (hs : ∀ x, foldedSetIterable iter X.env x = pure x := by intro _; rfl) :
    PE X (.ListComp elt [⟨tg, iter, ifs, 0⟩] scope pos) (tComp wi sl g tif te) := by
  refine ⟨?_⟩
  intro pins s σ H Q I h
  rw [eval_ListComp]
  refine comp_runC S hcalm hi hg hif he hs I h fun D C H3 s4 fl I4 n1 n2 n3 n4 n5 n6 ⟨m, hn⟩ q => ?_
  exact ⟨m, hn, fun h' hsb => ⟨.ref D, H3, I4.turned (t' := s4.toks) (fun b o hb e => (hsb.2 b hb).trans e) n1 n2 (.inr n4) n5 n6, rfl, q⟩⟩

end
/-- the scope of a comprehension's block, as that within it sees it -/
def relabelS (scope osc : Scope) : Scope :=
  { scope with names := scope.names.map fun (n, k) => if (k == .free && osc.kind == .function && osc.names.lookup n == some .cell) then (n, .cell) else (n, k) }
theorem one_cell {own : Str} : ∀ {names : List (Str × NameKind)}, (names.filter fun y => decide (y.2 = .cell)) = [(own, .cell)] → (∀ n acc, cellsFrom n names acc = (own, n) :: acc) ∧ ∀ h, pushCells h names = h.push { cls := .type "cell", data := .cell none }
  | [], h => by simp at h
  | (x, k) :: r, h => by
    by_cases c : k = .cell
    · subst c
      rw [List.filter_cons_of_pos (by simp)] at h
      have h1 : x = own := congrArg Prod.fst (List.cons.inj h).1
      have h2 : (r.filter fun y => decide (y.2 = .cell)) = [] := (List.cons.inj h).2
      have none : ∀ (l : List (Str × NameKind)), (l.filter fun y => decide (y.2 = .cell)) = [] → (∀ n acc, cellsFrom n l acc = acc) ∧ ∀ h, pushCells h l = h := by
        intro l
        induction l with
        | nil => intro _; exact ⟨fun _ _ => rfl, fun _ => rfl⟩
        | cons y l ih =>
          intro hl
          obtain ⟨y1, y2⟩ := y
          have hy : y2 ≠ .cell := fun z => by
            rw [List.filter_cons_of_pos (by simpa using z)] at hl
            cases hl
          rw [List.filter_cons_of_neg (by simpa using hy)] at hl
          obtain ⟨i1, i2⟩ := ih hl
          have hb : (y2 == NameKind.cell) = false := by simpa using hy
          refine ⟨fun n acc => ?_, fun h => ?_⟩
          · unfold cellsFrom; rw [hb]; exact i1 n acc
          · unfold pushCells; rw [hb]; exact i2 h
      obtain ⟨n1, n2⟩ := none r h2
      subst h1
      refine ⟨fun n acc => ?_, fun h => ?_⟩
      · unfold cellsFrom; exact n1 _ _
      · unfold pushCells; exact n2 _
    · rw [List.filter_cons_of_neg (by simpa using c)] at h
      obtain ⟨i1, i2⟩ := one_cell h
      have hb : (k == NameKind.cell) = false := by simpa using c
      refine ⟨fun n acc => ?_, fun h => ?_⟩
      · unfold cellsFrom; rw [hb]; exact i1 n acc
      · unfold pushCells; rw [hb]; exact i2 h
def compOkC (osc : Scope) (ON N : List Str) (sl : List (Option Nat)) (scope : Scope) (own : Str) : Bool :=
  decide (scope.kind = .function) && decide ((scope.names.filter fun y => decide (y.2 = .cell)) = [(own, .cell)]) && decide (scope.names.lookup own = some .cell) && scope.names.all (fun y => decide (y.2 = .local → scope.names.lookup y.1 = some .local)) &&
  scope.names.all (fun y => decide (y.2 = .free → osc.names.lookup y.1 = some .cell ∨ osc.names.lookup y.1 = some .free)) && decide (sl.length = N.length) &&
  (List.range N.length).all fun j => match N[j]?, sl[j]? with
    | some x, some (some i) => decide (ON[i]? = some x ∧ scope.names.lookup x = some .free)
    | _, _ => true
theorem compScopeC_mk {X : Cx} {N : List Str} {sl : List (Option Nat)} {scope : Scope} (own : Str) (osc : Scope) (ON : List Str) (h1 : X.env.scope = osc) (h2 : X.N = ON) (hb : compOkC osc ON N sl scope own = true) : CompScopeC X N sl scope own := by
  unfold compOkC at hb
  simp only [Bool.and_eq_true, decide_eq_true_eq, List.all_eq_true] at hb
  obtain ⟨⟨⟨⟨⟨⟨b1, b2⟩, b2'⟩, b3⟩, b4⟩, b5⟩, b6⟩ := hb
  obtain ⟨o1, o2⟩ := one_cell b2
  refine ⟨b1, o1, o2, fun x hx => ?_, b2', b3, fun y hy hf => ?_, b5, fun j i x e1 e2 => ?_⟩
  · have : (x, NameKind.cell) ∈ (scope.names.filter fun y => decide (y.2 = .cell)) := List.mem_filter.mpr ⟨PySem.mem_of_lookup hx, by simp⟩
    rw [b2] at this
    exact congrArg Prod.fst (List.mem_singleton.mp this)
  · have := b4 y hy hf
    show X.env.scope.names.lookup y.1 = _ ∨ X.env.scope.names.lookup y.1 = _
    rw [h1]
    exact this
  · have hj : j < N.length := (List.getElem?_eq_some_iff.mp e1).1
    have := b6 j (List.mem_range.mpr hj)
    rw [e1, e2] at this
    have q := of_decide_eq_true this
    rw [h2]
    exact q
def stComp : Stmt → Scope
  | .Return (some (.ListComp _ _ sc _)) _ => sc
  | .Assign _ (.ListComp _ _ sc _) _ => sc
  | _ => default
end L2

/-! enumerate(.., start=..) and range with a step -/
set_option Elab.async false
set_option linter.all false
set_option maxRecDepth 100000
set_option maxHeartbeats 1000000
namespace L2
open PySem PySem.Spec PyProof.Rows
open AutoSeq1 (wpAny_loadPart')
section
variable {prog : Program} {w : World} {A : Around} {E : Value → Shared → Prop} {s : Shared}
theorem callType_kw {T newId initId : String} {Bn Bi : Builtin} {args : List Value} {kw : List (Str × Value)} {S : PySem.Spec} {Q Q₁ : Value → Shared → Prop} (ft : TypeCalled T newId initId)
    (hct : checkTypeCall T ⟨args, kw⟩ = pure ()) (hcn : checkBuiltinCall newId ⟨.type T :: args, kw⟩ = pure ())
    (entryN : entryFor table newId = some Bn) (entryI : entryFor table initId = some Bi) (g : Meets (Bn ⟨.type T :: args, kw⟩) S)
    (h : S A.in1 (wants Q₁ E) s)
    (hnext : ∀ obj s₁, Q₁ obj s₁ → s₁.TypeIs obj T ∧ argsOk initId ⟨obj :: args, kw⟩ ∧ ∃ Si, Meets (Bi ⟨obj :: args, kw⟩) Si ∧ Si A.in1 (wants (fun r s₂ => r = .none ∧ Q obj s₂) E) s₁) :
    wpAny (model prog w) A (call (.type T) args kw) Q E s := by
  obtain ⟨c, tl, hmro⟩ := ft.mro
  have hmade := ft.made
  have hsub := ft.sub
  refine wpAny_call (codeAny_of_tree ?_)
  show wpAny _ _ (callAny (.type T) _) _ _ _
  refine wpAny_pure ⟨Code.quiet_builtin _ (by decide +kernel), codeAny_builtin PySem.F.entry_type_call ?_⟩
  rw [Around.under_plain (weight_type_call_type T args kw) (units_type_call_type T args kw)]
  have h1 := ft.notType
  have h2 := ft.canCreate
  repeat (any_goals (first | assumption | wp_step))
  refine codeAny_mono (codeAny_call_builtin ft.plain entryN (wpAny_of_eq hcn (g prog w A.in1 _ s h))) fun r s₁ hr => ?_
  cases r with
  | error e => exact hr
  | ok fl =>
    cases fl with
    | ret obj =>
      obtain ⟨hT, hok, Si, gi, hsi⟩ := hnext _ _ hr
      have hli := ft.init.lookup
      have hbi := ft.init.bind obj
      repeat (any_goals (first | assumption | wp_step))
      refine codeAny_mono (codeAny_call_builtin ft.init.plain entryI (ft.init.check _ _ _ _ _ _ _ _ hT hok (gi prog w A.in1 _ s₁ hsi))) fun r₂ s₂ hr₂ => ?_
      cases r₂ with
      | error e => exact hr₂
      | ok fl₂ =>
        cases fl₂ with
        | ret r =>
          obtain ⟨rfl, hq⟩ := hr₂
          repeat (any_goals (first | assumption | wp_step))
        | _ => exact hr₂.elim
    | _ => exact hr.elim
theorem object_init_kw {T newId : String} {self : Value} {rest : List Value} {kw : List (Str × Value)} (hl : typeLookup (.type T) "__init__" = pure (some (.builtin "object.__init__")))
    (hm : Bind.madeBy (.type T) = pure (some newId)) (hne : (some newId != some "object.__new__") = true) (hr : rest ≠ []) :
    Meets (Builtin.«object.__init__» ⟨self :: rest, kw⟩) (fun _ R s => s.TypeIs self T ∧ R (.ok (.ret .none)) s) := by
  refine Meets.of_wp fun prog w A R s hs => ?_
  obtain ⟨hT, hq⟩ := hs
  cases rest with
  | nil => exact absurd rfl hr
  | cons a rest =>
    repeat (any_goals (first | assumption | wp_step))
    exact ⟨_, rfl, hq⟩
theorem typeCall_enumS (a b : Value) : checkTypeCall "enumerate" ⟨[a], [(Str.ofString "start", b)]⟩ = pure () := by kernel_rfl
theorem newCall_enumS (a b : Value) : checkBuiltinCall "enumerate.__new__" ⟨[.type "enumerate", a], [(Str.ofString "start", b)]⟩ = pure () := by kernel_rfl
theorem init_enumS (obj a b : Value) : argsOk "object.__init__" ⟨[obj, a], [(Str.ofString "start", b)]⟩ := by
  unfold argsOk; rw [signature?_of (id := "object.__init__") (n := ['_', '_', 't', 'i', 'n', 'i', '_', '_']) (o := ['t', 'c', 'e', 'j', 'b', 'o']) (by kernel_rfl) PySem.F.owner_object]; kernel_rfl
theorem meets_enumS (l : Addr) (items : Array Value) (n : Nat) (dct : Option Addr) (sl : Array (Option Value)) (st : Int) (t : Tok) (hf : Builtin.SmallTypes.fitsIndex st = true) :
    Meets (Builtin.«enumerate.__new__» ⟨[.type "enumerate", .ref l], [(Str.ofString "start", .int st t)]⟩) (fun _ R s => s.heap.get? l = some { cls := .type "list", dict := dct, data := .seq items n, slots := sl } ∧
      R (.ok (.ret (.ref (s.heap.push { cls := .type "list_iterator", data := .fields #[.ref l, .int 0 0] }).objs.size)))
        { s with heap := (s.heap.push { cls := .type "list_iterator", data := .fields #[.ref l, .int 0 0] }).push { cls := .type "enumerate", data := .fields #[.none, .bool false, .ref s.heap.objs.size, rawInt st, .none, .none] } }) :=
  .of_wp fun prog w A R s h => by
    obtain ⟨hp, g, d, tk, os⟩ := s; obtain ⟨hl, h⟩ := h
    have hsub := sub_enumerate
    have hL : Heap.IsList (Shared.heap ⟨hp, g, d, tk, os⟩) l items := ⟨_, hl, rfl, n, rfl⟩
    have hf' : ¬ (!Builtin.SmallTypes.fitsIndex st) = true := by rw [hf]; decide
    wp_walk using wpAny_loadPart' hl
    refine wpAny_stack_any fun stk => wpAny_pure ?_
    split
    · rename_i c _ _ _ _ _
      cases (c == Value.type "enumerate")
      · wp_walk using wpAny_loadPart' hl, wpAny_pyIter_list hL
        exact ⟨_, rfl, h⟩
      · wp_walk using wpAny_loadPart' hl, wpAny_pyIter_list hL
        exact ⟨_, rfl, h⟩
    · wp_walk using wpAny_loadPart' hl, wpAny_pyIter_list hL
      exact ⟨_, rfl, h⟩
theorem call_enumS {l : Addr} {items : Array Value} {st : Int} {t : Tok} {Q : Value → Shared → Prop} (hL : s.heap.IsList l items) (hf : Builtin.SmallTypes.fitsIndex st = true)
    (h : ∀ h', IsEnum h' (s.heap.objs.size + 1) s.heap.objs.size st .none → h'.IsListIter s.heap.objs.size l 0 → h'.objs.size = s.heap.objs.size + 2 →
      (∀ b o, s.heap.get? b = some o → h'.get? b = some o) → Q (.ref (s.heap.objs.size + 1)) { s with heap := h' }) :
    wpAny (model prog w) A (call (.type "enumerate") [.ref l] [(Str.ofString "start", .int st t)]) Q E s := by
  obtain ⟨⟨c, dct, dt, sl⟩, hl, hc, n, hd⟩ := hL
  replace hc : c = .type "list" := hc
  replace hd : dt = .seq items n := hd
  subst hc hd
  refine callType_kw (Q₁ := fun obj s₁ => s₁.TypeIs obj "enumerate" ∧ Q obj s₁) PySem.F.called_enumerate (typeCall_enumS _ _) (newCall_enumS _ _) PySem.F.entry_enumerate_new PySem.F.entry_object_init (meets_enumS l items n dct sl st t hf) ⟨hl, ?_⟩ fun obj s₁ hq => ⟨hq.1, init_enumS _ _ _, _, object_init_kw PySem.F.called_enumerate.init.lookup PySem.F.called_enumerate.made (by decide) (by simp), hq.1, rfl, hq.2⟩
  have hz : (s.heap.push { cls := .type "list_iterator", data := .fields #[.ref l, .int 0 0] }).objs.size = s.heap.objs.size + 1 := Heap.size_push ..
  show _ ∧ _
  rw [hz]
  have he : IsEnum ((s.heap.push { cls := .type "list_iterator", data := .fields #[.ref l, .int 0 0] }).push
      { cls := .type "enumerate", data := .fields #[.none, .bool false, .ref s.heap.objs.size, rawInt st, .none, .none] }) (s.heap.objs.size + 1) s.heap.objs.size st .none := by
    have := Heap.get?_push_size (s.heap.push { cls := .type "list_iterator", data := .fields #[.ref l, .int 0 0] })
      (o := { cls := .type "enumerate", data := .fields #[.none, .bool false, .ref s.heap.objs.size, rawInt st, .none, .none] }) rfl
    rw [hz] at this; exact this
  exact ⟨⟨_, he, rfl⟩, h _ he ⟨_, Heap.get?_push_of_some _ (Heap.get?_push_size _ rfl), rfl, rfl⟩ (by rw [Heap.size_push, hz]) fun b o x => Heap.get?_push_of_some _ (Heap.get?_push_of_some _ x)⟩
end
section
variable {M : Model} {A : Around} {E : Value → Shared → Prop} {s : Shared} {env : Env}
theorem callWith_type_kw {pos : Pos} {T : String} {first : List Value} {args : List (Bool × Sem Value)} {keywords : List (Option Str × Sem Value)} {Q : Value → Shared → Prop}
    (hplain : args.any (·.1) = false) (hkw : keywords.any (·.1.isNone) = false)
    (h : wpAny M A (evalArgs (.type T) true args keywords) (fun a s₁ => wpAny M A (call (.type T) (first ++ a.pos) a.kw) Q E s₁) E s) :
    wpAny M A (callWith pos (.type T) first args keywords) Q E s := by
  unfold callWith
  refine wpAny_bind (wpAny_holding (wpAny_mono h (fun a s₁ h₁ => wpAny_bind (wpAny_standAt ?_)) fun _ _ x => x))
  simp only [hplain, hkw, Bool.or_false]
  refine wpAny_bind (wpAny_pure ?_)
  exact wpAny_bind (wpAny_mono h₁ (fun r s₂ hr => wpAny_bind (wpAny_holding (wpAny_point (wpAny_pure hr)))) fun _ _ x => x)
end
theorem fits_small {i : Int} (h0 : 0 ≤ i) (h1 : i < 2 ^ 62) : Builtin.SmallTypes.fitsIndex i = true := by
  unfold Builtin.SmallTypes.fitsIndex
  simp
  omega
section
variable {X : Cx} {elts : List Expr} {k : Nat} {tpos : Pos}
def iEnumS (K : PySem.W.Frag) (ta tk : TA) : TI := fun σ H R => ta σ H fun vs H1 => tk σ H1 fun ws H2 => ∃ a, ∃ n : Nat, vs = [.ref a] ∧ ws = [.int (n : Int)] ∧ n < 2 ^ 62 ∧ (∃ xs, SqL K H2 a xs) ∧ R (Ite K a n) H2
theorem pi_enumS {l e : Expr} {ta tk : TA} {p pos kp : Pos} (hg : Gl X "enumerate") (hm : X.mg "enumerate" = none) (ha : PA X [l] ta) (hk : PK X [⟨some (Str.ofString "start"), e, kp⟩] tk)
    (he : backTo pos (starEach [l] X.env) = (false, eval l X.env) :: backTo pos (starEach [] X.env) := by rfl)
    (hplain : (backTo pos (starEach [l] X.env)).any (·.1) = false := by rfl)
    (hall : (backToKw pos (keywordEach [⟨some (Str.ofString "start"), e, kp⟩] X.env)).all (·.1.isSome) = true := by rfl)
    (hkw : (backToKw pos (keywordEach [⟨some (Str.ofString "start"), e, kp⟩] X.env)).any (·.1.isNone) = false := by rfl) :
    PI X (.Tuple elts k tpos) (.Call (.Name "enumerate" p) [l] [⟨some (Str.ofString "start"), e, kp⟩] pos) (iEnumS X.K ta tk) := by
  intro pins s σ H R I h
  refine wpAny_Call_Name_kw (ld_blt I hg hm boot_enumerate ?_)
  refine callWith_type_kw hplain hkw ?_
  have hb := ha pos pins s σ H _ I h
  rw [he] at hb ⊢
  refine evalArgs_kwB hall (thn hb fun us s1 ⟨vs, H1, I1, r1, q1⟩ => ?_)
  refine thn (hk pos pins s1 σ H1 _ I1 q1) fun ws s2 ⟨ys, H2, I2, r2, q2⟩ => ?_
  obtain ⟨a, n, e1, e2, hn, ⟨xs, hq⟩, q⟩ := q2
  subst e1 e2
  obtain ⟨u, rfl, ru⟩ := vals1 r1
  cases (show u = Value.ref a from ru)
  obtain ⟨v, rfl, rv'⟩ := vals1 r2
  obtain ⟨tk', rfl⟩ := (show ∃ tk, v = Value.int (n : Int) tk from rv')
  obtain ⟨its, rv, pl, hz⟩ := I2.list hq
  have hlt : a < s2.heap.objs.size := by obtain ⟨_, y, _⟩ := pl.isList; exact Heap.lt_size y
  show wpAny _ _ (call (.type "enumerate") [.ref a] [(Str.ofString "start", .int (n : Int) tk')]) _ _ _
  refine call_enumS pl.isList (fits_small (by omega) (by omega)) fun h' he' hit hsz hk' => ?_
  refine wpAny_pyIter_enum he' ?_
  have I3 : Inv X pins σ H2 { s2 with heap := h' } := I2.kept (t' := s2.toks) hk'
  refine ⟨_, [s2.heap.objs.size + 1, s2.heap.objs.size], _, _, H2, rfl, I3, turn_enum a (s2.heap.objs.size + 1) s2.heap.objs.size (Nat.succ_ne_self _) (Nat.ne_of_lt (Nat.lt_succ_of_lt hlt)) (Nat.ne_of_lt hlt) n, ⟨⟨_, he'⟩, hit⟩, fun b hb => ?_, q⟩
  rcases List.mem_cons.mp hb with rfl | hb
  · exact I2.fpOk (Nat.le_succ _) (I2.hok.fresh (Nat.le_succ _))
  · have : b = s2.heap.objs.size := by simpa using hb
    subst this
    exact I2.fpOk (Nat.le_refl _) (I2.hok.fresh (Nat.le_refl _))
theorem piK_enumS {K : PySem.W.Frag} {l e : Expr} {ta tk : TA} {p pos kp : Pos} (hK : X.K = K) (hg : Gl X "enumerate") (hm : X.mg "enumerate" = none) (ha : PA X [l] ta) (hk : PK X [⟨some (Str.ofString "start"), e, kp⟩] tk)
    (he : backTo pos (starEach [l] X.env) = (false, eval l X.env) :: backTo pos (starEach [] X.env) := by rfl)
    (hplain : (backTo pos (starEach [l] X.env)).any (·.1) = false := by rfl)
    (hall : (backToKw pos (keywordEach [⟨some (Str.ofString "start"), e, kp⟩] X.env)).all (·.1.isSome) = true := by rfl)
    (hkw : (backToKw pos (keywordEach [⟨some (Str.ofString "start"), e, kp⟩] X.env)).any (·.1.isNone) = false := by rfl) :
    PI X (.Tuple elts k tpos) (.Call (.Name "enumerate" p) [l] [⟨some (Str.ofString "start"), e, kp⟩] pos) (iEnumS K ta tk) := by subst hK; exact pi_enumS hg hm ha hk he hplain hall hkw
end
/-! ### a range by steps of 2 -/
def Its (lo : Int) (n : Nat) : It := ⟨fun i _ => i < n, fun i H x H' => H' = H ∧ x = .int (lo + i * 2), fun i _ => n ≤ i⟩
theorem turn_step {P : Program} {w : World} {K : PySem.W.Frag} {tg : Expr} (it : Addr) (lo : Int) (n : Nat) : Turn P w K tg (Its lo n) [it] it (fun i h => IsRangeIter h it (lo + (i : Nat) * 2) ((n : Int) - (i : Nat)) 2) where
  mem := by simp
  obj := fun i h st b hb => by
    have e : b = it := by simpa using hb
    subst e
    exact ⟨_, st, fun v z => by
      have z' : Data.fields _ = Data.cell v := z
      cases z'⟩
  keep := fun i h h' st k => k it (by simp) _ st
  item := by
    intro X hP hw hK hc i pins s σ H E I hf st hg
    subst hP hw hK
    obtain ⟨f0, f1, f2, f3, f4, f5⟩ := hf it (by simp)
    have W := Walks.range (prog := X.prog) (w := X.w) (I.ok.hd hc) it lo 2 n
    refine W.item i s _ _ hg st fun v h' tk hv st' kk => ?_
    obtain ⟨t, rfl⟩ := hv
    have I1 : Inv X pins σ H { s with heap := h', toks := tk } := I.turned (fun b o hb e => kk b o (by simpa using hb) e) f0 f1 f3 f4 f5
    exact ⟨_, rfl, go_of (s := { s with heap := h', toks := tk }) (n := "range_iterator") st' rfl rfl (by decide) ⟨.int (lo + i * 2), H, I1, ⟨t, rfl⟩, ⟨rfl, rfl⟩, st', fun b hb => (hf b hb).1⟩⟩
  done := by
    intro X hP hw hK hc i pins s σ H E I hf st hg
    subst hP hw hK
    obtain ⟨f0, f1, f2, f3, f4, f5⟩ := hf it (by simp)
    exact wpAny_pyNext_range_end (I.ok.hd hc) st (by have : n ≤ i := hg; omega) fun h' eb => ⟨rfl, I.turned (t' := s.toks) (fun b o hb e => eb b o hb e) f0 f1 f3 f4 f5⟩
  self := fun _ _ _ _ _ st h => wpAny_pyIter_rangeiter st h
theorem rsize2 (lo hi : Int) : Builtin.Range.rangeSize lo hi 2 = if lo < hi then (hi - lo - 1) / 2 + 1 else 0 := by
  unfold Builtin.Range.rangeSize
  rw [if_pos (by decide)]
theorem small_two {a b : Int} (ha : -(2 ^ 60) ≤ a) (ha' : a < 2 ^ 60) (hb : -(2 ^ 60) ≤ b) (hb' : b < 2 ^ 60) : Builtin.Range.small a b 2 = true := by
  unfold Builtin.Range.small
  rw [rsize2]
  simp only [Builtin.Range.rangeFitsLong, Bool.and_eq_true, Bool.or_eq_true, decide_eq_true_eq, beq_iff_eq, show (2 : Int) > 0 by decide, if_true]
  split <;> omega
section
variable {X : Cx} {tg : Expr}
def iRngS (ta : TA) : TI := fun σ H R => ta σ H fun vs H1 => ∃ i j : Int, vs = [.int i, .int j, .int 2] ∧ (-(2 ^ 60) ≤ i ∧ i < 2 ^ 60 ∧ -(2 ^ 60) ≤ j ∧ j < 2 ^ 60) ∧ R (Its i (if i < j then (j - i - 1) / 2 + 1 else 0).toNat) H1
theorem pi_rangeS {a b c : Expr} {ta : TA} {p pos : Pos} (hg : Gl X "range") (hm : X.mg "range" = none) (ha : PA X [a, b, c] ta) (hs : starEach [a, b, c] X.env = [(false, eval a X.env), (false, eval b X.env), (false, eval c X.env)] := by rfl) (hs2 : starEach [b, c] X.env = [(false, eval b X.env), (false, eval c X.env)] := by rfl) :
    PI X tg (.Call (.Name "range" p) [a, b, c] [] pos) (iRngS ta) := by
  intro pins s σ H R I h
  refine Call_ (ld_blt I hg hm boot_range (PyProof.Rows.callWith_type1 (thn (ha pos pins s σ H _ I h) fun us s1 ⟨vs, H1, I1, r1, q1⟩ => ?_) (by rw [hs, hs2]) (by rw [hs2]; rfl)))
  obtain ⟨lo, hi, e, ⟨q1, q2, q3, q4⟩, q⟩ := q1
  subst e
  cases r1 with
  | cons r rr =>
    cases rr with
    | cons r' rr =>
      cases rr with
      | cons r'' rr =>
        cases rr
        obtain ⟨t, rfl⟩ := r
        obtain ⟨t', rfl⟩ := r'
        obtain ⟨t'', rfl⟩ := r''
        refine call_range_3 (by decide) ?_ (Or.inl (PyProof.noPylong_small (by omega)))
        refine wpAny_pyIter_range (IsRange.new ..) (small_two q1 q2 q3 q4) ?_
        have I2 : Inv X pins σ H1 { s1 with heap := s1.heap.push { cls := .type "range", data := .fields #[.int lo t, .int hi t', .int 2 t''] }, toks := s1.toks } := I1.kept fun b o e => Heap.get?_push_of_some _ e
        refine ⟨(s1.heap.push { cls := .type "range", data := .fields #[.int lo t, .int hi t', .int 2 t''] }).objs.size, [(s1.heap.push { cls := .type "range", data := .fields #[.int lo t, .int hi t', .int 2 t''] }).objs.size], _, _, H1, rfl,
          I2.kept (t' := s1.toks) fun b o e => Heap.get?_push_of_some _ e, turn_step _ lo _, ?_, fun b hb => ?_, q⟩
        · have e1 : lo + ((0 : Nat) : Int) * 2 = lo := by simp
          have e2 : (((if lo < hi then (hi - lo - 1) / 2 + 1 else 0).toNat : Nat) : Int) - ((0 : Nat) : Int) = Builtin.Range.rangeSize lo hi 2 := by rw [rsize2]; split <;> omega
          show IsRangeIter _ _ (lo + ((0 : Nat) : Int) * 2) ((((if lo < hi then (hi - lo - 1) / 2 + 1 else 0).toNat : Nat) : Int) - ((0 : Nat) : Int)) 2
          rw [e1, e2]
          exact Heap.get?_push_size _ rfl
        · have e : b = (s1.heap.push { cls := .type "range", data := .fields #[.int lo t, .int hi t', .int 2 t''] }).objs.size := by simpa using hb
          subst e
          exact I2.fpOk (Nat.le_refl _) (I2.hok.fresh (Nat.le_refl _))
end
theorem for_step {lo : Int} {n : Nat} {g : TG} {tb : TS} {D : Ends} {σ : St} {H : Hp} (Pv : Nat → St → Hp → Prop) (h0 : Pv 0 σ H)
    (hs : ∀ i σ H, i < n → Pv i σ H → g (.int (lo + i * 2)) σ H fun σ2 H2 => tb { D with nx := Pv (i + 1), ct := Pv (i + 1), bk := D.nx } σ2 H2) (hd : ∀ σ H, Pv n σ H → D.nx σ H) :
    ∃ W : Nat → Nat → St → Hp → Prop, (∃ m, W 0 m σ H) ∧ ∀ i m σ H, W i m σ H →
      ((Its lo n).stop i H ∧ D.nx σ H) ∨ ((Its lo n).go i H ∧ ∃ N : St → Hp → Prop, (∀ σ' H', N σ' H' → ∃ m', m' < m ∧ W (i + 1) m' σ' H') ∧ ∀ x H', (Its lo n).yld i H x H' → g x σ H' fun σ2 H2 => tb { D with nx := N, ct := N, bk := D.nx } σ2 H2) := by
  refine ⟨fun i m σ H => m = n - i ∧ i ≤ n ∧ Pv i σ H, ⟨n, by simp, Nat.zero_le _, h0⟩, ?_⟩
  rintro i m σ H ⟨rfl, hi, p⟩
  by_cases hlt : i < n
  · refine .inr ⟨hlt, Pv (i + 1), fun σ' H' p' => ⟨n - (i + 1), by omega, rfl, hlt, p'⟩, fun v H' y => ?_⟩
    obtain ⟨e1, e2⟩ := y
    subst e1 e2
    exact hs i σ _ hlt p
  · have e : i = n := by omega
    subst e
    exact .inl ⟨Nat.le_refl _, hd σ H p⟩
end L2

set_option Elab.async false
set_option linter.all false
set_option maxRecDepth 100000
set_option maxHeartbeats 1000000
namespace K12
open PySem L2
local macro_rules | `(tactic| walk_at "rd") => `(tactic| repeat ((fail_if_success with_reducible refine ite2 ?_ ?_); first | refine ⟨_, rfl, ?_⟩ | refine ⟨_, _, rfl, rfl, ?_⟩ | refine ⟨show (_ : Int) ≠ 0 by decide, ?_⟩ | refine ⟨show CMulO _ _ from mulOkR (by decide) (by decide), ?_⟩ | refine ⟨show CMulO _ _ from mulOkL (by decide) (by decide), ?_⟩ | refine ⟨show CDivW _ _ from (Bd.small (by decide) (by decide)).dv (by decide), ?_⟩ | refine ⟨show CPow _ _ from ⟨by decide, by decide, by decide⟩, ?_⟩ | refine ⟨show scal _ _ = true from rfl, ?_⟩ | refine ⟨show isPlain _ = true from rfl, ?_⟩ | refine ⟨show List.length _ ≤ sizeLine from len_ok rfl, ?_⟩))
def top (i : Nat) : Stmt := PySem.Challenge.pw_branchdepth_k12_three_terms_and_squares.main.body.getD i (.Pass ⟨0, 0, 0, 0⟩)
abbrev s_without_noughts_behind : Stmt := top 1
theorem sc_without_noughts_behind : FnScope ["numbers", "many"] ["numbers"] (defScope s_without_noughts_behind) := ⟨rfl, rfl, rfl, by decide +kernel, rfl, by decide +kernel, by decide +kernel⟩
abbrev s_coefficient : Stmt := top 2
theorem sc_coefficient : FnScope ["f", "place"] ["f", "place"] (defScope s_coefficient) := ⟨rfl, rfl, rfl, by decide +kernel, rfl, by decide +kernel, by decide +kernel⟩
abbrev s_multiplied : Stmt := top 3
theorem sc_multiplied : FnScope ["f", "g", "product", "at", "one", "behind", "other"] ["f", "g"] (defScope s_multiplied) := ⟨rfl, rfl, rfl, by decide +kernel, rfl, by decide +kernel, by decide +kernel⟩
abbrev s_derived : Stmt := top 4
theorem sc_derived : FnScope ["f"] ["f"] (defScope s_derived) := ⟨rfl, rfl, rfl, by decide +kernel, rfl, by decide +kernel, by decide +kernel⟩
abbrev s_divided : Stmt := top 5
theorem sc_divided : FnScope ["f", "g", "rest", "quotient", "degree", "place", "lead", "at", "part"] ["f", "g"] (defScope s_divided) := ⟨rfl, rfl, rfl, by decide +kernel, rfl, by decide +kernel, by decide +kernel⟩
abbrev s_place_of_lead : Stmt := top 7
theorem sc_place_of_lead : FnScope ["table", "at", "row"] ["table"] (defScope s_place_of_lead) := ⟨rfl, rfl, rfl, by decide +kernel, rfl, by decide +kernel, by decide +kernel⟩
abbrev s_lessened : Stmt := top 8
theorem sc_lessened : FnScope ["table", "at", "divisor", "top", "others"] ["table", "at", "divisor"] (defScope s_lessened) := ⟨rfl, rfl, rfl, by decide +kernel, rfl, by decide +kernel, by decide +kernel⟩
abbrev s_determinant : Stmt := top 9
theorem sc_determinant : FnScope ["table", "rows", "sign", "lead", "at"] ["table"] (defScope s_determinant) := ⟨rfl, rfl, rfl, by decide +kernel, rfl, by decide +kernel, by decide +kernel⟩
abbrev s_resultant : Stmt := top 10
theorem sc_resultant : FnScope ["f", "g", "degree", "table", "rest", "turn"] ["f", "g"] (defScope s_resultant) := ⟨rfl, rfl, rfl, by decide +kernel, rfl, by decide +kernel, by decide +kernel⟩
abbrev s_discriminant : Stmt := top 11
theorem sc_discriminant : FnScope ["f", "degree", "told"] ["f"] (defScope s_discriminant) := ⟨rfl, rfl, rfl, by decide +kernel, rfl, by decide +kernel, by decide +kernel⟩
abbrev s_q_cell_at : Stmt := top 13
theorem sc_q_cell_at : FnScope ["_law_script", "_law_k"] ["_law_script", "_law_k"] (defScope s_q_cell_at) := ⟨rfl, rfl, rfl, by decide +kernel, rfl, by decide +kernel, by decide +kernel⟩
abbrev s_q_number : Stmt := top 14
theorem sc_q_number : FnScope ["_law_script", "_law_k", "_law_x", "_law_total", "_law_j"] ["_law_script", "_law_k"] (defScope s_q_number) := ⟨rfl, rfl, rfl, by decide +kernel, rfl, by decide +kernel, by decide +kernel⟩
abbrev s_q_trimmed : Stmt := top 15
theorem sc_q_trimmed : FnScope ["_law_numbers", "_law_many"] ["_law_numbers"] (defScope s_q_trimmed) := ⟨rfl, rfl, rfl, by decide +kernel, rfl, by decide +kernel, by decide +kernel⟩
abbrev s_q_times : Stmt := top 16
theorem sc_q_times : FnScope ["_law_f", "_law_g", "_law_found", "_law_i", "_law_j"] ["_law_f", "_law_g"] (defScope s_q_times) := ⟨rfl, rfl, rfl, by decide +kernel, rfl, by decide +kernel, by decide +kernel⟩
abbrev s_q_poly : Stmt := top 17
theorem sc_q_poly : FnScope ["_law_cell", "_law_most", "_law_kind", "_law_found", "_law_many", "_law_rest", "_law_base", "_law_k"] ["_law_cell", "_law_most", "_law_kind"] (defScope s_q_poly) := ⟨rfl, rfl, rfl, by decide +kernel, rfl, by decide +kernel, by decide +kernel⟩
abbrev s_q_power : Stmt := top 18
theorem sc_q_power : FnScope ["_law_number_here", "_law_many", "_law_found", "_law_k"] ["_law_number_here", "_law_many"] (defScope s_q_power) := ⟨rfl, rfl, rfl, by decide +kernel, rfl, by decide +kernel, by decide +kernel⟩
abbrev s_q_monic : Stmt := top 19
theorem sc_q_monic : FnScope ["_law_cell", "_law_most", "_law_low"] ["_law_cell", "_law_most"] (defScope s_q_monic) := ⟨rfl, rfl, rfl, by decide +kernel, rfl, by decide +kernel, by decide +kernel⟩
abbrev s_law : Stmt := top 20
theorem sc_law : FnScope ["_law_script", "_law_k", "_law_cell", "_law_n", "_law_base", "_law_a", "_law_b", "_law_due", "_law_f", "_law_g", "_law_h", "_law_both", "_law_slope"] ["_law_script"] (defScope s_law) := ⟨rfl, rfl, rfl, by decide +kernel, rfl, by decide +kernel, by decide +kernel⟩
structure Blt (mg : Str → Option Value) : Prop where
  «abs» : mg "abs" = none
  «enumerate» : mg "enumerate" = none
  «int» : mg "int" = none
  «len» : mg "len" = none
  «list» : mg "list" = none
  «min» : mg "min" = none
  «range» : mg "range" = none
  «reversed» : mg "reversed" = none
/-! ### determinants -/
def mxL (ls : List (List Int)) : Mx := fun i j => (ls.getD i []).getD j 0
structure Sqr (m : Nat) (ts : List LP) : Prop where
  len : ts.length = m
  row : ∀ t ∈ ts, t.2.length = m
theorem mxL_at {ts : List LP} {i : Nat} (hi : i < ts.length) (j : Nat) : mxL (lvals ts) i j = ts[i].2.getD j 0 := by
  have : (lvals ts).getD i [] = ts[i].2 := by simp [List.getD_eq_getElem?_getD, hi]
  unfold mxL
  rw [this]
theorem at_row {xs : List Int} {j : Nat} (h : j < xs.length) : atI (xs.map V.int) (j : Int) = some (.int (xs.getD j 0)) := by
  rw [atI_get_nat (by omega) (by rw [List.length_map]; omega)]
  simp [List.getD_eq_getElem?_getD, h]
def spLead (K : PySem.W.Frag) : Sp := fun vs H Q _ => ∃ (p : Addr) (ts : List LP), vs = [.ref p] ∧ LLs H p ts ∧ (∀ t ∈ ts, 0 < t.2.length) ∧ ts.length ≤ 1000 ∧
  (∀ (t : Nat) (H' : Hp), Same H H' → t < ts.length → mxL (lvals ts) t 0 ≠ 0 → Q (.int (t : Int)) H') ∧ ∀ H', Same H H' → (∀ i, i < ts.length → mxL (lvals ts) i 0 = 0) → Q .non H'
section
variable {P : Program} {w : World} {K : PySem.W.Frag} {mg : Str → Option Value} {base : Heap}
theorem ok_place_of_lead (B : Blt mg) (F : Src K mg "place_of_lead" s_place_of_lead ["table"]) : Dfn P w K mg base 1 "place_of_lead" ["table"] (spLead K) := by
  refine F.ok sc_place_of_lead (fun vs H Q E h => ?_) (fun f cdv A outer s' H vs Q E hr h => ?_)
  · obtain ⟨p, ts, rfl, _⟩ := h; rfl
  obtain ⟨p, ts, rfl, hT, hp, lt, q1, q2⟩ := h
  refine ⟨_, pss_cons (ps_for PassesOwn.never rfl (piK_enum (K := K) rfl rfl B.«enumerate» (pa_cons (pv 0) pa_nil)) (pgK_tup (n := 2) (K := K) rfl rfl (pgs_cons (pg_name (i := 1) sc_place_of_lead.nd rfl (Or.inl rfl)) (pgs_cons (pg_name (i := 2) sc_place_of_lead.nd rfl (Or.inl rfl)) pgs_nil)))
      (pss_one (ps_if (pt_cmpR op_ne (pe_ix (ixK_list (K := K) rfl) (pv 2) pe_int (fun _ _ => rfl)) pe_int (nomark _))
        (pss_one (ps_ret (pv 1)))
        (pss_nil))))
    (pss_one (ps_ret pe_non)), ?_⟩
  have lrl : (lrefs ts).length = ts.length := List.length_map _
  refine ⟨_, rfl, p, rfl, ⟨_, hT.sql⟩, for_enum (st := 0) (xs := lrefs ts) (fun i σ H2 => Same H H2 ∧ (∃ o1 o2, σ = [some (.ref p), o1, o2]) ∧ ∀ j, j < i → mxL (lvals ts) j 0 = 0) ⟨Same.refl _, ⟨_, _, rfl⟩, fun j hj => absurd hj (by omega)⟩ (fun i σ H2 _ h => (hT.same h.1).sql) ?_ ?_⟩
  · rintro i x σ H2 r hx ⟨gg, ⟨o1, o2, rfl⟩, hz⟩ hr'
    obtain ⟨hi, rfl⟩ := lrefs_get hx
    have gr := same_new hr' (.tup [.int ((0 + i : Nat) : Int), .ref ts[i].1])
    have g2 := gg.trans gr
    have e1 := g2 _ _ (hT.it ts[i] (List.getElem_mem _))
    have a0 := at_row (xs := ts[i].2) (j := 0) (hp ts[i] (List.getElem_mem _))
    have em := mxL_at hi 0
    refine ⟨r, _, rfl, SqT.of upd_same, rfl, _, _, rfl, _, _, rfl, rfl, ?_⟩
    refine ⟨_, rfl, ts[i].1, _, _, _, rfl, rfl, SqL.of e1, a0, rfl, _, rfl, ?_⟩
    rw [← em]
    by_cases c : mxL (lvals ts) i 0 = 0
    · refine iteNS (congrArg V.int c) ⟨g2, ⟨_, _, rfl⟩, fun j hj => ?_⟩
      by_cases e : j = i
      · rw [e]; exact c
      · exact hz j (by omega)
    · refine iteS (fun z => c (V.int.inj z)) ⟨_, rfl, ?_⟩
      simp only [Nat.zero_add] at g2 ⊢
      exact q1 i _ g2 hi c
  · rintro σ H2 ⟨gg, _, hz⟩
    exact q2 H2 gg fun i hi => hz i (by rw [lrl]; exact hi)
end
def lsn (ts : List LP) (t m : Nat) (d : Int) (a : Nat) : List Int := (List.range m).map fun c => (chi (fun a c => mxL (lvals ts) (cyc t a) c) a c).fdiv d
def spLessen (K : PySem.W.Frag) : Sp := fun vs H Q _ => ∃ (p : Addr) (ts : List LP) (t m : Nat) (d : Int), vs = [.ref p, .int (t : Int), .int d] ∧ LLs H p ts ∧ Sqr (m + 1) ts ∧ t < m + 1 ∧ m ≤ 100 ∧ d ≠ 0 ∧ Bd 9000 d ∧ (∀ i j, i < m + 1 → j < m + 1 → Bd 9000 (mxL (lvals ts) i j)) ∧
  ∀ (q : Addr) (us : List LP) (H' : Hp), Same H H' → H q = none → LLs H' q us → lvals us = (List.range m).map (lsn ts t m d) → Q (.ref q) H'
theorem cutV_dropV {xs : List V} {k : Nat} (h : k ≤ xs.length) : cutV xs (some (k : Int)) none = xs.drop k := by
  unfold cutV
  have e1 : HT.sIx xs.length 0 (some (k : Int)) = k := by rw [HT.sIx_nat]; omega
  have e2 : HT.sIx xs.length xs.length none = xs.length := rfl
  rw [e1, e2, List.take_of_length_le (by rw [List.length_drop]; exact Nat.le_refl _)]
theorem cutV_takeV {xs : List V} {k : Nat} (h : k ≤ xs.length) : cutV xs none (some (k : Int)) = xs.take k := by
  unfold cutV
  have e1 : HT.sIx xs.length 0 none = 0 := rfl
  have e2 : HT.sIx xs.length xs.length (some (k : Int)) = k := by rw [HT.sIx_nat]; omega
  rw [e1, e2, Nat.sub_zero, List.drop_zero]
section
variable {P : Program} {w : World} {K : PySem.W.Frag} {mg : Str → Option Value} {base : Heap}
theorem os_get {ts : List LP} {t a : Nat} (ht : t < ts.length) : (ts.take t ++ ts.drop (t + 1))[a]? = ts[skp t a]? := by
  unfold skp
  by_cases c : a < t
  · rw [if_pos c, List.getElem?_append_left (by rw [List.length_take]; omega), List.getElem?_take, if_pos c]
  · rw [if_neg c, List.getElem?_append_right (by rw [List.length_take]; omega), List.length_take, List.getElem?_drop]
    congr 1
    omega
theorem ok_lessened (B : Blt mg) (F : Src K mg "lessened" s_lessened ["table", "at", "divisor"]) : Dfn P w K mg base 1 "lessened" ["table", "at", "divisor"] (spLessen K) := by
  refine F.ok sc_lessened (fun vs H Q E h => ?_) (fun f cdv A outer s' H vs Q E hr h => ?_)
  · obtain ⟨p, ts, t, m, d, rfl, _⟩ := h; rfl
  obtain ⟨p, ts, t, m, d, rfl, hT, sq, ht, hm, d0, bd, bT, q⟩ := h
  refine ⟨_, pss_cons (ps_set (i := 3) sc_lessened.nd rfl (Or.inr rfl) (pe_ix (ixK_list (K := K) rfl) (pv 0) (pv 1) (fun _ _ => rfl)))
    (pss_cons (ps_set (i := 4) sc_lessened.nd rfl (Or.inl rfl) (pe_op op_cat (pe_slice (slK_list (K := K) rfl) (pv 0) po_none (po_some (pv 1))) (pe_slice (slK_list (K := K) rfl) (pv 0) (po_some (pe_op op_add (pv 1) pe_int)) po_none)))
    (pss_one (ps_ret (pe_compC (compScopeC_mk (N := ["row", "divisor", "top"]) (sl := [none, some 2, some 3]) "row" (defScope s_lessened) ["table", "at", "divisor", "top", "others"] rfl rfl (by decide +kernel)) rfl (piK_list (K := K) rfl (pv 4)) (fun _ _ _ _ _ => (pg_name (i := 0) (by show List.Nodup (["row", "divisor", "top"] : List Str); decide +kernel) rfl (Or.inr rfl))) (fun _ _ _ _ _ => pif_none) (fun _ _ _ _ _ => (pe_comp (compScope_mk (N := ["place", "divisor", "top", "row"]) (sl := [none, some 1, some 2, some 0]) (relabelS (stComp ((defBody s_lessened).getD 2 (.Pass ⟨0, 0, 0, 0⟩))) (defScope s_lessened)) ["row", "divisor", "top"] rfl rfl (by decide +kernel)) rfl (pi_range2 rfl B.«range» (pa_cons pe_int (pa_cons (pe_callB (callK_len (K := K) rfl) rfl B.«len» bt_len (pa_cons (pv 0) pa_nil)) pa_nil))) (fun _ _ _ _ _ => (pg_name (i := 0) (by show List.Nodup (["place", "divisor", "top", "row"] : List Str); decide +kernel) rfl (Or.inl rfl))) (fun _ _ _ _ _ => pif_none) (fun _ _ _ _ _ => (pe_op op_fdivW (pe_op op_sub (pe_op op_mulO (pe_ix (ixK_list (K := K) rfl) (pv 2) pe_int (fun _ _ => rfl)) (pe_ix (ixK_list (K := K) rfl) (pv 3) (pv 0) (fun _ _ => rfl))) (pe_op op_mulO (pe_ix (ixK_list (K := K) rfl) (pv 3) pe_int (fun _ _ => rfl)) (pe_ix (ixK_list (K := K) rfl) (pv 2) (pv 0) (fun _ _ => rfl)))) (pv 1))))))))), ?_⟩
  have lrl : (lrefs ts).length = m + 1 := by rw [List.length_map]; exact sq.len
  have htl : t < ts.length := by rw [sq.len]; exact ht
  have at_t : atI (lrefs ts) (t : Int) = some (.ref ts[t].1) := by
    rw [atI_get_nat (by omega) (by rw [lrl]; omega)]
    simp
  refine ⟨_, rfl, _, rfl, p, _, _, _, rfl, rfl, hT.sql, at_t, ?_⟩
  walk_at "rd"
  refine ⟨p, _, rfl, hT.sql, fun p1 n1 => ?_⟩
  rw [cutV_takeV (by rw [lrl]; omega)]
  have k1 := same_new n1 (.lst ((lrefs ts).take t))
  refine ⟨_, rfl, _, rfl, _, _, rfl, rfl, _, rfl, p, _, rfl, (hT.same k1).sql, fun p2 n2 => ?_⟩
  rw [show (t : Int) + 1 = ((t + 1 : Nat) : Int) by omega] at *
  rw [cutV_dropV (by rw [lrl]; omega)] at *
  have k2 := same_new n2 (.lst ((lrefs ts).drop (t + 1)))
  refine ⟨p1, p2, _, _, rfl, rfl, k2 _ _ upd_same, upd_same, by rw [List.length_take, List.length_drop, lrl, sizeLine_eq]; omega, fun p3 n3 => ?_⟩
  have k3 := same_new n3 (.lst ((lrefs ts).take t ++ (lrefs ts).drop (t + 1)))
  have e3 := upd_same (H := L2.upd (L2.upd H p1 (.lst ((lrefs ts).take t))) p2 (.lst ((lrefs ts).drop (t + 1)))) (a := p3) (o := .lst ((lrefs ts).take t ++ (lrefs ts).drop (t + 1)))
  have g3 := (k1.trans k2).trans k3
  generalize L2.upd (L2.upd (L2.upd H p1 (.lst ((lrefs ts).take t))) p2 (.lst ((lrefs ts).drop (t + 1)))) p3 (.lst ((lrefs ts).take t ++ (lrefs ts).drop (t + 1))) = H3 at e3 g3 ⊢
  have eos : (lrefs ts).take t ++ (lrefs ts).drop (t + 1) = lrefs (ts.take t ++ ts.drop (t + 1)) := by simp [lrefs, List.map_take, List.map_drop]
  rw [eos] at e3
  have hos := fun a => os_get (ts := ts) (t := t) (a := a) htl
  have los : (ts.take t ++ ts.drop (t + 1)).length = m := by rw [List.length_append, List.length_take, List.length_drop, sq.len]; omega
  generalize ts.take t ++ ts.drop (t + 1) = os at e3 hos los
  clear k1 k2 k3 eos n1 n2 n3
  have hT3 := hT.same g3
  have lro : (lrefs os).length = m := by rw [List.length_map]; exact los
  have et := hT3.it ts[t] (List.getElem_mem _)
  have lt_ := sq.row ts[t] (List.getElem_mem _)
  have emt := fun j => mxL_at htl j
  generalize ts[t] = tt at et lt_ emt at_t ⊢
  refine ⟨_, rfl, p3, rfl, ⟨_, SqL.of e3⟩, fun D hD => comp_list (xs := lrefs os) (fun a ys H4 => Same H3 H4 ∧ ∃ us : List LP, ys = lrefs us ∧ (∀ u ∈ us, H4 u.1 = some (.lst (u.2.map V.int)) ∧ u.1 ≠ D) ∧ lvals us = (List.range a).map (lsn ts t m d)) ⟨same_new hD _, [], rfl, fun u hu => by simp at hu, rfl⟩ (fun a ys H4 _ h => SqL.of (h.1 _ _ e3)) (fun a m' x ys H4 hm' ha hx hy hlen h => ?_) (fun ys H4 hy h => ?_)⟩
  · obtain ⟨g4, us, rfl, hu, hv⟩ := h
    obtain ⟨ha', rfl⟩ := lrefs_get hx
    have hsk : skp t a < ts.length := by rw [sq.len]; exact skp_lt (by omega)
    have eoa : os[a] = ts[skp t a] := by
      have := hos a
      rw [List.getElem?_eq_getElem ha', List.getElem?_eq_getElem hsk] at this
      exact Option.some.inj this
    rw [eoa]
    have er := g4 _ _ (hT3.it ts[skp t a] (List.getElem_mem _))
    have lr_ := sq.row ts[skp t a] (List.getElem_mem _)
    have emr := fun j => mxL_at hsk j
    generalize ts[skp t a] = rr at er lr_ emr ⊢
    have et4 := g4 _ _ et
    have lrr : (rr.2.map V.int).length = m + 1 := by rw [List.length_map]; exact lr_
    refine ⟨_, rfl, rr.1, _, rfl, .inl (SqL.of er), ?_⟩
    rw [lrr]
    refine ⟨1, _, rfl, ⟨by decide, by decide, by omega, by omega⟩, fun D2 hD2 => ?_⟩
    rw [show ((m + 1 : Nat) : Int) - 1 = (m : Int) by omega, Int.toNat_natCast]
    refine comp_range (fun c zs H5 => Same H4 H5 ∧ zs = ((List.range c).map fun c => (chi (fun a c => mxL (lvals ts) (cyc t a) c) a c).fdiv d).map V.int) ⟨same_new hD2 _, rfl⟩ (fun c m2 zs H5 hm2 hc hy2 hlen2 h2 => ?_) (fun zs H5 hy2 h2 => ?_)
    · obtain ⟨g5, rfl⟩ := h2
      have er5 := g5 _ _ er
      have et5 := g5 _ _ et4
      have at0 := at_row (xs := tt.2) (j := 0) (by omega)
      have at1 := at_row (xs := tt.2) (j := c + 1) (by omega)
      have ar0 := at_row (xs := rr.2) (j := 0) (by omega)
      have ar1 := at_row (xs := rr.2) (j := c + 1) (by omega)
      rw [← emt] at at0 at1
      rw [← emr] at ar0 ar1
      rw [show (1 : Int) + (c : Int) = ((c + 1 : Nat) : Int) by omega]
      have hskm : skp t a < m + 1 := by rw [← sq.len]; exact hsk
      have b1 := bT t 0 ht (by omega)
      have b2 := bT (skp t a) (c + 1) hskm (by omega)
      have b3 := bT (skp t a) 0 hskm (by omega)
      have b4 := bT t (c + 1) ht (by omega)
      refine ⟨_, rfl, tt.1, _, _, _, rfl, rfl, SqL.of et5, at0, _, rfl, _, rfl, rr.1, _, _, _, rfl, rfl, SqL.of er5, ar1, _, _, rfl, rfl, b1.ok b2, ?_⟩
      refine ⟨_, rfl, rr.1, _, _, _, rfl, rfl, SqL.of er5, ar0, _, rfl, _, rfl, tt.1, _, _, _, rfl, rfl, SqL.of et5, at1, _, _, rfl, rfl, b3.ok b4, ?_⟩
      refine ⟨_, _, rfl, rfl, _, rfl, _, _, rfl, rfl, bd.dv d0, ?_⟩
      refine CW.emit hm2 hc (by rw [sizeLine_eq]; omega) hy2 hlen2 ⟨Same.free_upd g5 hD2 _, ?_⟩
      rw [List.range_succ, List.map_append, List.map_append]
      rfl
    · obtain ⟨g5, rfl⟩ := h2
      have hyD := g5 _ _ hy
      have hDD : D2 ≠ D := fun z => by rw [z, hy] at hD2; cases hD2
      refine CW.emit hm' ha (by rw [lro, sizeLine_eq]; omega) hyD hlen ⟨Same.free_upd (g4.trans g5) hD _, us ++ [(D2, lsn ts t m d a)], by simp [lrefs], fun u mu => ?_, ?_⟩
      · rcases List.mem_append.mp mu with y | y
        · obtain ⟨u1, u2⟩ := hu u y
          exact ⟨by rw [upd_ne u2]; exact g5 _ _ u1, u2⟩
        · have : u = (D2, lsn ts t m d a) := by simpa using y
          rw [this]
          exact ⟨by rw [upd_ne hDD]; exact hy2, hDD⟩
      · have el : lvals (us ++ [((D2, lsn ts t m d a) : LP)]) = lvals us ++ [lsn ts t m d a] := by simp [lvals]
        rw [el, List.range_succ, List.map_append, hv]
        rfl
  · obtain ⟨g4, us, rfl, hu, hv⟩ := h
    rw [lro] at hv
    exact q D us H4 (g3.trans g4) (g3.free hD) ⟨hy, fun u mu => (hu u mu).1⟩ hv
end

theorem lsn_mx {ts us : List LP} {t m : Nat} {d : Int} (h : lvals us = (List.range m).map (lsn ts t m d)) : Sqr m us ∧ ∀ a c, a < m → c < m → mxL (lvals us) a c = (chi (fun a c => mxL (lvals ts) (cyc t a) c) a c).fdiv d := by
  have hl : us.length = m := by have := congrArg List.length h; simpa using this
  refine ⟨⟨hl, fun u hu => ?_⟩, fun a c ha hc => ?_⟩
  · have : u.2 ∈ lvals us := List.mem_map_of_mem hu
    rw [h] at this
    obtain ⟨a, _, e⟩ := List.mem_map.mp this
    rw [← e]
    simp [lsn]
  · have e : (lvals us).getD a [] = lsn ts t m d a := by rw [h]; simp [List.getD_eq_getElem?_getD, ha]
    show ((lvals us).getD a []).getD c 0 = _
    rw [e]
    unfold lsn
    rw [List.getD_eq_getElem?_getD, List.getElem?_map, List.getElem?_range hc]
    rfl
def spDet (K : PySem.W.Frag) : Sp := fun vs H Q _ => ∃ (p : Addr) (ts : List LP) (n E : Nat), vs = [.ref p] ∧ LLs H p ts ∧ Sqr n ts ∧ n ≤ 26 ∧ n * (E + 5) < 9000 ∧ (∀ i j, i < n → j < n → (mxL (lvals ts) i j).natAbs ≤ 2 ^ E) ∧ ∀ H', Same H H' → Q (.int (det n (mxL (lvals ts)))) H'
theorem bd_le {x : Int} {k : Nat} (hk : k < 9000) (h : x.natAbs ≤ 2 ^ k) : Bd 9000 x := Nat.lt_of_le_of_lt h (Nat.pow_lt_pow_right (by decide) hk)
def μd : St → Hp → Nat := fun σ H => match σ with
  | [_, some (.ref p), _, _, _] => match H p with
    | some (.lst xs) => xs.length
    | _ => 0
  | _ => 0
section
variable {P : Program} {w : World} {K : PySem.W.Frag} {mg : Str → Option Value} {base : Heap}
theorem ok_determinant (B : Blt mg) (d_place_of_lead : Dfn P w K mg base 1 "place_of_lead" ["table"] (spLead K)) (d_lessened : Dfn P w K mg base 1 "lessened" ["table", "at", "divisor"] (spLessen K)) (F : Src K mg "determinant" s_determinant ["table"]) : Dfn P w K mg base 2 "determinant" ["table"] (spDet K) := by
  refine F.ok sc_determinant (fun vs H Q E h => ?_) (fun f cdv A outer s' H vs Q E hr h => ?_)
  · obtain ⟨p, ts, n, E, rfl, _⟩ := h; rfl
  obtain ⟨p0, ts0, n, E9, rfl, hT0, sq0, hn, hE9, bA, q⟩ := h
  refine ⟨_, pss_cons (ps_set (i := 1) sc_determinant.nd rfl (Or.inl rfl) (pv 0))
    (pss_cons (ps_set (i := 2) sc_determinant.nd rfl (Or.inl rfl) pe_int)
    (pss_cons (ps_set (i := 3) sc_determinant.nd rfl (Or.inl rfl) pe_int)
    (pss_cons (ps_while PassesOwn.never (pt_cmpR (opK_neD (K := K) rfl hr.units) (pv 1) (pe_lst pa_nil) (nomark _))
      (pss_cons (ps_set (i := 4) sc_determinant.nd rfl (Or.inl rfl) (pe_def d_place_of_lead hr (pa_cons (pv 1) pa_nil)))
      (pss_cons (ps_if (pt_cmpR op_is (pv 4) pe_non (nomark _))
        (pss_one (ps_ret pe_int))
        (pss_nil))
      (pss_cons (ps_if (pt_cmpR op_eq (pe_op op_modN (pv 4) pe_int) pe_int (nomark _))
        (pss_one (ps_set (i := 2) sc_determinant.nd rfl (Or.inl rfl) (pe_un un_neg (pv 2))))
        (pss_nil))
      (pss_one (ps_par (i := 1) (j := 3) rfl sc_determinant.nd rfl rfl (by decide) rfl rfl (pa_cons (pe_def d_lessened hr (pa_cons (pv 1) (pa_cons (pv 4) (pa_cons (pv 3) pa_nil)))) (pa_cons (pe_ix (ixK_list (K := K) rfl) (pe_ix (ixK_list (K := K) rfl) (pv 1) (pv 4) (fun _ _ => rfl)) pe_int (fun _ _ => rfl)) pa_nil)) rfl))))))
    (pss_one (ps_ret (pe_op op_mulO (pv 2) (pv 3))))))), ?_⟩
  generalize hA : mxL (lvals ts0) = A0 at bA q
  refine ⟨_, rfl, ?_⟩
  refine while_in (fun σ H2 => Same H H2 ∧ ∃ (p : Addr) (ts : List LP) (s d : Int) (o : Option V) (m : Nat), σ = [some (.ref p0), some (.ref p), some (.int s), some (.int d), o] ∧ LLs H2 p ts ∧ Sqr m ts ∧ Bd 64 s ∧ Bd 9000 d ∧ ((∃ m' k, m = m' + 1 ∧ m + k = n ∧ Ba A0 n k d (mxL (lvals ts)) m s) ∨ (m = 0 ∧ s * d = det n A0))) μd ⟨Same.refl _, p0, ts0, 1, 1, _, n, rfl, hT0, sq0, Bd.small (by decide) (by decide), (Bd.small (by decide) (by decide)).mono (by decide), ?_⟩ ?_
  · cases n with
    | zero => exact .inr ⟨rfl, rfl⟩
    | succ n' => exact .inl ⟨n', 0, rfl, rfl, hA ▸ Ba.start A0 (n' + 1)⟩
  · rintro σ H2 ⟨g2, p, ts, s, d, o, m, rfl, hT, sq, bs, bd, hB⟩
    refine ⟨_, rfl, len_ok rfl, fun pe npe => ?_⟩
    have ke := same_new npe (.lst [])
    refine neLL (hT.same ke).den (den_nilLL (SqL.of upd_same)) ⟨_, rfl, ?_⟩
    rcases hB with ⟨m', k, em, hk, hBa⟩ | ⟨em, hdet⟩
    · subst em
      have hne : lvals ts ≠ [] := fun z => by
        have := congrArg List.length z
        rw [List.length_map, sq.len] at this
        cases this
      have hT3 := hT.same ke
      have g3 := g2.trans ke
      have hmu : μd [some (.ref p0), some (.ref p), some (.int s), some (.int d), o] H2 = m' + 1 := by
        show (match H2 p with | some (.lst xs) => xs.length | _ => 0) = m' + 1
        rw [hT.top]
        show (lrefs ts).length = m' + 1
        rw [List.length_map]; exact sq.len
      rw [hmu]
      generalize L2.upd H2 pe (.lst []) = H3 at hT3 g3
      obtain ⟨bd', bB⟩ := hBa.bds (by omega) hk bA
      refine iteS hne (win ?_)
      refine ⟨_, rfl, p, ts, rfl, hT3, fun t ht => by rw [sq.row t ht]; omega, by rw [sq.len]; omega, fun t H4 g4 ht hnz => ?_, fun H4 g4 hz => ?_⟩
      · have ht' : t < m' + 1 := by rw [← sq.len]; exact ht
        refine ⟨_, rfl, rfl, _, rfl, iteF ?_⟩
        have hT4 := hT3.same g4
        apply merge (M := fun σ HM => HM = H4 ∧ σ = [some (.ref p0), some (.ref p), some (.int (sg t * s)), some (.int d), some (.int (t : Int))])
        case h1 =>
          intro key
          refine ⟨_, rfl, _, _, rfl, rfl, (by decide : (2 : Int) ≠ 0), rfl, _, rfl, ?_⟩
          have em2 : ((t : Int)).fmod 2 = ((t % 2 : Nat) : Int) := by
            rw [Int.fmod_eq_emod_of_nonneg _ (by decide)]; omega
          by_cases c : t % 2 = 1
          · have es : sg t * s = -s := by unfold sg; rw [if_neg (by omega)]; omega
            refine iteY (by show V.int (((t : Int)).fmod 2) = V.int 1; rw [em2, c]; rfl) ⟨_, rfl, _, rfl, key _ _ ⟨rfl, by rw [es]; rfl⟩⟩
          · have es : sg t * s = s := by unfold sg; rw [if_pos (by omega)]; omega
            refine iteN (fun z => c (by have z' : V.int (((t : Int)).fmod 2) = V.int 1 := z; have := V.int.inj z'; rw [em2] at this; omega)) (key _ _ ⟨rfl, by rw [es]; rfl⟩)
        case h2 =>
          rintro σ HM ⟨rfl, rfl⟩
          refine ⟨_, rfl, _, rfl, _, rfl, p, ts, t, m', d, rfl, hT4, sq, ht', by omega, hBa.d0, bd, fun i j hi hj => bd_le hE9 (bB i j hi hj), fun q1 us H5 g5 n5 hU hv => ?_⟩
          have hT5 := hT4.same g5
          have at_t : atI (lrefs ts) (t : Int) = some (.ref ts[t].1) := by
            rw [atI_get_nat (by omega) (by rw [List.length_map]; omega)]
            simp
          have at0 := at_row (xs := ts[t].2) (j := 0) (by rw [sq.row _ (List.getElem_mem _)]; omega)
          rw [← mxL_at ht] at at0
          refine ⟨_, rfl, _, rfl, p, _, _, _, rfl, rfl, hT5.sql, at_t, ts[t].1, _, _, _, rfl, rfl, SqL.of (hT5.it ts[t] (List.getElem_mem _)), at0, _, _, rfl, ?_⟩
          obtain ⟨squ, hmx⟩ := lsn_mx hv
          have bs' : Bd 64 (sg t * s) := by
            refine Bd.le (y := s) ?_ bs
            rw [Int.natAbs_mul, sg_abs, Nat.one_mul]
            exact Nat.le_refl _
          refine ⟨⟨((g3.trans g4).trans g5), q1, us, sg t * s, mxL (lvals ts) t 0, _, m', rfl, hU, squ, bs', bd_le hE9 (bB t 0 ht' (by omega)), ?_⟩, ?_⟩
          · cases m' with
            | zero =>
              have : t = 0 := by omega
              subst this
              refine .inr ⟨rfl, ?_⟩
              have := hBa.fin
              have e1 : sg 0 = 1 := rfl
              rw [e1, Int.one_mul]; exact this
            | succ m2 =>
              refine .inl ⟨m2, k + 1, rfl, by omega, hBa.step ht' hnz fun a c ha hc => ?_⟩
              obtain ⟨qq, e⟩ := hBa.divides ht' hnz ha hc
              rw [hmx a c ha hc, e, Int.mul_fdiv_cancel_left _ hBa.d0]
          · show (match H5 q1 with | some (.lst xs) => xs.length | _ => 0) < m' + 1
            rw [hU.top]
            show (lrefs us).length < m' + 1
            rw [List.length_map, squ.len]
            omega
      · refine ⟨_, rfl, rfl, _, rfl, iteT ?_⟩
        have := hBa.none fun i hi => hz i (by rw [sq.len]; exact hi)
        rw [this] at q
        exact q H4 (g3.trans g4)
    · subst em
      have he : lvals ts = [] := by
        have := sq.len
        rw [List.length_eq_zero_iff] at this
        rw [this]; rfl
      refine iteNS he ?_
      refine ⟨_, rfl, _, rfl, _, _, rfl, rfl, bs.ok bd, ?_⟩
      show Q (.int (s * d)) _
      rw [hdet]
      exact q _ (g2.trans ke)
end
/-! ### promises of polynomials -/
def spTrim (K : PySem.W.Frag) : Sp := fun vs H Q _ => ∃ (a : Addr) (f : List Int), vs = [.ref a] ∧ SqL K H a (f.map V.int) ∧ f.length ≤ 1000 ∧ New H Q (trim f)
def spCoef (K : PySem.W.Frag) : Sp := fun vs H Q _ => ∃ (a : Addr) (f : List Int) (i : Nat), vs = [.ref a, .int i] ∧ SqL K H a (f.map V.int) ∧ Q (.int (coef f i)) H
def spAdd (K : PySem.W.Frag) : Sp := fun vs H Q _ => ∃ (a b : Addr) (f g : List Int), vs = [.ref a, .ref b] ∧ SqL K H a (f.map V.int) ∧ SqL K H b (g.map V.int) ∧ f.length ≤ 1000 ∧ g.length ≤ 1000 ∧ New H Q (padd f g)
def spScale (K : PySem.W.Frag) : Sp := fun vs H Q _ => ∃ (k : Int) (a : Addr) (f : List Int), vs = [.int k, .ref a] ∧ SqL K H a (f.map V.int) ∧ f.length ≤ 1000 ∧ Bd 64 k ∧ New H Q (trim (f.map fun x => k * x))
def spOff (K : PySem.W.Frag) : Sp := fun vs H Q _ => ∃ (a b : Addr) (f g : List Int), vs = [.ref a, .ref b] ∧ SqL K H a (f.map V.int) ∧ SqL K H b (g.map V.int) ∧ f.length ≤ 1000 ∧ g.length ≤ 1000 ∧ New H Q (padd f (trim (g.map fun x => -1 * x)))
def spMul (K : PySem.W.Frag) : Sp := fun vs H Q _ => ∃ (a b : Addr) (f g : List Int), vs = [.ref a, .ref b] ∧ SqL K H a (f.map V.int) ∧ SqL K H b (g.map V.int) ∧ f.length ≤ 1000 ∧ g.length ≤ 1000 ∧ Bds 1000000 f ∧ Bds 1000000 g ∧ New H Q (pmul f g)
theorem bd_mul {x y : Int} (hx : Bd 1000000 x) (hy : Bd 1000000 y) : CMulO x y := hx.ok hy
section
variable {P : Program} {w : World} {K : PySem.W.Frag} {mg : Str → Option Value} {base : Heap}
theorem ok_without_noughts_behind (B : Blt mg) (F : Src K mg "without_noughts_behind" s_without_noughts_behind ["numbers"]) : Dfn P w K mg base 1 "without_noughts_behind" ["numbers"] (spTrim K) := by
  refine F.ok sc_without_noughts_behind (fun vs H Q E h => ?_) (fun f cdv A outer s H vs Q E hr h => ?_)
  · obtain ⟨a, f, rfl, _⟩ := h; rfl
  obtain ⟨a, f, rfl, hS, hlen, q⟩ := h
  refine ⟨_, pss_cons (ps_set (i := 1) sc_without_noughts_behind.nd rfl (Or.inl rfl) (pe_callB (callK_len (K := K) rfl) rfl B.«len» bt_len (pa_cons (pv 0) pa_nil)))
    (pss_cons (ps_while PassesOwn.never (PW.pt (pw_and (pt_cmpR op_gt (pv 1) pe_int (nomark _)) (pw_and1 (pt_cmpR op_eq (pe_ix (ixK_list (K := K) rfl) (pv 0) (pe_op op_sub (pv 1) pe_int) (fun _ _ => rfl)) pe_int (nomark _)))))
      (pss_one (ps_aug (i := 1) sc_without_noughts_behind.nd rfl (Or.inl rfl) pe_int iop_sub)))
    (pss_one (ps_ret (pe_slice (slK_list (K := K) rfl) (pv 0) po_none (po_some (pv 1)))))), ?_⟩
  refine ⟨_, rfl, a, _, rfl, .inl hS, ?_⟩
  rw [List.length_map]
  have fin : ∀ (k : Nat) H2, Same H H2 → k ≤ f.length → tlen f f.length = tlen f k → tlen f k = k → SqL K H2 a (f.map V.int) → ∀ p, H2 p = none → Q (.ref p) (upd H2 p (.lst (cutV (f.map V.int) none (some (k : Int))))) := fun k H2 g hk e1 e2 hS2 p hp => by
    rw [cutV_take f k hk]
    refine q p _ (g.trans (same_new hp _)) (g.free hp) ?_
    unfold trim
    rw [e1, e2]
    exact upd_same
  refine while_in (fun σ H2 => H2 = H ∧ ∃ k : Nat, σ = [some (.ref a), some (.int k)] ∧ k ≤ f.length ∧ tlen f f.length = tlen f k) (fun σ _ => match σ with | [_, some (.int k)] => k.toNat | _ => 0) ⟨rfl, f.length, rfl, Nat.le_refl _, rfl⟩ ?_
  rintro σ H2 ⟨rfl, k, rfl, hk, ht⟩
  refine ⟨_, rfl, _, _, rfl, rfl, _, rfl, ite2 (fun c => ?_) (fun c => ?_)⟩
  · have c' : (0 : Int) < k := of_decide_eq_true c
    obtain ⟨m, rfl⟩ : ∃ m, k = m + 1 := ⟨k - 1, by omega⟩
    refine ⟨_, rfl, _, rfl, _, _, rfl, rfl, a, _, _, _, rfl, rfl, hS, atI_int (by omega) (by omega), rfl, _, rfl, ?_⟩
    have em : (((m + 1 : Nat) : Int) - 1).toNat = m := by omega
    rw [em]
    refine ite2 (fun c => ?_) (fun c => ?_)
    · have c2 : coef f m = 0 := V.int.inj (of_decide_eq_true c)
      refine win ⟨_, rfl, _, _, rfl, rfl, ⟨rfl, m, ?_, by omega, ?_⟩, ?_⟩
      · have e : ((m + 1 : Nat) : Int) - 1 = (m : Int) := by omega
        show [some (V.ref a), some (V.int (((m + 1 : Nat) : Int) - 1))] = _
        rw [e]
      · exact ht.trans (by show (if coef f m = 0 then tlen f m else m + 1) = _; rw [if_pos c2])
      · show (((m + 1 : Nat) : Int) - 1).toNat < (((m + 1 : Nat) : Int)).toNat
        omega
    · have c2 : coef f m ≠ 0 := fun z => c (decide_eq_true (congrArg V.int z))
      exact ⟨_, rfl, _, rfl, _, rfl, a, _, rfl, hS, fin (m + 1) _ (Same.refl _) hk ht (by show (if coef f m = 0 then tlen f m else m + 1) = _; rw [if_neg c2]) hS⟩
  · have c' : k = 0 := by
      have : ¬ (0 : Int) < k := fun z => c (decide_eq_true z)
      omega
    subst c'
    refine iteF ?_
    exact ⟨_, rfl, _, rfl, _, rfl, a, _, rfl, hS, fin 0 _ (Same.refl _) hk ht rfl hS⟩
end
section
variable {P : Program} {w : World} {K : PySem.W.Frag} {mg : Str → Option Value} {base : Heap}
theorem ok_coefficient (B : Blt mg) (F : Src K mg "coefficient" s_coefficient ["f", "place"]) : Dfn P w K mg base 1 "coefficient" ["f", "place"] (spCoef K) := by
  refine F.ok sc_coefficient (fun vs H Q E h => ?_) (fun f cdv A outer s H vs Q E hr h => ?_)
  · obtain ⟨a, f, i, rfl, _⟩ := h; rfl
  obtain ⟨a, f, i, rfl, hS, q⟩ := h
  refine ⟨_, pss_one (ps_ret (pe_ifExp (pt_cmpR op_lt (pv 1) (pe_callB (callK_len (K := K) rfl) rfl B.«len» bt_len (pa_cons (pv 0) pa_nil)) (nomark _)) (pe_ix (ixK_list (K := K) rfl) (pv 0) (pv 1) (fun _ _ => rfl)) pe_int)), ?_⟩
  refine ⟨_, rfl, _, rfl, a, _, rfl, .inl hS, _, _, rfl, rfl, _, rfl, ?_⟩
  rw [List.length_map]
  refine ite2 (fun c => ?_) (fun c => ?_)
  · have c' : (i : Int) < (f.length : Nat) := of_decide_eq_true c
    refine ⟨_, rfl, _, rfl, a, _, _, _, rfl, rfl, hS, atI_int (by omega) (by omega), ?_⟩
    rw [Int.toNat_natCast]
    exact q
  · have c' : ¬ (i : Int) < (f.length : Nat) := fun z => c (decide_eq_true z)
    rw [coef_ge (by omega)] at q
    exact q
end
section
variable {P : Program} {w : World} {K : PySem.W.Frag} {mg : Str → Option Value} {base : Heap}
theorem ok_multiplied (B : Blt mg) (F : Src K mg "multiplied" s_multiplied ["f", "g"]) : Dfn P w K mg base 1 "multiplied" ["f", "g"] (spMul K) := by
  refine F.ok sc_multiplied (fun vs H Q E h => ?_) (fun f cdv A outer s H vs Q E hr h => ?_)
  · obtain ⟨a, b, f, g, rfl, _⟩ := h; rfl
  obtain ⟨a, b, f, g, rfl, ha, hb, lf, lg, bf, bg, q⟩ := h
  refine ⟨_, pss_cons (ps_if (PW.pt (pw_or (pt_cmpR (opK_eqD (K := K) rfl hr.units) (pv 0) (pe_lst pa_nil) (nomark _)) (pw_or1 (pt_cmpR (opK_eqD (K := K) rfl hr.units) (pv 1) (pe_lst pa_nil) (nomark _)))))
      (pss_one (ps_ret (pe_lst pa_nil)))
      (pss_nil))
    (pss_cons (ps_set (i := 2) sc_multiplied.nd rfl (Or.inl rfl) (pe_op op_rep (pe_lst (pa_cons pe_int pa_nil)) (pe_op op_sub (pe_op op_add (pe_callB (callK_len (K := K) rfl) rfl B.«len» bt_len (pa_cons (pv 0) pa_nil)) (pe_callB (callK_len (K := K) rfl) rfl B.«len» bt_len (pa_cons (pv 1) pa_nil))) pe_int)))
    (pss_cons (ps_for PassesOwn.never rfl (piK_enum (K := K) rfl rfl B.«enumerate» (pa_cons (pv 0) pa_nil)) (pgK_tup (n := 2) (K := K) rfl rfl (pgs_cons (pg_name (i := 3) sc_multiplied.nd rfl (Or.inl rfl)) (pgs_cons (pg_name (i := 4) sc_multiplied.nd rfl (Or.inl rfl)) pgs_nil)))
      (pss_one (ps_for PassesOwn.never rfl (piK_enum (K := K) rfl rfl B.«enumerate» (pa_cons (pv 1) pa_nil)) (pgK_tup (n := 2) (K := K) rfl rfl (pgs_cons (pg_name (i := 5) sc_multiplied.nd rfl (Or.inl rfl)) (pgs_cons (pg_name (i := 6) sc_multiplied.nd rfl (Or.inl rfl)) pgs_nil)))
        (pss_one (ps_augS (pv 2) (pe_op op_add (pv 3) (pv 5)) (getK_list (K := K) rfl) (pe_op op_mulO (pv 4) (pv 6)) ip_add set_list)))))
    (pss_one (ps_ret (pv 2))))), ?_⟩
  have nilq : f = [] ∨ g = [] → ∀ H2, Same H H2 → ∀ p, H2 p = none → Q (.ref p) (upd H2 p (.lst [])) := fun hn H2 g2 p hp => by
    have e : pmul f g = [] := by unfold pmul; rw [if_pos hn]
    refine q p _ (g2.trans (same_new hp _)) (g2.free hp) ?_
    rw [e]
    exact upd_same
  refine ⟨_, rfl, len_ok rfl, fun p1 n1 => ?_⟩
  have g1 := same_new n1 (.lst [])
  refine eqL (xs := f) (ys := []) (g1.seq ha) (SqL.of upd_same) ⟨_, rfl, ite2 (fun c => ?_) (fun c => ?_)⟩
  · refine iteT ?_
    exact ⟨len_ok rfl, nilq (.inl (of_decide_eq_true c)) _ g1⟩
  have hf : f ≠ [] := fun z => c (decide_eq_true z)
  refine ⟨_, rfl, len_ok rfl, fun p2 n2 => ?_⟩
  have g2 := g1.trans (same_new n2 (.lst []))
  refine eqL (xs := g) (ys := []) (g2.seq hb) (SqL.of upd_same) ⟨_, rfl, ite2 (fun c => ?_) (fun c => ?_)⟩
  · exact ⟨len_ok rfl, nilq (.inr (of_decide_eq_true c)) _ g2⟩
  have hg : g ≠ [] := fun z => c (decide_eq_true z)
  have l1 : 0 < f.length := List.length_pos_iff.mpr hf
  have l2 : 0 < g.length := List.length_pos_iff.mpr hg
  refine ⟨len_ok rfl, fun p3 n3 => ?_⟩
  have g3 := g2.trans (same_new n3 (.lst [.int 0]))
  refine ⟨_, rfl, a, _, rfl, .inl (g3.seq ha), _, rfl, b, _, rfl, .inl (g3.seq hb), ?_⟩
  rw [List.length_map, List.length_map]
  have en : ((f.length : Int) + (g.length : Int) - 1) = ((f.length + g.length - 1 : Nat) : Int) := by omega
  refine ⟨_, _, rfl, rfl, _, _, rfl, rfl, p3, _, _, rfl, rfl, upd_same, by omega, by omega, ?_, fun p hp => ?_⟩
  · rw [sizeLine_eq]; show 1 * _ ≤ _; omega
  rw [en, Int.toNat_natCast, rep_zero]
  have g4 := g3.trans (same_new hp (.lst ((List.replicate (f.length + g.length - 1) (0 : Int)).map V.int)))
  have f4 : H p = none := g3.free hp
  refine ⟨_, rfl, a, rfl, ⟨_, g4.seq ha⟩, for_enum (st := 0) (xs := f.map V.int) (fun i σ H2 => Same H H2 ∧ ∃ (P : List Int) (o1 o2 o3 o4 : Option V), σ = [some (.ref a), some (.ref b), some (.ref p), o1, o2, o3, o4] ∧ H2 p = some (.lst (P.map V.int)) ∧ P.length = f.length + g.length - 1 ∧ ∀ m, m < P.length → coef P m = rowS f g i m)
    ⟨g4, _, _, _, _, _, rfl, upd_same, by simp, fun m hm => coef_replicate _ _⟩ ?_ ?_ ?_⟩
  · rintro i σ H2 hi ⟨gg, _⟩
    exact gg.seq ha
  · rintro i x σ H2 r hx ⟨gg, P, o1, o2, o3, o4, rfl, eP, lP, hP⟩ hr'
    obtain ⟨fi, hfi, rfl⟩ := map_int_get hx
    have hi : i < f.length := (List.getElem?_eq_some_iff.mp hfi).1
    have efi : coef f i = fi := coef_get hfi
    have gr := same_new hr' (.tup [.int ((0 + i : Nat) : Int), .int fi])
    refine ⟨r, _, rfl, SqT.of upd_same, rfl, _, _, rfl, _, _, rfl, rfl, ?_⟩
    refine ⟨_, rfl, b, rfl, ⟨_, (gg.trans gr).seq hb⟩, for_enum (st := 0) (xs := g.map V.int) (fun j σ H2 => Same H H2 ∧ ∃ (P : List Int) (o3 o4 : Option V), σ = [some (.ref a), some (.ref b), some (.ref p), some (.int ((0 + i : Nat) : Int)), some (.int fi), o3, o4] ∧ H2 p = some (.lst (P.map V.int)) ∧ P.length = f.length + g.length - 1 ∧ ∀ m, m < P.length → coef P m = cellS f g i j m)
      ⟨gg.trans gr, P, _, _, rfl, gr _ _ eP, lP, fun m hm => by rw [cellS_zero]; exact hP m hm⟩ ?_ ?_ ?_⟩
    · rintro j σ H3 hj ⟨gg, _⟩
      exact gg.seq hb
    · rintro j y σ H3 r2 hy ⟨gg, P, o3, o4, rfl, eP, lP, hP⟩ hr2
      obtain ⟨gj, hgj, rfl⟩ := map_int_get hy
      have hj : j < g.length := (List.getElem?_eq_some_iff.mp hgj).1
      have egj : coef g j = gj := coef_get hgj
      have gr2 := same_new hr2 (.tup [.int ((0 + j : Nat) : Int), .int gj])
      refine ⟨r2, _, rfl, SqT.of upd_same, rfl, _, _, rfl, _, _, rfl, rfl, ?_⟩
      have eij : (((0 + i : Nat) : Int) + ((0 + j : Nat) : Int)) = ((i + j : Nat) : Int) := by omega
      have hij : i + j < P.length := by omega
      have eP2 := gr2 _ _ eP
      refine ⟨_, rfl, _, rfl, _, rfl, _, _, rfl, rfl, p, _, _, .int (coef P (i + j)), rfl, rfl, SqL.of eP2, by omega, ?_, ?_⟩
      · rw [eij, Int.toNat_natCast]; exact map_int_at hij
      refine ⟨_, rfl, _, rfl, _, _, rfl, rfl, bd_mul (by rw [← efi]; exact bf.coef i) (by rw [← egj]; exact bg.coef j), _, _, rfl, rfl, p, _, _, i + j, rfl, rfl, eP2, ?_, ?_⟩
      · rw [eij, List.length_map]; exact ixN_nat (by omega) (by omega)
      refine ⟨(gg.trans gr2).free_upd f4 _, P.set (i + j) (coef P (i + j) + fi * gj), _, _, rfl, ?_, by rw [List.length_set]; exact lP, fun m hm => ?_⟩
      · rw [map_int_set]; exact upd_same
      · rw [List.length_set] at hm
        rw [coef_set hij, cellS_step, hP m hm, ← efi, ← egj]
        split
        · rename_i h; subst h; rw [hP _ hm]
        · rfl
    · rintro σ H3 ⟨gg, P, o3, o4, rfl, eP, lP, hP⟩
      refine ⟨gg, P, _, _, _, _, rfl, eP, lP, fun m hm => ?_⟩
      rw [← cellS_end]
      have := hP m hm
      rw [List.length_map] at this
      exact this
  · rintro σ H2 ⟨gg, P, o1, o2, o3, o4, rfl, eP, lP, hP⟩
    refine ⟨_, rfl, q p H2 gg f4 ?_⟩
    have e : P = pmul f g := by
      refine ext_coef ?_ fun m hm => ?_
      · unfold pmul; rw [if_neg (by rintro (z | z); exact hf z; exact hg z), List.length_map, List.length_range]; exact lP
      · rw [coef_pmul, hP m hm, List.length_map]; rfl
    rw [← e]
    exact eP
end
section
variable {K : PySem.W.Frag}
theorem len_padd (f g : List Int) : (padd f g).length ≤ max f.length g.length := by
  unfold padd
  rw [trim_length]
  refine Nat.le_trans (tlen_le _ _) ?_
  unfold addc
  rw [List.length_map, List.length_range]
  exact Nat.le_refl _
theorem len_trim (f : List Int) : (trim f).length ≤ f.length := by rw [trim_length]; exact tlen_le _ _
theorem len_pmul (f g : List Int) : (pmul f g).length ≤ f.length + g.length := by
  unfold pmul
  split
  · exact Nat.zero_le _
  · rw [List.length_map, List.length_range]; omega
/-- a tuple of two lists of whole numbers -/
theorem den_pair {H : Hp} {t a b : Addr} {f g : List Int} (ht : SqT K H t [.ref a, .ref b]) (ha : SqL K H a (f.map V.int)) (hb : SqL K H b (g.map V.int)) : Den K H (.ref t) (.tuple [dI f, dI g]) :=
  .tup ht rfl fun i x d h1 h2 => by
    match i with
    | 0 => cases h1; cases h2; exact den_lst ha (scalDs_ints _)
    | 1 => cases h1; cases h2; exact den_lst hb (scalDs_ints _)
    | n + 2 => simp at h1
theorem fl_pair (f g : List Int) : Fl 2 (.tuple [dI f, dI g]) := .tup fun d hd => by
  simp only [List.mem_cons, List.not_mem_nil, or_false] at hd
  rcases hd with rfl | rfl
  · exact fl_ints f
  · exact fl_ints g
end
def spDer (K : PySem.W.Frag) : Sp := fun vs H Q _ => ∃ (a : Addr) (f : List Int), vs = [.ref a] ∧ SqL K H a (f.map V.int) ∧ f.length ≤ 1000 ∧ New H Q (dl f)
section
variable {P : Program} {w : World} {K : PySem.W.Frag} {mg : Str → Option Value} {base : Heap}
theorem ok_derived (B : Blt mg) (F : Src K mg "derived" s_derived ["f"]) : Dfn P w K mg base 1 "derived" ["f"] (spDer K) := by
  refine F.ok sc_derived (fun vs H Q E h => ?_) (fun f cdv A outer s H vs Q E hr h => ?_)
  · obtain ⟨a, f, rfl, _⟩ := h; rfl
  obtain ⟨a, f, rfl, ha, lf, q⟩ := h
  refine ⟨_, pss_one (ps_ret (pe_slice (slK_list (K := K) rfl) (pe_comp (compScope_mk (N := ["at", "part"]) (sl := [none, none]) (defScope s_derived) ["f"] rfl rfl (by decide +kernel)) rfl (piK_enum (K := K) rfl rfl B.«enumerate» (pa_cons (pv 0) pa_nil)) (fun _ _ _ _ _ => (pgK_tup (n := 2) (K := K) rfl rfl (pgs_cons (pg_name (i := 0) (by show List.Nodup (["at", "part"] : List Str); decide +kernel) rfl (Or.inl rfl)) (pgs_cons (pg_name (i := 1) (by show List.Nodup (["at", "part"] : List Str); decide +kernel) rfl (Or.inl rfl)) pgs_nil)))) (fun _ _ _ _ _ => pif_none) (fun _ _ _ _ _ => (pe_op op_mulO (pv 0) (pv 1)))) (po_some pe_int) po_none)), ?_⟩
  refine ⟨_, rfl, a, rfl, ⟨_, ha⟩, fun D hD => ?_⟩
  refine comp_enum (st0 := 0) (xs := f.map V.int) (fun i ys H2 => Same H H2 ∧ ys = ((List.range i).map fun i : Nat => (i : Int) * coef f i).map V.int) ⟨same_new hD _, rfl⟩ (fun i ys H2 _ h => h.1.seq ha) ?_ ?_
  · rintro i m x ys H2 r hm hi hx hy hlen ⟨gg, rfl⟩ hr'
    obtain ⟨n, hn, rfl⟩ := map_int_get hx
    have kr := same_new hr' (.tup [.int ((0 + i : Nat) : Int), .int n])
    rw [List.length_map] at hi
    refine ⟨r, _, rfl, SqT.of upd_same, rfl, _, _, rfl, _, _, rfl, rfl, ?_⟩
    refine ⟨_, rfl, _, rfl, _, _, rfl, rfl, mulOkL (by omega) (by omega), ?_⟩
    refine CW.emit hm (by rw [List.length_map]; exact hi) (by rw [List.length_map, sizeLine_eq]; omega) (kr _ _ hy) hlen ⟨Same.free_upd (gg.trans kr) hD _, ?_⟩
    rw [List.range_succ, List.map_append, List.map_append]
    have e : ((0 + i : Nat) : Int) = (i : Int) := by omega
    show _ ++ [V.int (((0 + i : Nat) : Int) * n)] = _ ++ [V.int ((i : Int) * coef f i)]
    rw [e, coef_get hn]
  · rintro ys H2 hy ⟨gg, rfl⟩
    rw [List.length_map] at hy
    refine ⟨_, rfl, D, _, rfl, SqL.of hy, fun p hp => ?_⟩
    refine q p _ (gg.trans (same_new hp _)) (gg.free hp) ?_
    rw [upd_same]
    congr 2
    have e1 : cutV (((List.range f.length).map fun i : Nat => (i : Int) * coef f i).map V.int) (some 1) none = (((List.range f.length).map fun i : Nat => (i : Int) * coef f i).drop 1).map V.int := by
      unfold cutV
      have h1 : HT.sIx (((List.range f.length).map fun i : Nat => (i : Int) * coef f i).map V.int).length 0 (some 1) = min 1 f.length := by
        have := HT.sIx_nat (((List.range f.length).map fun i : Nat => (i : Int) * coef f i).map V.int).length 0 1
        rw [List.length_map, List.length_map, List.length_range] at this ⊢
        exact this
      have h2 : HT.sIx (((List.range f.length).map fun i : Nat => (i : Int) * coef f i).map V.int).length (((List.range f.length).map fun i : Nat => (i : Int) * coef f i).map V.int).length none = f.length := by
        rw [List.length_map, List.length_map, List.length_range]; rfl
      rw [h1, h2, List.take_of_length_le (by rw [List.length_drop, List.length_map, List.length_map, List.length_range]; exact Nat.le_refl _)]
      by_cases hz : f.length = 0
      · rw [hz]; rfl
      · rw [Nat.min_eq_left (by omega), List.map_drop]
    rw [e1]
    congr 1
    refine ext_coef ?_ fun i hi => ?_
    · unfold dl; rw [List.length_drop, List.length_map, List.length_range, List.length_map, List.length_range]
    · rw [List.length_drop, List.length_map, List.length_range] at hi
      rw [coef_dl, coef_lt (by rw [List.length_drop, List.length_map, List.length_range]; exact hi)]
      simp
end
/-! ### quotient and rest -/
/-- a new tuple of two new lists is told -/
def NewQR (H : Hp) (Q : VK) (q r : List Int) : Prop := ∀ t a b H', Same H H' → H a = none → H b = none → a ≠ b → H' t = some (.tup [.ref a, .ref b]) → H' a = some (.lst (q.map V.int)) → H' b = some (.lst (r.map V.int)) → Q (.ref t) H'
def spDiv (K : PySem.W.Frag) : Sp := fun vs H Q _ => ∃ (a b : Addr) (f g : List Int) (m n : Nat), vs = [.ref a, .ref b] ∧ SqL K H a (f.map V.int) ∧ SqL K H b (g.map V.int) ∧ f.length ≤ 1000 ∧ g.length ≤ 1000 ∧ Monic g ∧ Bds m f ∧ Bds n g ∧ m + f.length * (n + 2) ≤ 1000000 ∧
  ∀ q r, IsDiv f g q r → Bds (m + f.length * (n + 2)) q → Bds (m + f.length * (n + 2)) r → NewQR H Q q r
section
variable {P : Program} {w : World} {K : PySem.W.Frag} {mg : Str → Option Value} {base : Heap}
theorem ok_divided (B : Blt mg) (d_without_noughts_behind : Dfn P w K mg base 1 "without_noughts_behind" ["numbers"] (spTrim K)) (F : Src K mg "divided" s_divided ["f", "g"]) : Dfn P w K mg base 2 "divided" ["f", "g"] (spDiv K) := by
  refine F.ok sc_divided (fun vs H Q E h => ?_) (fun f cdv A outer s H vs Q E hr h => ?_)
  · obtain ⟨a, b, f, g, m, n, rfl, _⟩ := h; rfl
  obtain ⟨a, b, f, g, mB, nB, rfl, ha, hb, lf, lg, hg, bf, bg, hB, q⟩ := h
  have hgl : 0 < g.length := List.length_pos_iff.mpr hg.1
  refine ⟨_, pss_cons (ps_set (i := 2) sc_divided.nd rfl (Or.inl rfl) (pe_callTy call_list_of rfl B.«list» bt_list (pa_cons (pv 0) pa_nil)))
    (pss_cons (ps_set (i := 3) sc_divided.nd rfl (Or.inl rfl) (pe_lst pa_nil))
    (pss_cons (ps_set (i := 4) sc_divided.nd rfl (Or.inl rfl) (pe_op op_sub (pe_callB (callK_len (K := K) rfl) rfl B.«len» bt_len (pa_cons (pv 1) pa_nil)) pe_int))
    (pss_cons (ps_for PassesOwn.never rfl (pi_revR rfl B.«reversed» (pa_cons (pe_range rfl B.«range» (pa_cons (pe_op op_sub (pe_callB (callK_len (K := K) rfl) rfl B.«len» bt_len (pa_cons (pv 0) pa_nil)) (pv 4)) pa_nil)) pa_nil)) (pg_name (i := 5) sc_divided.nd rfl (Or.inl rfl))
      (pss_cons (ps_set (i := 6) sc_divided.nd rfl (Or.inl rfl) (pe_ix (ixK_list (K := K) rfl) (pv 2) (pe_op op_add (pv 5) (pv 4)) (fun _ _ => rfl)))
      (pss_cons (ps_expr (pe_bm PySem.F.plainAttrs_list PySem.F.slot_list_append PySem.F.type_list_append mt_append (pv 3) (pa_cons (pv 6) pa_nil)))
      (pss_one (ps_for PassesOwn.never rfl (piK_enum (K := K) rfl rfl B.«enumerate» (pa_cons (pv 1) pa_nil)) (pgK_tup (n := 2) (K := K) rfl rfl (pgs_cons (pg_name (i := 7) sc_divided.nd rfl (Or.inl rfl)) (pgs_cons (pg_name (i := 8) sc_divided.nd rfl (Or.inl rfl)) pgs_nil)))
        (pss_one (ps_augS (pv 2) (pe_op op_add (pv 5) (pv 7)) (getK_list (K := K) rfl) (pe_op op_mulO (pv 6) (pv 8)) ip_sub set_list)))))))
    (pss_cons (ps_expr (pe_bm0 PySem.F.plainAttrs_list PySem.F.slot_list_reverse PySem.F.type_list_reverse mt_reverse (pv 3) ))
    (pss_one (ps_ret (pe_tup (pa_cons (pv 3) (pa_cons (pe_def d_without_noughts_behind hr (pa_cons (pv 2) pa_nil)) pa_nil))))))))), ?_⟩
  refine ⟨_, rfl, a, _, rfl, .inl ha, fun p1 n1 => ?_⟩
  have k1 := same_new n1 (.lst (f.map V.int))
  refine ⟨len_ok rfl, fun p2 n2 => ?_⟩
  have k2 := same_new n2 (.lst [])
  have g2 := k1.trans k2
  have f2 : H p2 = none := k1.free n2
  have hne : p1 ≠ p2 := ne_of_none upd_same n2
  refine ⟨_, rfl, b, _, rfl, .inl (g2.seq hb), _, _, rfl, rfl, ?_⟩
  rw [List.length_map]
  refine ⟨_, rfl, a, _, rfl, .inl (g2.seq ha), ?_⟩
  rw [List.length_map]
  refine ⟨_, rfl, _, _, rfl, rfl, _, rfl, fun p3 n3 => ?_⟩
  have k3 := same_new n3 (.rng 0 ((f.length : Int) - ((g.length : Int) - 1)))
  have g3 := g2.trans k3
  obtain ⟨N, hN⟩ : ∃ N, N = f.length - (g.length - 1) := ⟨_, rfl⟩
  have eN : ((f.length : Int) - ((g.length : Int) - 1)).toNat = N := by omega
  refine ⟨p3, _, rfl, upd_same, by omega, by omega, ?_⟩
  rw [eN]
  refine for_down (fun i σ H2 => Same H H2 ∧ ∃ (Qr R : List Int) (o1 o2 o3 o4 : Option V), σ = [some (.ref a), some (.ref b), some (.ref p1), some (.ref p2), some (.int ((g.length : Int) - 1)), o1, o2, o3, o4] ∧ H2 p2 = some (.lst (Qr.map V.int)) ∧ H2 p1 = some (.lst (R.map V.int)) ∧ DivSo f g N i Qr R ∧ Bds (mB + i * (nB + 2)) R ∧ Bds (mB + i * (nB + 2)) Qr)
    ⟨g3, [], f, _, _, _, _, rfl, k3 _ _ upd_same, k3 _ _ (k2 _ _ upd_same), ⟨rfl, rfl, fun m hm => ?_, fun m h1 h2 => by omega, fun h => absurd h (by decide)⟩, bf.mono (by omega), fun x hx => by simp at hx⟩ ?_ ?_
  · have hz : conv (qSo N 0 []) g m = 0 := by
      rw [conv_congr (f' := []) (g' := g) (fun a => ?_) (fun _ => rfl)]
      · rfl
      · unfold qSo
        rw [List.reverse_nil, List.append_nil, coef_replicate, coef_nil]
    rw [hz]; omega
  · rintro i σ H2 hi ⟨gg, Qr, R, o1, o2, o3, o4, rfl, eQ, eR, D, bR, bQ⟩
    have lr := D.lr
    have lq := D.lq
    have hN1 : N ≤ f.length := by omega
    have et : ((f.length : Int) - ((g.length : Int) - 1) - 1 - (i : Int)) = ((N - 1 - i : Nat) : Int) := by omega
    rw [et]
    have ep : (((N - 1 - i : Nat) : Int) + ((g.length : Int) - 1)) = ((N - 1 - i + (g.length - 1) : Nat) : Int) := by omega
    refine ⟨_, rfl, _, rfl, _, rfl, _, _, rfl, rfl, p1, _, _, _, rfl, rfl, SqL.of eR, atI_int (by omega) (by omega), ?_⟩
    rw [ep, Int.toNat_natCast]
    generalize hlead : coef R (N - 1 - i + (g.length - 1)) = lead
    have blead : Bd (mB + i * (nB + 2)) lead := hlead ▸ bR.coef _
    refine ⟨_, rfl, .inl ⟨rfl, _, SqL.of eQ⟩, _, rfl, p2, _, _, rfl, rfl, eQ, by rw [List.length_map, sizeLine_eq]; omega, ?_⟩
    have g4 : Same H (upd H2 p2 (.lst (Qr.map V.int ++ [V.int lead]))) := gg.free_upd f2 _
    have hR4 : upd H2 p2 (.lst (Qr.map V.int ++ [V.int lead])) p1 = some (.lst (R.map V.int)) := by rw [upd_ne hne]; exact eR
    have hmul : (i + 1) * (nB + 2) = i * (nB + 2) + (nB + 2) := by rw [Nat.add_mul, Nat.one_mul]
    have hle : (i + 1) * (nB + 2) ≤ f.length * (nB + 2) := Nat.mul_le_mul_right _ (by omega)
    refine ⟨_, rfl, b, rfl, ⟨_, g4.seq hb⟩, for_enum (st := 0) (xs := g.map V.int) (fun j σ H3 => Same H H3 ∧ ∃ (R' : List Int) (o3 o4 : Option V), σ = [some (.ref a), some (.ref b), some (.ref p1), some (.ref p2), some (.int ((g.length : Int) - 1)), some (.int ((N - 1 - i : Nat) : Int)), some (.int lead), o3, o4] ∧ H3 p2 = some (.lst ((Qr ++ [lead]).map V.int)) ∧ H3 p1 = some (.lst (R'.map V.int)) ∧ RIn g R R' (N - 1 - i) lead j ∧ Bds (mB + (i + 1) * (nB + 2)) R')
      ⟨g4, R, _, _, rfl, by rw [← map_int_snoc]; exact upd_same, hR4, RIn.start .., bR.mono (by omega)⟩ ?_ ?_ ?_⟩
    · rintro j σ H3 hj ⟨gg, _⟩
      exact gg.seq hb
    · rintro j y σ H3 r2 hy ⟨gg, R', o3, o4, rfl, eQ3, eR3, hR, bR'⟩ hr2
      obtain ⟨gj, hgj, rfl⟩ := map_int_get hy
      have hj : j < g.length := (List.getElem?_eq_some_iff.mp hgj).1
      have egj : coef g j = gj := coef_get hgj
      have gr2 := same_new hr2 (.tup [.int ((0 + j : Nat) : Int), .int gj])
      refine ⟨r2, _, rfl, SqT.of upd_same, rfl, _, _, rfl, _, _, rfl, rfl, ?_⟩
      have eij : (((N - 1 - i : Nat) : Int) + ((0 + j : Nat) : Int)) = ((N - 1 - i + j : Nat) : Int) := by omega
      have hij : N - 1 - i + j < R.length := by omega
      have hij' : N - 1 - i + j < R'.length := by rw [hR.1]; exact hij
      have eR4 := gr2 _ _ eR3
      have bgj : Bd nB gj := egj ▸ bg.coef j
      refine ⟨_, rfl, _, rfl, _, rfl, _, _, rfl, rfl, p1, _, _, .int (coef R' (N - 1 - i + j)), rfl, rfl, SqL.of eR4, by omega, ?_, ?_⟩
      · rw [eij, Int.toNat_natCast]; exact map_int_at hij'
      refine ⟨_, rfl, _, rfl, _, _, rfl, rfl, bd_mul (blead.mono (by omega)) (bgj.mono (by omega)), _, _, rfl, rfl, p1, _, _, N - 1 - i + j, rfl, rfl, eR4, ?_, ?_⟩
      · rw [eij, List.length_map]; exact ixN_nat (by omega) (by omega)
      have hstep := hR.step (t := N - 1 - i) hij
      rw [egj] at hstep
      refine ⟨(gg.trans gr2).free_upd n1 _, R'.set (N - 1 - i + j) (coef R' (N - 1 - i + j) - lead * gj), _, _, rfl, ?_, ?_, hstep, bds_of fun m hm => ?_⟩
      · rw [upd_ne (Ne.symm hne)]; exact gr2 _ _ eQ3
      · rw [map_int_set]; exact upd_same
      · rw [coef_set hij']
        split
        · have hmR : N - 1 - i + j < R.length := hij
          have e1 := hR.2 (N - 1 - i + j) hmR
          rw [if_neg (by omega)] at e1
          rw [e1]
          have b1 : Bd (mB + i * (nB + 2)) (coef R (N - 1 - i + j) - 0) := by rw [Int.sub_zero]; exact bR.coef _
          exact (b1.sub (blead.mul bgj)).mono (by omega)
        · exact bR'.coef m
    · rintro σ H3 ⟨gg, R', o3, o4, rfl, eQ3, eR3, hR, bR'⟩
      rw [List.length_map] at hR
      rw [← hlead] at hR
      refine ⟨gg, Qr ++ [lead], R', _, _, _, _, rfl, eQ3, eR3, ?_, bR', (bQ.mono (by omega)).snoc (blead.mono (by omega))⟩
      have := D.next hg hN hi hR
      rw [hlead] at this
      exact this
  · rintro σ H2 ⟨gg, Qr, R, o1, o2, o3, o4, rfl, eQ, eR, D, bR, bQ⟩
    have lr := D.lr
    have hle : N * (nB + 2) ≤ f.length * (nB + 2) := Nat.mul_le_mul_right _ (by omega)
    refine ⟨_, rfl, .inl ⟨rfl, _, SqL.of eQ⟩, p2, _, rfl, rfl, eQ, ?_⟩
    have hrv : (Qr.map V.int).reverse = Qr.reverse.map V.int := by rw [List.map_reverse]
    rw [hrv]
    have g5 : Same H (upd H2 p2 (.lst (Qr.reverse.map V.int))) := gg.free_upd f2 _
    have hR5 : upd H2 p2 (.lst (Qr.reverse.map V.int)) p1 = some (.lst (R.map V.int)) := by rw [upd_ne hne]; exact eR
    refine ⟨_, rfl, _, rfl, p1, R, rfl, SqL.of hR5, by omega, fun p6 H6 g6 n6 e6 => ⟨len_ok rfl, fun p7 n7 => ?_⟩⟩
    have k7 := same_new n7 (.tup [.ref p2, .ref p6])
    have e2 := g6 _ _ (show upd H2 p2 (.lst (Qr.reverse.map V.int)) p2 = some (.lst (Qr.reverse.map V.int)) from upd_same)
    refine q Qr.reverse (trim R) (D.done hg hN) (fun x hx => (bQ x (List.mem_reverse.mp hx)).mono (by omega)) (bR.trim.mono (by omega)) p7 p2 p6 _ ((g5.trans g6).trans k7) f2 (g5.free n6) ?_ upd_same (k7 _ _ e2) (k7 _ _ e6)
    exact ne_of_none (show upd H2 p2 (.lst (Qr.reverse.map V.int)) p2 = some (.lst (Qr.reverse.map V.int)) from upd_same) n6
end
/-! ### resultants -/
def rr (f : Fn) (n : Nat) (g : Fn) (L : Nat) : Nat → Fn := fun i c => sgm L fun k => g k * tk f n (k + i) c
theorem tk_next {f : Fn} {n : Nat} (hf : Top f n) (hn : 1 ≤ n) (k : Nat) : Rst f n (cv (xp 1) (tk f n k)) (tk f n (k + 1)) := by
  refine ⟨⟨fun i => if i = 0 then tk f n k (n - 1) else 0, 1, fun m hm => if_neg (by omega), fun m => ?_⟩, tk_lo hf hn (k + 1)⟩
  have e1 : cv (fun i => if i = 0 then tk f n k (n - 1) else 0) f m = tk f n k (n - 1) * f m := cv_unit (if_pos rfl) (fun i hi => if_neg (by omega)) m
  rw [e1, cv_xp]
  show _ = _ + ((if m = 0 then 0 else tk f n k (m - 1)) - tk f n k (n - 1) * f m)
  by_cases c : 1 ≤ m
  · rw [if_pos c, if_neg (by omega)]; omega
  · rw [if_neg c, if_pos (by omega)]; omega
theorem rows_rr {f : Fn} {n : Nat} (hf : Top f n) (hn : 1 ≤ n) {g : Fn} {L : Nat} (hg : ∀ m, L ≤ m → g m = 0) : Rows f n g (rr f n g L) := by
  refine ⟨?_, fun i => ?_⟩
  · have e : g = fun c => sgm L fun k => g k * xp (k + 0) c := by
      funext c
      rw [sgm_sumN]
      by_cases y : c < L
      · rw [sumN_one (k := c) y fun k hk hne => by unfold xp; rw [if_neg (by omega), Int.mul_zero]]
        unfold xp
        rw [if_pos (by omega), Int.mul_one]
      · rw [hg _ (by omega), sumN_zero fun k hk => by unfold xp; rw [if_neg (by omega), Int.mul_zero]]
    have := Rst.sum (f := f) (n := n) (u := fun k => xp (k + 0)) (r := fun k => tk f n (k + 0)) g L fun k _ => tk_rst hf hn (k + 0)
    rw [← e] at this
    exact this
  · have e : cv (xp 1) (rr f n g L i) = fun c => sgm L fun k => g k * cv (xp 1) (tk f n (k + i)) c := by
      funext c
      rw [cv_xp]
      by_cases z : 1 ≤ c
      · rw [if_pos z]
        exact sgm_congr fun k hk => by rw [cv_xp, if_pos z]
      · rw [if_neg z]
        exact (sgm_zero fun k hk => by rw [cv_xp, if_neg z, Int.mul_zero]).symm
    rw [e]
    exact Rst.sum g L fun k _ => tk_next hf hn (k + i)
theorem IsDiv.rst {u f q r : List Int} {n : Nat} (hl : f.length = n + 1) (h : IsDiv u f q r) : Rst (coef f) n (coef u) (coef r) :=
  ⟨⟨coef q, q.length, fun m hm => coef_ge hm, fun m => by rw [h.eq m, conv_cv]⟩, fun m hm => coef_ge (by have := h.len; omega)⟩
theorem top_coef {f : List Int} {n : Nat} (hl : f.length = n + 1) (hm : Monic f) : Top (coef f) n := ⟨by have := hm.2; rw [hl] at this; exact this, fun m h => coef_ge (by omega)⟩
theorem coef_x : coef [0, 1] = xp 1 := by
  funext m
  match m with
  | 0 => rfl
  | 1 => rfl
  | m + 2 => rw [coef_ge (by show 2 ≤ _; omega)]; unfold xp; rw [if_neg (by omega)]
def spRes (K : PySem.W.Frag) : Sp := fun vs H Q _ => ∃ (a b : Addr) (f g : List Int) (n E : Nat), vs = [.ref a, .ref b] ∧ SqL K H a (f.map V.int) ∧ SqL K H b (g.map V.int) ∧ f.length = n + 1 ∧ 1 ≤ n ∧ n ≤ 26 ∧ g.length ≤ 60 ∧ Monic f ∧ Norm g ∧ Bds 5000 f ∧ Bds 5000 g ∧ E ≤ 9000 ∧ n * (E + 5) < 9000 ∧
  (∀ i j, i ≤ n → (rr (coef f) n (coef g) g.length i j).natAbs ≤ 2 ^ E) ∧ ∀ H', Same H H' → Q (.int (det n fun i j => rr (coef f) n (coef g) g.length i j)) H'
section
variable {P : Program} {w : World} {K : PySem.W.Frag} {mg : Str → Option Value} {base : Heap}
theorem ok_resultant (B : Blt mg) (d_coefficient : Dfn P w K mg base 1 "coefficient" ["f", "place"] (spCoef K)) (d_multiplied : Dfn P w K mg base 1 "multiplied" ["f", "g"] (spMul K)) (d_divided : Dfn P w K mg base 2 "divided" ["f", "g"] (spDiv K)) (d_determinant : Dfn P w K mg base 2 "determinant" ["table"] (spDet K)) (F : Src K mg "resultant" s_resultant ["f", "g"]) : Dfn P w K mg base 3 "resultant" ["f", "g"] (spRes K) := by
  refine F.ok sc_resultant (fun vs H Q E h => ?_) (fun fa cdv A outer s H vs Q E hr h => ?_)
  · obtain ⟨a, b, f, g, n, E, rfl, _⟩ := h; rfl
  obtain ⟨a, b, f, g, n, E9, rfl, ha, hb, lf, hn1, hn, lg, mf, ng, bf, bg, hE, hE9, bR, q⟩ := h
  have hf := top_coef lf mf
  have hR := rows_rr hf hn1 (g := coef g) (L := g.length) fun m hm => coef_ge hm
  generalize hrr : rr (coef f) n (coef g) g.length = R at hR bR q
  refine ⟨_, pss_cons (ps_set (i := 2) sc_resultant.nd rfl (Or.inl rfl) (pe_op op_sub (pe_callB (callK_len (K := K) rfl) rfl B.«len» bt_len (pa_cons (pv 0) pa_nil)) pe_int))
    (pss_cons (ps_set (i := 3) sc_resultant.nd rfl (Or.inl rfl) (pe_lst pa_nil))
    (pss_cons (ps_set (i := 4) sc_resultant.nd rfl (Or.inr rfl) (pe_ix (ixK_tup (K := K) rfl) (pe_def d_divided hr (pa_cons (pv 1) (pa_cons (pv 0) pa_nil))) pe_int (fun _ _ => rfl)))
    (pss_cons (ps_for PassesOwn.never rfl (pi_range1 rfl B.«range» (pa_cons (pv 2) pa_nil)) (pg_name (i := 5) sc_resultant.nd rfl (Or.inl rfl))
      (pss_cons (ps_expr (pe_bm PySem.F.plainAttrs_list PySem.F.slot_list_append PySem.F.type_list_append mt_append (pv 3) (pa_cons (pe_comp (compScope_mk (N := ["place", "rest"]) (sl := [none, some 4]) (defScope s_resultant) ["f", "g", "degree", "table", "rest", "turn"] rfl rfl (by decide +kernel)) rfl (pi_range1 rfl B.«range» (pa_cons (pv 2) pa_nil)) (fun _ _ _ _ _ => (pg_name (i := 0) (by show List.Nodup (["place", "rest"] : List Str); decide +kernel) rfl (Or.inl rfl))) (fun _ _ _ _ _ => pif_none) (fun _ _ _ _ _ => (pe_def d_coefficient hr (pa_cons (pv 1) (pa_cons (pv 0) pa_nil))))) pa_nil)))
      (pss_one (ps_set (i := 4) sc_resultant.nd rfl (Or.inr rfl) (pe_ix (ixK_tup (K := K) rfl) (pe_def d_divided hr (pa_cons (pe_def d_multiplied hr (pa_cons (pe_lst (pa_cons pe_int (pa_cons pe_int pa_nil))) (pa_cons (pv 4) pa_nil))) (pa_cons (pv 0) pa_nil))) pe_int (fun _ _ => rfl))))))
    (pss_one (ps_ret (pe_def d_determinant hr (pa_cons (pv 3) pa_nil))))))), ?_⟩
  refine ⟨_, rfl, a, _, rfl, .inl ha, ?_⟩
  rw [List.length_map, lf]
  refine ⟨_, _, rfl, rfl, len_ok rfl, fun p0 n0 => ?_⟩
  have k0 := same_new n0 (.lst [])
  refine ⟨_, rfl, _, rfl, b, a, g, f, 5000, 5000, rfl, k0.seq hb, k0.seq ha, by omega, by omega, mf, bg, bf, by omega, fun q0 r0 hd0 _ _ t0 qa ra H1 g1 n1 n2 hne et eq er => ?_⟩
  refine ⟨t0, _, _, _, rfl, rfl, SqT.of et, rfl, ?_⟩
  have e0 : coef r0 = R 0 := Rst.uniq hf (IsDiv.rst lf hd0) hR.zero
  have l0 : r0.length ≤ n := by have := hd0.len; omega
  have bdR : ∀ (r : List Int) (i : Nat), coef r = R i → i ≤ n → Bds 9001 r := fun r i e hi => bds_of fun j _ => by
    rw [e]
    exact Nat.lt_of_le_of_lt (bR i j hi) (Nat.pow_lt_pow_right (by decide) (by omega))
  refine ⟨_, rfl, _, rfl, by omega, by omega, ?_⟩
  rw [show (((n + 1 : Nat) : Int) - 1).toNat = n by omega]
  refine for_range (fun i σ H2 => Same H H2 ∧ ∃ (ts : List LP) (r : List Int) (ra : Addr) (o : Option V), σ = [some (.ref a), some (.ref b), some (.int (((n + 1 : Nat) : Int) - 1)), some (.ref p0), some (.ref ra), o] ∧ LLs H2 p0 ts ∧ ts.length = i ∧ (∀ t ∈ ts, t.2.length = n ∧ t.1 ≠ p0) ∧ (∀ x j, x < i → j < n → mxL (lvals ts) x j = R x j) ∧ H2 ra = some (.lst (r.map V.int)) ∧ coef r = R i ∧ r.length ≤ n ∧ Norm r ∧ ra ≠ p0)
    ⟨k0.trans g1, [], r0, ra, _, rfl, ⟨g1 _ _ upd_same, fun t ht => by simp at ht⟩, rfl, fun t ht => by simp at ht, fun x j hx => absurd hx (by omega), er, e0, l0, hd0.nr, fun z => by rw [z, upd_same] at n2; cases n2⟩ ?_ ?_
  · rintro i σ H2 hi ⟨g2, ts, r, ra, o, rfl, hT, lt, hts, hmx, er, eR, lr, nr, hra⟩
    refine ⟨_, rfl, .inl ⟨rfl, _, SqL.of hT.top⟩, _, rfl, _, rfl, by omega, by omega, fun D hD => ?_⟩
    rw [show (((n + 1 : Nat) : Int) - 1).toNat = n by omega]
    refine comp_range (fun j ys H3 => Same H2 H3 ∧ ys = ((List.range j).map (R i)).map V.int) ⟨same_new hD _, rfl⟩ (fun j m ys H3 hm hj hy hlen h => ?_) (fun ys H3 hy h => ?_)
    · obtain ⟨g3, rfl⟩ := h
      rw [show (0 : Int) + (j : Int) = ((j : Nat) : Int) by omega]
      refine ⟨_, rfl, _, rfl, ra, r, j, rfl, SqL.of (g3 _ _ er), ?_⟩
      refine CW.emit hm hj (by rw [sizeLine_eq]; omega) hy hlen ⟨Same.free_upd g3 hD _, ?_⟩
      rw [List.range_succ, List.map_append, List.map_append, eR]
      rfl
    · obtain ⟨g3, rfl⟩ := h
      have hT3 := hT.same g3
      have hDp : D ≠ p0 := fun z => by rw [z, hT.top] at hD; cases hD
      refine ⟨p0, _, _, rfl, rfl, hT3.top, by rw [List.length_map, sizeLine_eq]; omega, ?_⟩
      have hT4 := hT3.snoc (t := (D, (List.range n).map (R i))) (fun t ht => (hts t ht).2) hy hDp
      have g4 : Same H (L2.upd H3 p0 (.lst (lrefs ts ++ [V.ref D]))) := (g2.trans g3).free_upd n0 _
      have er4 : (L2.upd H3 p0 (.lst (lrefs ts ++ [V.ref D]))) ra = some (.lst (r.map V.int)) := by rw [upd_ne hra]; exact g3 _ _ er
      generalize L2.upd H3 p0 (.lst (lrefs ts ++ [V.ref D])) = H4 at hT4 g4 er4 ⊢
      refine ⟨len_ok rfl, fun l1 m1 => ?_⟩
      have k1 := same_new m1 (.lst [.int 0, .int 1])
      have b01 : Bds 1000000 ([0, 1] : List Int) := fun x hx => by
        simp only [List.mem_cons, List.not_mem_nil, or_false] at hx
        rcases hx with rfl | rfl <;> exact Bd.mono (m := 64) (Bd.small (by decide) (by decide)) (by decide)
      have b01' : Bds 1 ([0, 1] : List Int) := fun x hx => by
        simp only [List.mem_cons, List.not_mem_nil, or_false] at hx
        rcases hx with rfl | rfl <;> (show Int.natAbs _ < 2 ^ 1; decide)
      have br := bdR r i eR (by omega)
      refine ⟨_, rfl, l1, ra, [0, 1], r, rfl, SqL.of upd_same, SqL.of (k1 _ _ er4), by decide, by omega, b01, br.mono (by decide), fun pm H5 g5 n5 e5 => ?_⟩
      have k15 := k1.trans g5
      have lpm : (pmul [0, 1] r).length ≤ 28 := by
        unfold pmul
        split
        · simp
        · rw [List.length_map, List.length_range]; show 2 + r.length - 1 ≤ 28; omega
      have bpm : Bds 9010 (pmul [0, 1] r) := (b01'.pmul br).mono (by show 1 + 9001 + 2 ≤ 9010; decide)
      have tot : 9010 + (pmul [0, 1] r).length * (5000 + 2) ≤ 1000000 := by omega
      refine ⟨_, rfl, pm, a, pmul [0, 1] r, f, 9010, 5000, rfl, SqL.of e5, (g4.trans k15).seq ha, by omega, by omega, mf, bpm, bf, tot, fun q1 r1 hd1 _ _ t1 qa1 ra1 H6 g6 n6 n7 hne1 et1 eq1 er1 => ?_⟩
      refine ⟨t1, _, _, _, rfl, rfl, SqT.of et1, rfl, ?_⟩
      have e1 : coef r1 = R (i + 1) := by
        have h1 := IsDiv.rst lf hd1
        rw [cpf, coef_x, eR] at h1
        exact Rst.uniq hf h1 (hR.succ i)
      have g46 := k15.trans g6
      refine ⟨g4.trans g46, ts ++ [(D, (List.range n).map (R i))], r1, ra1, _, rfl, hT4.same g46, by rw [List.length_append, lt]; rfl, fun t ht => ?_, fun x j hx hj => ?_, er1, e1, by have := hd1.len; omega, hd1.nr, fun z => by rw [z, (hT4.same k15).top] at n7; cases n7⟩
      · rcases List.mem_append.mp ht with y | y
        · exact hts t y
        · have : t = (D, (List.range n).map (R i)) := by simpa using y
          rw [this]
          exact ⟨by simp, hDp⟩
      · by_cases e : x = i
        · have ex : x = ts.length := by omega
          have : mxL (lvals (ts ++ [(D, (List.range n).map (R i))])) ts.length j = ((List.range n).map (R i)).getD j 0 := by
            rw [mxL_at (by rw [List.length_append]; show _ < _ + 1; omega)]
            simp
          rw [ex, this, ← ex, e, List.getD_eq_getElem?_getD, List.getElem?_map, List.getElem?_range hj]
          rfl
        · rw [mxL_at (by rw [List.length_append]; omega), List.getElem_append_left (by omega), ← mxL_at (by omega)]
          exact hmx x j (by omega) hj
  · rintro σ H2 ⟨g2, ts, r, ra, o, rfl, hT, lt, hts, hmx, er, eR, lr, nr, hra⟩
    have ed : det n (mxL (lvals ts)) = det n fun i j => R i j := det_congr fun i j hi hj => hmx i j hi hj
    refine ⟨_, rfl, p0, ts, n, E9, rfl, hT, ⟨lt, fun t ht => (hts t ht).1⟩, hn, hE9, fun i j hi hj => by rw [hmx i j hi hj]; exact bR i j (by omega), fun H3 g3 => ?_⟩
    rw [ed]
    exact q H3 (g2.trans g3)
end
/-! ### discriminants -/
theorem len_dl (f : List Int) : (dl f).length = f.length - 1 := by unfold dl; rw [List.length_map, List.length_range]
theorem bds_dl {f : List Int} {m : Nat} (h : Bds m f) (l : f.length ≤ 1000) : Bds (m + 10) (dl f) := by
  intro x hx
  obtain ⟨i, hi, rfl⟩ := List.mem_map.mp hx
  have hi' := List.mem_range.mp hi
  have b1 : Bd 10 ((i + 1 : Nat) : Int) := show Int.natAbs _ < 2 ^ 10 by omega
  exact (b1.mul (h.coef _)).mono (by omega)
theorem tg_at (n : Nat) (h : n ≤ 26) : (n * (n - 1) / 2 % 2 = 1 → tg n = -1) ∧ (¬ n * (n - 1) / 2 % 2 = 1 → tg n = 1) := by
  have key : ∀ n : Fin 27, (n.val * (n.val - 1) / 2 % 2 = 1 → tg n.val = -1) ∧ (¬ n.val * (n.val - 1) / 2 % 2 = 1 → tg n.val = 1) := by decide +kernel
  exact key ⟨n, by omega⟩
def spDisc (K : PySem.W.Frag) : Sp := fun vs H Q _ => ∃ (a : Addr) (f : List Int) (n E : Nat), vs = [.ref a] ∧ SqL K H a (f.map V.int) ∧ f.length = n + 1 ∧ 1 ≤ n ∧ n ≤ 26 ∧ Monic f ∧ Bds 4990 f ∧ E ≤ 9000 ∧ n * (E + 5) < 9000 ∧
  (∀ i j, i ≤ n → (rr (coef f) n (coef (dl f)) (dl f).length i j).natAbs ≤ 2 ^ E) ∧ ∀ H', Same H H' → Q (.int (tg n * det n fun i j => rr (coef f) n (coef (dl f)) (dl f).length i j)) H'
section
variable {P : Program} {w : World} {K : PySem.W.Frag} {mg : Str → Option Value} {base : Heap}
theorem ok_discriminant (B : Blt mg) (d_derived : Dfn P w K mg base 1 "derived" ["f"] (spDer K)) (d_resultant : Dfn P w K mg base 3 "resultant" ["f", "g"] (spRes K)) (F : Src K mg "discriminant" s_discriminant ["f"]) : Dfn P w K mg base 4 "discriminant" ["f"] (spDisc K) := by
  refine F.ok sc_discriminant (fun vs H Q E h => ?_) (fun fa cdv A outer s H vs Q E hr h => ?_)
  · obtain ⟨a, f, n, E, rfl, _⟩ := h; rfl
  obtain ⟨a, f, n, E9, rfl, ha, lf, hn1, hn, mf, bf, hE, hE9, bR, q⟩ := h
  generalize hd : (det n fun i j => rr (coef f) n (coef (dl f)) (dl f).length i j) = D at q
  refine ⟨_, pss_cons (ps_set (i := 1) sc_discriminant.nd rfl (Or.inl rfl) (pe_op op_sub (pe_callB (callK_len (K := K) rfl) rfl B.«len» bt_len (pa_cons (pv 0) pa_nil)) pe_int))
    (pss_cons (ps_set (i := 2) sc_discriminant.nd rfl (Or.inl rfl) (pe_def d_resultant hr (pa_cons (pv 0) (pa_cons (pe_def d_derived hr (pa_cons (pv 0) pa_nil)) pa_nil))))
    (pss_cons (ps_if (pt_cmpR op_eq (pe_op op_modN (pe_op op_fdivW (pe_op op_mulO (pv 1) (pe_op op_sub (pv 1) pe_int)) pe_int) pe_int) pe_int (nomark _))
      (pss_one (ps_ret (pe_un un_neg (pv 2))))
      (pss_nil))
    (pss_one (ps_ret (pv 2))))), ?_⟩
  refine ⟨_, rfl, a, _, rfl, .inl ha, ?_⟩
  rw [List.length_map, lf]
  refine ⟨_, _, rfl, rfl, ?_⟩
  show gName 1 (V.int (((n + 1 : Nat) : Int) - 1)) _ _ _
  rw [show ((n + 1 : Nat) : Int) - 1 = (n : Int) by omega]
  refine ⟨_, rfl, _, rfl, a, f, rfl, ha, by omega, fun pd H1 g1 n1 e1 => ?_⟩
  refine ⟨a, pd, f, dl f, n, E9, rfl, g1.seq ha, SqL.of e1, lf, hn1, hn, by rw [len_dl]; omega, mf, norm_dl (.inr (by rw [mf.2]; decide)), bf.mono (by decide), bds_dl bf (by omega), hE, hE9, bR, fun H2 g2 => ?_⟩
  rw [hd]
  have g := g1.trans g2
  obtain ⟨t1, t2⟩ := tg_at n hn
  have em : ((((n : Int) * ((n : Int) - 1)).fdiv 2).fmod 2) = ((n * (n - 1) / 2 % 2 : Nat) : Int) := by
    obtain ⟨k, rfl⟩ : ∃ k, n = k + 1 := ⟨n - 1, by omega⟩
    have e1 : ((k + 1 : Nat) : Int) - 1 = (k : Int) := by omega
    have e2 : k + 1 - 1 = k := by omega
    rw [e1, e2, ← Int.natCast_mul, Int.fdiv_eq_ediv_of_nonneg _ (by decide), Int.fmod_eq_emod_of_nonneg _ (by decide)]
    omega
  refine ⟨_, rfl, _, rfl, _, _, rfl, rfl, _, _, rfl, rfl, mulOkL (by omega) (by omega), ?_⟩
  refine ⟨_, _, rfl, rfl, (Bd.small (by decide) (by decide)).dv (by decide), _, _, rfl, rfl, (by decide : (2 : Int) ≠ 0), rfl, _, rfl, ?_⟩
  by_cases c : n * (n - 1) / 2 % 2 = 1
  · refine iteY (by show V.int ((((n : Int) * ((n : Int) - 1)).fdiv 2).fmod 2) = V.int 1; rw [em, c]; rfl) ?_
    have := q H2 g
    rw [t1 c, show -1 * D = - D by omega] at this
    exact ⟨_, rfl, _, rfl, this⟩
  · refine iteN (fun z => c (by have z' : V.int ((((n : Int) * ((n : Int) - 1)).fdiv 2).fmod 2) = V.int 1 := z; have := V.int.inj z'; rw [em] at this; omega)) ?_
    have := q H2 g
    rw [t2 c, Int.one_mul] at this
    exact ⟨_, rfl, this⟩
end
section
variable {P : Program} {w : World} {K : PySem.W.Frag} {mg : Str → Option Value} {base : Heap}
theorem ok_q_trimmed (B : Blt mg) (F : Src K mg "_law_trimmed" s_q_trimmed ["_law_numbers"]) : Dfn P w K mg base 1 "_law_trimmed" ["_law_numbers"] (spTrim K) := by
  refine F.ok sc_q_trimmed (fun vs H Q E h => ?_) (fun f cdv A outer s H vs Q E hr h => ?_)
  · obtain ⟨a, f, rfl, _⟩ := h; rfl
  obtain ⟨a, f, rfl, hS, hlen, q⟩ := h
  refine ⟨_, pss_cons (ps_set (i := 1) sc_q_trimmed.nd rfl (Or.inl rfl) (pe_callB (callK_len (K := K) rfl) rfl B.«len» bt_len (pa_cons (pv 0) pa_nil)))
    (pss_cons (ps_while PassesOwn.never (PW.pt (pw_and (pt_cmpR op_gt (pv 1) pe_int (nomark _)) (pw_and1 (pt_cmpR op_eq (pe_ix (ixK_list (K := K) rfl) (pv 0) (pe_op op_sub (pv 1) pe_int) (fun _ _ => rfl)) pe_int (nomark _)))))
      (pss_one (ps_set (i := 1) sc_q_trimmed.nd rfl (Or.inl rfl) (pe_op op_sub (pv 1) pe_int))))
    (pss_one (ps_ret (pe_callTy call_list_of rfl B.«list» bt_list (pa_cons (pe_slice (slK_list (K := K) rfl) (pv 0) po_none (po_some (pv 1))) pa_nil))))), ?_⟩
  refine ⟨_, rfl, a, _, rfl, .inl hS, ?_⟩
  rw [List.length_map]
  have fin : ∀ (k : Nat) H2, Same H H2 → k ≤ f.length → tlen f f.length = tlen f k → tlen f k = k → ∀ p, H2 p = none → ∃ p2 ys, [V.ref p] = [.ref p2] ∧ (SqL K (upd H2 p (.lst (cutV (f.map V.int) none (some (k : Int))))) p2 ys ∨ SqT K (upd H2 p (.lst (cutV (f.map V.int) none (some (k : Int))))) p2 ys) ∧
      ∀ l, upd H2 p (.lst (cutV (f.map V.int) none (some (k : Int)))) l = none → Q (.ref l) (upd (upd H2 p (.lst (cutV (f.map V.int) none (some (k : Int))))) l (.lst ys)) := fun k H2 g hk e1 e2 p hp => by
    refine ⟨p, _, rfl, .inl (SqL.of upd_same), fun l hl => ?_⟩
    rw [cutV_take f k hk] at hl ⊢
    refine q l _ ((g.trans (same_new hp _)).trans (same_new hl _)) ((g.trans (same_new hp _)).free hl) ?_
    unfold trim
    rw [e1, e2]
    exact upd_same
  refine while_in (fun σ H2 => H2 = H ∧ ∃ k : Nat, σ = [some (.ref a), some (.int k)] ∧ k ≤ f.length ∧ tlen f f.length = tlen f k) (fun σ _ => match σ with | [_, some (.int k)] => k.toNat | _ => 0) ⟨rfl, f.length, rfl, Nat.le_refl _, rfl⟩ ?_
  rintro σ H2 ⟨rfl, k, rfl, hk, ht⟩
  refine ⟨_, rfl, _, _, rfl, rfl, _, rfl, ite2 (fun c => ?_) (fun c => ?_)⟩
  · have c' : (0 : Int) < k := of_decide_eq_true c
    obtain ⟨m, rfl⟩ : ∃ m, k = m + 1 := ⟨k - 1, by omega⟩
    refine ⟨_, rfl, _, rfl, _, _, rfl, rfl, a, _, _, _, rfl, rfl, hS, atI_int (by omega) (by omega), rfl, _, rfl, ?_⟩
    have em : (((m + 1 : Nat) : Int) - 1).toNat = m := by omega
    rw [em]
    refine ite2 (fun c => ?_) (fun c => ?_)
    · have c2 : coef f m = 0 := V.int.inj (of_decide_eq_true c)
      refine win ⟨_, rfl, _, _, rfl, rfl, ⟨rfl, m, ?_, by omega, ?_⟩, ?_⟩
      · have e : ((m + 1 : Nat) : Int) - 1 = (m : Int) := by omega
        show [some (V.ref a), some (V.int (((m + 1 : Nat) : Int) - 1))] = _
        rw [e]
      · exact ht.trans (by show (if coef f m = 0 then tlen f m else m + 1) = _; rw [if_pos c2])
      · show (((m + 1 : Nat) : Int) - 1).toNat < (((m + 1 : Nat) : Int)).toNat
        omega
    · have c2 : coef f m ≠ 0 := fun z => c (decide_eq_true (congrArg V.int z))
      exact ⟨_, rfl, _, rfl, _, rfl, a, _, rfl, hS, fin (m + 1) _ (Same.refl _) hk ht (by show (if coef f m = 0 then tlen f m else m + 1) = _; rw [if_neg c2])⟩
  · have c' : k = 0 := by
      have : ¬ (0 : Int) < k := fun z => c (decide_eq_true z)
      omega
    subst c'
    refine iteF ?_
    exact ⟨_, rfl, _, rfl, _, rfl, a, _, rfl, hS, fin 0 _ (Same.refl _) hk ht rfl⟩
end
def spTimesL (K : PySem.W.Frag) : Sp := fun vs H Q _ => ∃ (a b : Addr) (f g : List Int), vs = [.ref a, .ref b] ∧ SqL K H a (f.map V.int) ∧ SqL K H b (g.map V.int) ∧ f.length ≤ 400 ∧ g.length ≤ 400 ∧ Bds 1000000 f ∧ Bds 1000000 g ∧ New H Q (trim (pmul f g))
section
variable {P : Program} {w : World} {K : PySem.W.Frag} {mg : Str → Option Value} {base : Heap}
def timesL (f g : List Int) : List Int := (List.range (f.length + g.length)).map (conv f g)
theorem trim_timesL (f g : List Int) : trim (timesL f g) = trim (pmul f g) := trim_ext fun i => by
  rw [coef_pmul]
  unfold timesL
  exact coef_map_range' (fun i hi => conv_beyond f g i (by omega)) i
theorem ok_q_times (B : Blt mg) (d_q_trimmed : Dfn P w K mg base 1 "_law_trimmed" ["_law_numbers"] (spTrim K)) (F : Src K mg "_law_times" s_q_times ["_law_f", "_law_g"]) : Dfn P w K mg base 2 "_law_times" ["_law_f", "_law_g"] (spTimesL K) := by
  refine F.ok sc_q_times (fun vs H Q E h => ?_) (fun f cdv A outer s H vs Q E hr h => ?_)
  · obtain ⟨a, b, f, g, rfl, _⟩ := h; rfl
  obtain ⟨a, b, f, g, rfl, ha, hb, lf, lg, bf, bg, q⟩ := h
  refine ⟨_, pss_cons (ps_set (i := 2) sc_q_times.nd rfl (Or.inl rfl) (pe_op op_rep (pe_lst (pa_cons pe_int pa_nil)) (pe_op op_add (pe_callB (callK_len (K := K) rfl) rfl B.«len» bt_len (pa_cons (pv 0) pa_nil)) (pe_callB (callK_len (K := K) rfl) rfl B.«len» bt_len (pa_cons (pv 1) pa_nil)))))
    (pss_cons (ps_for PassesOwn.never rfl (pi_range1 rfl B.«range» (pa_cons (pe_callB (callK_len (K := K) rfl) rfl B.«len» bt_len (pa_cons (pv 0) pa_nil)) pa_nil)) (pg_name (i := 3) sc_q_times.nd rfl (Or.inl rfl))
      (pss_one (ps_for PassesOwn.never rfl (pi_range1 rfl B.«range» (pa_cons (pe_callB (callK_len (K := K) rfl) rfl B.«len» bt_len (pa_cons (pv 1) pa_nil)) pa_nil)) (pg_name (i := 4) sc_q_times.nd rfl (Or.inl rfl))
        (pss_one (ps_asg (pe_op op_add (pe_ix (ixK_list (K := K) rfl) (pv 2) (pe_op op_add (pv 3) (pv 4)) (fun _ _ => rfl)) (pe_op op_mulO (pe_ix (ixK_list (K := K) rfl) (pv 0) (pv 3) (fun _ _ => rfl)) (pe_ix (ixK_list (K := K) rfl) (pv 1) (pv 4) (fun _ _ => rfl)))) (pg_sub (pv 2) (pe_op op_add (pv 3) (pv 4)) set_list))))))
    (pss_one (ps_ret (pe_def d_q_trimmed hr (pa_cons (pv 2) pa_nil))))), ?_⟩
  refine ⟨len_ok rfl, fun p3 n3 => ?_⟩
  have g3 := same_new n3 (.lst [.int 0])
  refine ⟨_, rfl, a, _, rfl, .inl (g3.seq ha), _, rfl, b, _, rfl, .inl (g3.seq hb), ?_⟩
  rw [List.length_map, List.length_map]
  have en : ((f.length : Int) + (g.length : Int)) = ((f.length + g.length : Nat) : Int) := by omega
  refine ⟨_, _, rfl, rfl, p3, _, _, rfl, rfl, upd_same, by omega, by omega, ?_, fun p hp => ?_⟩
  · rw [sizeLine_eq]; show 1 * _ ≤ _; omega
  rw [en, Int.toNat_natCast, rep_zero]
  have g4 := g3.trans (same_new hp (.lst ((List.replicate (f.length + g.length) (0 : Int)).map V.int)))
  have f4 : H p = none := g3.free hp
  refine ⟨_, rfl, a, _, rfl, .inl (g4.seq ha), ?_⟩
  rw [List.length_map]
  refine ⟨_, rfl, by omega, by omega, for_range (fun i σ H2 => Same H H2 ∧ ∃ (P : List Int) (o1 o2 : Option V), σ = [some (.ref a), some (.ref b), some (.ref p), o1, o2] ∧ H2 p = some (.lst (P.map V.int)) ∧ P.length = f.length + g.length ∧ ∀ m, m < P.length → coef P m = rowS f g i m)
    ⟨g4, _, _, _, rfl, upd_same, by simp, fun m hm => coef_replicate _ _⟩ ?_ ?_⟩
  · rintro i σ H2 hi ⟨gg, P, o1, o2, rfl, eP, lP, hP⟩
    have hi' : i < f.length := by omega
    refine ⟨_, rfl, b, _, rfl, .inl (gg.seq hb), ?_⟩
    rw [List.length_map]
    refine ⟨_, rfl, by omega, by omega, for_range (fun j σ H2 => Same H H2 ∧ ∃ (P : List Int) (o2 : Option V), σ = [some (.ref a), some (.ref b), some (.ref p), some (.int (0 + (i : Int))), o2] ∧ H2 p = some (.lst (P.map V.int)) ∧ P.length = f.length + g.length ∧ ∀ m, m < P.length → coef P m = cellS f g i j m)
      ⟨gg, P, _, rfl, eP, lP, fun m hm => by rw [cellS_zero]; exact hP m hm⟩ ?_ ?_⟩
    · rintro j σ H3 hj ⟨gg, P, o2, rfl, eP, lP, hP⟩
      have hj' : j < g.length := by omega
      have eij : ((0 + (i : Int)) + (0 + (j : Int))) = ((i + j : Nat) : Int) := by omega
      have hij : i + j < P.length := by omega
      have ei : ((0 : Int) + (i : Int)).toNat = i := by omega
      have ej : ((0 : Int) + (j : Int)).toNat = j := by omega
      have b1 : Bd 1000000 (coef f ((0 : Int) + (i : Int)).toNat) := bf.coef _
      have b2 : Bd 1000000 (coef g ((0 : Int) + (j : Int)).toNat) := bg.coef _
      refine ⟨_, rfl, _, rfl, _, rfl, _, _, rfl, rfl, p, _, _, _, rfl, rfl, SqL.of eP, atI_int (by omega) (by omega), ?_⟩
      refine ⟨_, rfl, _, rfl, a, _, _, _, rfl, rfl, gg.seq ha, atI_int (by omega) (by omega), _, rfl, _, rfl, b, _, _, _, rfl, rfl, gg.seq hb, atI_int (by omega) (by omega), _, _, rfl, rfl, bd_mul b1 b2, _, _, rfl, rfl, ?_⟩
      refine ⟨_, rfl, _, rfl, _, rfl, _, _, rfl, rfl, p, _, _, i + j, rfl, rfl, eP, ?_, ?_⟩
      · rw [eij, List.length_map]; exact ixN_nat (by omega) (by omega)
      rw [eij, Int.toNat_natCast, ei, ej]
      refine ⟨gg.free_upd f4 _, P.set (i + j) (coef P (i + j) + coef f i * coef g j), _, rfl, ?_, by rw [List.length_set]; exact lP, fun m hm => ?_⟩
      · rw [← map_int_set]; exact upd_same
      · rw [List.length_set] at hm
        rw [coef_set hij, cellS_step, hP m hm]
        split
        · rename_i h; subst h; rw [hP _ hm]
        · rfl
    · rintro σ H3 ⟨gg, P, o2, rfl, eP, lP, hP⟩
      refine ⟨gg, P, _, _, rfl, eP, lP, fun m hm => ?_⟩
      rw [← cellS_end]
      have := hP m hm
      rw [Int.toNat_natCast] at this
      exact this
  · rintro σ H2 ⟨gg, P, o1, o2, rfl, eP, lP, hP⟩
    have e : P = timesL f g := by
      refine ext_coef ?_ fun m hm => ?_
      · unfold timesL; rw [List.length_map, List.length_range]; exact lP
      · unfold timesL
        rw [coef_map_range (by omega), hP m hm, Int.toNat_natCast]
        rfl
    subst e
    refine ⟨_, rfl, p, _, rfl, SqL.of eP, by omega, fun p2 H3 g3 n3 e3 => ?_⟩
    rw [trim_timesL] at e3
    exact q p2 H3 (gg.trans g3) (gg.free n3) e3
end
/-- a cell of the script: some whole number -/
def spCell (K : PySem.W.Frag) : Sp := fun vs H Q _ => ∃ (a : Addr) (ns : List Int) (k : Int), vs = [.ref a, .int k] ∧ SqL K H a (ns.map V.int) ∧ 0 ≤ k ∧ ∀ n : Int, Q (.int n) H
def spNumber (K : PySem.W.Frag) : Sp := fun vs H Q _ => ∃ (a : Addr) (ns : List Int) (k : Int), vs = [.ref a, .int k] ∧ SqL K H a (ns.map V.int) ∧ 0 ≤ k ∧ k ≤ 100 ∧ ∀ n : Int, Q (.int n) H
section
variable {P : Program} {w : World} {K : PySem.W.Frag} {mg : Str → Option Value} {base : Heap}
theorem ok_cell_at (B : Blt mg) (F : Src K mg "_law_cell_at" s_q_cell_at ["_law_script", "_law_k"]) : Dfn P w K mg base 1 "_law_cell_at" ["_law_script", "_law_k"] (spCell K) := by
  refine F.ok sc_q_cell_at (fun vs H Q E h => ?_) (fun f cdv A outer s H vs Q E hr h => ?_)
  · obtain ⟨a, ns, k, rfl, _⟩ := h; rfl
  obtain ⟨a, ns, k, rfl, hS, h0, q⟩ := h
  refine ⟨_, pss_cons (ps_if (pt_cmpR op_lt (pv 1) (pe_callB (callK_len (K := K) rfl) rfl B.«len» bt_len (pa_cons (pv 0) pa_nil)) (nomark _))
      (pss_one (ps_ret (pe_ix (ixK_list (K := K) rfl) (pv 0) (pv 1) (fun _ _ => rfl))))
      (pss_nil))
    (pss_one (ps_ret pe_int)), ?_⟩
  refine ⟨_, rfl, _, rfl, a, _, rfl, .inl hS, _, _, rfl, rfl, _, rfl, ?_⟩
  refine ite2 (fun c => ?_) (fun c => ?_)
  · have hk : k < ((ns.map V.int).length : Nat) := of_decide_eq_true c
    obtain ⟨v, e, hm⟩ := atI_mem (xs := ns.map V.int) h0 hk
    obtain ⟨n, _, rfl⟩ := List.mem_map.mp hm
    exact ⟨_, rfl, _, rfl, _, _, _, _, rfl, rfl, hS, e, q n⟩
  · exact q 0
theorem ok_number (B : Blt mg) (d_q_cell_at : Dfn P w K mg base 1 "_law_cell_at" ["_law_script", "_law_k"] (spCell K)) (F : Src K mg "_law_number" s_q_number ["_law_script", "_law_k"]) : Dfn P w K mg base 2 "_law_number" ["_law_script", "_law_k"] (spNumber K) := by
  refine F.ok sc_q_number (fun vs H Q E h => ?_) (fun f cdv A outer s H vs Q E hr h => ?_)
  · obtain ⟨a, ns, k, rfl, _⟩ := h; rfl
  obtain ⟨a, ns, k, rfl, hS, h0, h1, q⟩ := h
  refine ⟨_, pss_cons (ps_if (pt_cmpR op_ge (pe_callB call_abs rfl B.«abs» bt_abs (pa_cons (pe_def d_q_cell_at hr (pa_cons (pv 0) (pa_cons (pv 1) pa_nil))) pa_nil)) (pe_op op_pow pe_int pe_int) (nomark _))
      (pss_one (ps_ret (pe_def d_q_cell_at hr (pa_cons (pv 0) (pa_cons (pv 1) pa_nil)))))
      (pss_nil))
    (pss_cons (ps_set (i := 2) sc_q_number.nd rfl (Or.inl rfl) (pe_op op_add (pe_op op_add (pe_def d_q_cell_at hr (pa_cons (pv 0) (pa_cons pe_int pa_nil))) (pe_op op_mulO pe_int (pv 1))) (pe_op op_mulO pe_int (pe_def d_q_cell_at hr (pa_cons (pv 0) (pa_cons (pv 1) pa_nil))))))
    (pss_cons (ps_set (i := 2) sc_q_number.nd rfl (Or.inl rfl) (pe_op op_add (pe_op op_modN (pv 2) pe_int) pe_int))
    (pss_cons (ps_set (i := 3) sc_q_number.nd rfl (Or.inl rfl) pe_int)
    (pss_cons (ps_for PassesOwn.never rfl (pi_range1 rfl B.«range» (pa_cons pe_int pa_nil)) (pg_name (i := 4) sc_q_number.nd rfl (Or.inl rfl))
      (pss_cons (ps_set (i := 2) sc_q_number.nd rfl (Or.inl rfl) (pe_op op_modN (pe_op op_add (pe_op op_add (pe_op op_add (pe_op op_mulO (pv 2) pe_int) (pe_op op_fdivW (pv 2) pe_int)) (pe_op op_mulO (pe_op op_mulO pe_int (pv 4)) (pv 4))) pe_int) pe_int))
      (pss_one (ps_set (i := 3) sc_q_number.nd rfl (Or.inl rfl) (pe_op op_add (pe_op op_mulO (pv 3) pe_int) (pe_op op_modN (pe_op op_mulO (pv 2) pe_int) pe_int))))))
    (pss_one (ps_ret (pv 3))))))), ?_⟩
  refine ⟨_, rfl, _, rfl, a, ns, k, rfl, hS, h0, fun n1 => ?_⟩
  walk_at "rd"
  refine ite2 (fun c => ?_) (fun c => ?_)
  · exact ⟨_, rfl, _, rfl, a, ns, k, rfl, hS, h0, fun n => q n⟩
  refine ⟨_, rfl, a, ns, 0, rfl, hS, Int.le_refl 0, fun n2 => ?_⟩
  walk_at "rd"
  refine ⟨a, ns, k, rfl, hS, h0, fun n3 => ?_⟩
  walk_at "rd"
  refine ⟨by decide, by decide, for_range (n := 12) (fun i σ H2 => H2 = H ∧ ∃ (x t : Int) (j : Option V), σ = [some (.ref a), some (.int k), some (.int x), some (.int t), j]) ⟨rfl, _, _, _, rfl⟩ ?_ ?_⟩
  · rintro i σ H2 hi ⟨rfl, x, t, j, rfl⟩
    have hj : CMulO (19 * (0 + (i : Int))) (0 + (i : Int)) := mulOkR (by omega) (by omega)
    walk_at "rd"
    refine ⟨hj, ?_⟩
    walk_at "rd"
    exact ⟨rfl, _, _, _, rfl⟩
  · rintro σ H2 ⟨rfl, x, t, j, rfl⟩
    exact ⟨_, rfl, q t⟩
end
def IsSg (n : Int) : Prop := n = 1 ∨ n = -1
theorem sg_at (x : Int) : ∃ n, atI [V.int 1, V.int (-1)] (x.fmod 2) = some (.int n) ∧ IsSg n := by
  have r := fmod_range x (y := 2) (by decide)
  refine pick r.1 r.2 ?_
  intro v hv
  simp only [List.mem_cons, List.not_mem_nil, or_false] at hv
  rcases hv with rfl | rfl
  · exact ⟨_, rfl, .inl rfl⟩
  · exact ⟨_, rfl, .inr rfl⟩
theorem sg_ok {x s : Int} (h : IsSg s) : CMulO x s := by rcases h with rfl | rfl <;> exact mulOkR (by decide) (by decide)
theorem IsSg.bd {x s : Int} {m : Nat} (h : IsSg s) (hx : Bd m x) : Bd m (x * s) := Bd.le (y := x) (by rcases h with rfl | rfl <;> simp) hx
theorem mod_bd {x y : Int} {m : Nat} (hy : 0 < y) (h : Bd m y) : Bd m (x.fmod y) := Bd.le (y := y) (by have := fmod_range x hy; omega) h
def spPoly1 : Sp := fun vs H Q _ => ∃ c m k : Int, vs = [.int c, .int m, .int k] ∧ 0 ≤ m ∧ m ≤ 100 ∧ k = 1 ∧ ∀ f : List Int, Norm f → Bds 5 f → (f.length : Int) ≤ m + 1 → New H Q f
section
variable {P : Program} {w : World} {K : PySem.W.Frag} {mg : Str → Option Value} {base : Heap}
theorem ok_q_poly1 (B : Blt mg) (d_q_trimmed : Dfn P w K mg base 1 "_law_trimmed" ["_law_numbers"] (spTrim K)) (F : Src K mg "_law_poly" s_q_poly ["_law_cell", "_law_most", "_law_kind"]) : Dfn P w K mg base 2 "_law_poly" ["_law_cell", "_law_most", "_law_kind"] spPoly1 := by
  refine F.ok sc_q_poly (fun vs H Q E h => ?_) (fun f cdv A outer s H vs Q E hr h => ?_)
  · obtain ⟨c, m, k, rfl, _⟩ := h; rfl
  obtain ⟨c, m, k, rfl, h0, h1, hk, q⟩ := h
  refine ⟨_, pss_cons (ps_set (i := 3) sc_q_poly.nd rfl (Or.inl rfl) (pe_lst pa_nil))
    (pss_cons (ps_set (i := 4) sc_q_poly.nd rfl (Or.inl rfl) (pe_op op_modN (pv 0) (pe_op op_add (pv 1) pe_int)))
    (pss_cons (ps_set (i := 5) sc_q_poly.nd rfl (Or.inl rfl) (pe_op op_fdivW (pv 0) (pe_op op_add (pv 1) pe_int)))
    (pss_cons (ps_set (i := 6) sc_q_poly.nd rfl (Or.inl rfl) (pe_ix (ixK_list (K := K) rfl) (pe_lst (pa_cons pe_int (pa_cons pe_int (pa_cons (pe_op op_pow pe_int pe_int) (pa_cons (pe_op op_pow pe_int pe_int) pa_nil))))) (pe_op op_modN (pv 2) pe_int) (fun _ _ => rfl)))
    (pss_cons (ps_for PassesOwn.never rfl (pi_range1 rfl B.«range» (pa_cons (pv 4) pa_nil)) (pg_name (i := 7) sc_q_poly.nd rfl (Or.inl rfl))
      (pss_cons (ps_expr (pe_bm PySem.F.plainAttrs_list PySem.F.slot_list_append PySem.F.type_list_append mt_append (pv 3) (pa_cons (pe_op op_mulO (pe_op op_modN (pv 5) (pv 6)) (pe_ix (ixK_list (K := K) rfl) (pe_lst (pa_cons pe_int (pa_cons (pe_un un_neg pe_int) pa_nil))) (pe_op op_modN (pe_op op_fdivW (pv 5) (pv 6)) pe_int) (fun _ _ => rfl))) pa_nil)))
      (pss_one (ps_set (i := 5) sc_q_poly.nd rfl (Or.inl rfl) (pe_op op_fdivW (pe_op op_fdivW (pv 5) (pv 6)) pe_int)))))
    (pss_one (ps_ret (pe_def d_q_trimmed hr (pa_cons (pv 3) pa_nil)))))))), ?_⟩
  refine ⟨len_ok rfl, fun p hp => ?_⟩
  have g1 := same_new hp (.lst [])
  refine ⟨_, rfl, _, rfl, _, _, rfl, rfl, _, _, rfl, rfl, show m + 2 ≠ 0 by omega, ?_⟩
  refine ⟨_, rfl, _, rfl, _, _, rfl, rfl, _, _, rfl, rfl, (Bd.small (by omega) (by omega)).dv (show m + 2 ≠ 0 by omega), ?_⟩
  walk_at "rd"
  intro p1 n1
  walk_at "rd"
  obtain ⟨bs, hbs, hb1, hb2⟩ : ∃ bs : Int, atI [V.int 7, V.int 19, V.int (10 ^ 6), V.int (10 ^ 55)] (k.fmod 4) = some (.int bs) ∧ 0 < bs ∧ Bd 5 bs := by
    subst hk
    exact ⟨19, rfl, by decide, show Int.natAbs _ < 2 ^ 5 by decide⟩
  refine ⟨p1, _, _, _, rfl, rfl, SqL.of upd_same, hbs, ?_⟩
  have rm := fmod_range c (y := m + 2) (by omega)
  have g2 := g1.trans (same_new n1 (.lst [.int 7, .int 19, .int (10 ^ 6), .int (10 ^ 55)]))
  refine ⟨_, rfl, _, rfl, by omega, by omega, for_range (fun i σ H2 => Same H H2 ∧ ∃ (P : List Int) (r : Int) (o : Option V), σ = [some (.int c), some (.int m), some (.int k), some (.ref p), some (.int (c.fmod (m + 2))), some (.int r), some (.int bs), o] ∧ H2 p = some (.lst (P.map V.int)) ∧ P.length = i ∧ Bds 5 P)
    ⟨g2, [], _, _, rfl, (same_new n1 _) _ _ upd_same, rfl, fun x hx => by simp at hx⟩ ?_ ?_⟩
  · rintro i σ H2 hi ⟨gg, P, r, o, rfl, eP, lP, bP⟩
    refine ⟨_, rfl, .inl ⟨rfl, _, SqL.of eP⟩, ?_⟩
    refine ⟨_, rfl, _, rfl, _, _, rfl, rfl, show bs ≠ 0 by omega, ?_⟩
    walk_at "rd"
    intro p2 n2
    refine ⟨_, rfl, _, rfl, _, _, rfl, rfl, hb2.dv (by omega), _, _, rfl, rfl, show (2 : Int) ≠ 0 by decide, ?_⟩
    obtain ⟨sg, hsg, hs⟩ := sg_at (r.fdiv bs)
    refine ⟨p2, _, _, _, rfl, rfl, SqL.of upd_same, hsg, _, _, rfl, rfl, sg_ok hs, ?_⟩
    have k2 := same_new n2 (.lst [V.int 1, V.int (-1)])
    refine ⟨p, _, _, rfl, rfl, k2 _ _ eP, by rw [List.length_map, sizeLine_eq]; omega, ?_⟩
    refine ⟨_, rfl, _, rfl, _, _, rfl, rfl, hb2.dv (by omega), _, _, rfl, rfl, (Bd.small (by decide) (by decide)).dv (by decide), ?_⟩
    refine ⟨(gg.trans k2).free_upd hp _, P ++ [r.fmod bs * sg], _, _, rfl, ?_, by rw [List.length_append, lP]; rfl, bP.snoc (hs.bd (mod_bd hb1 hb2))⟩
    rw [← map_int_snoc]
    exact upd_same
  · rintro σ H2 ⟨gg, P, r, o, rfl, eP, lP, bP⟩
    refine ⟨_, rfl, p, P, rfl, SqL.of eP, by omega, fun p2 H3 g3 n3 e3 => q (trim P) (norm_trim P) bP.trim ?_ p2 H3 (gg.trans g3) (gg.free n3) e3⟩
    have := tlen_le P P.length
    rw [trim_length]
    omega
end
/-! ### resultants and discriminants of polynomials of small numbers -/
structure GF (f : List Int) (n : Nat) : Prop where
  len : f.length = n + 1
  n1 : 1 ≤ n
  n12 : n ≤ 12
  mon : Monic f
  bds : Bds 43 f
  wt : wb (2 ^ 20) (7 * (2 ^ 20) ^ n) (coef f)
structure GG (g : List Int) : Prop where
  nrm : Norm g
  bds : Bds 54 g
  len : g.length ≤ 13
def RS (f : List Int) (n : Nat) (g : List Int) : Int := det n fun i j => rr (coef f) n (coef g) g.length i j
theorem GF.top {f : List Int} {n : Nat} (h : GF f n) : Top (coef f) n := top_coef h.len h.mon
theorem GF.ne {f : List Int} {n : Nat} (h : GF f n) : f ≠ [] := h.mon.1
theorem GF.is {f g : List Int} {n : Nat} (h : GF f n) : IsRes (coef f) n (coef g) (RS f n g) := ⟨_, rows_rr h.top h.n1 fun m hm => coef_ge hm, rfl⟩
theorem GF.ent {f g : List Int} {n : Nat} (h : GF f n) (hg : GG g) : ∀ i j, i ≤ n → (rr (coef f) n (coef g) g.length i j).natAbs ≤ 2 ^ 740 := by
  intro i j hi
  have hR := rows_rr h.top h.n1 (g := coef g) (L := g.length) fun m hm => coef_ge hm
  have bgw : wb (2 ^ 20) (2 ^ 54 * (2 ^ 20) ^ 13) (coef g) := fun k => by
    by_cases c : k < g.length
    · exact Nat.mul_le_mul (Nat.le_of_lt (hg.bds.coef k)) (Nat.pow_le_pow_right (by decide) (by have := hg.len; omega))
    · rw [coef_ge (by omega)]; simp
  have n12 := h.n12
  refine Nat.le_trans (rows_absC h.top h.n1 (W := 2 ^ 20) (by decide) h.wt (fun m hm => coef_ge hm) bgw hR i j) ?_
  have e2 : (1 + 7) ^ g.length ≤ (2 ^ 3) ^ 13 := Nat.pow_le_pow_right (by decide) hg.len
  have e3 : (2 ^ 20 * (1 + 7)) ^ i ≤ (2 ^ 23) ^ 12 := Nat.pow_le_pow_right (by decide) (by omega)
  refine Nat.le_trans (Nat.mul_le_mul (show g.length ≤ 2 ^ 4 by have := hg.len; have : (2 : Nat) ^ 4 = 16 := rfl; omega) (Nat.mul_le_mul (Nat.mul_le_mul_left _ e2) e3)) ?_
  have e4 : 2 ^ 4 * (2 ^ 54 * (2 ^ 20) ^ 13 * (2 ^ 3) ^ 13 * (2 ^ 23) ^ 12) = 2 ^ (4 + (54 + 20 * 13 + 3 * 13 + 23 * 12)) := by
    rw [← Nat.pow_mul, ← Nat.pow_mul, ← Nat.pow_mul, ← Nat.pow_add, ← Nat.pow_add, ← Nat.pow_add, ← Nat.pow_add]
  rw [e4]
  exact Nat.pow_le_pow_right (by decide) (by decide)
theorem GF.abs {f g : List Int} {n : Nat} (h : GF f n) (hg : GG g) : Bd 9000 (RS f n g) := by
  have n12 := h.n12
  have := det_abs (E := 740) n (fun i j => rr (coef f) n (coef g) g.length i j) (by omega) fun r c hr hc => h.ent hg r c (by omega)
  exact Nat.lt_of_le_of_lt this (Nat.pow_lt_pow_right (by decide) (by omega))
theorem GF.dl {f : List Int} {n : Nat} (h : GF f n) : GG (dl f) := ⟨norm_dl (.inr (by rw [h.mon.2]; decide)), (bds_dl h.bds (by have := h.len; have := h.n12; omega)).mono (by decide), by rw [len_dl]; have := h.len; have := h.n12; omega⟩
theorem GF.pk {f g : List Int} {n : Nat} (h : GF f n) (hg : GG g) : f.length = n + 1 ∧ 1 ≤ n ∧ n ≤ 26 ∧ g.length ≤ 60 ∧ Monic f ∧ Norm g ∧ Bds 5000 f ∧ Bds 5000 g ∧ 740 ≤ 9000 ∧ n * (740 + 5) < 9000 ∧ (∀ i j, i ≤ n → (rr (coef f) n (coef g) g.length i j).natAbs ≤ 2 ^ 740) := by
  have n12 := h.n12
  have := hg.len
  exact ⟨h.len, h.n1, by omega, by omega, h.mon, hg.nrm, h.bds.mono (by decide), hg.bds.mono (by decide), by decide, by omega, h.ent hg⟩
def DS (f : List Int) (n : Nat) : Int := tg n * RS f n (dl f)
theorem tg_abs : ∀ n, (tg n).natAbs = 1
  | 0 => rfl
  | n + 1 => by show (tg n * sg n).natAbs = 1; rw [Int.natAbs_mul, tg_abs n, sg_abs]
theorem GF.dabs {f : List Int} {n : Nat} (h : GF f n) : Bd 9000 (DS f n) := by
  refine Bd.le (y := RS f n (L2.dl f)) ?_ (h.abs h.dl)
  unfold DS
  rw [Int.natAbs_mul, tg_abs, Nat.one_mul]
  exact Nat.le_refl _
theorem GF.pkd {f : List Int} {n : Nat} (h : GF f n) : f.length = n + 1 ∧ 1 ≤ n ∧ n ≤ 26 ∧ Monic f ∧ Bds 4990 f ∧ 740 ≤ 9000 ∧ n * (740 + 5) < 9000 ∧ (∀ i j, i ≤ n → (rr (coef f) n (coef (L2.dl f)) (L2.dl f).length i j).natAbs ≤ 2 ^ 740) := by
  have n12 := h.n12
  exact ⟨h.len, h.n1, by omega, h.mon, h.bds.mono (by decide), by decide, by omega, h.ent h.dl⟩
theorem GF.of {f : List Int} {n : Nat} (l : f.length = n + 1) (n1 : 1 ≤ n) (n12 : n ≤ 12) (m : Monic f) (b : Bds 20 f) : GF f n := by
  refine ⟨l, n1, n12, m, b.mono (by decide), fun j => ?_⟩
  refine Nat.le_trans (wb_monic (top_coef l m) (fun i => Nat.le_of_lt (b.coef i)) (by decide) j) ?_
  exact Nat.le_mul_of_pos_left _ (by decide)
theorem coef_tm (f g : List Int) : coef (trim (pmul f g)) = cv (coef f) (coef g) := by rw [ctf, cpf]
theorem GF.norm_len {f : List Int} {n : Nat} (hp : Norm f) (h : Top (coef f) n) : f.length = n + 1 := by
  rcases hp with z | z
  · rw [z] at h
    have := h.one
    rw [coef_nil] at this
    cases this
  · have h1 : ¬ f.length - 1 > n := fun c => z (h.top _ c)
    have h2 : ¬ f.length ≤ n := fun c => by
      have := h.one
      rw [coef_ge c] at this
      cases this
    omega
theorem bds_mul {f g : List Int} {k l m : Nat} (hf : Bds k f) (hg : Bds l g) (hl : f.length ≤ 2 ^ m) : Bds (k + l + m) (trim (pmul f g)) := bds_of fun c _ => by
  rw [coef_tm]
  have e := cv_sgm (s := coef f) (f := coef g) (m := f.length) (fun t ht => coef_ge ht) c
  rw [← e]
  by_cases z : f.length = 0
  · rw [z]; show Int.natAbs 0 < _; exact Nat.pow_pos (by decide)
  have h : (sgm f.length fun i => coef f i * cv (xp i) (coef g) c).natAbs ≤ f.length * (2 ^ (k + l) - 1) := sgm_abs fun i hi => by
    have b1 := hf.coef i
    have b2 : Bd l (cv (xp i) (coef g) c) := by
      rw [cv_xp]; split
      · exact hg.coef _
      · exact Nat.pow_pos (by decide)
    have b3 := b1.mul b2
    exact Nat.le_sub_one_of_lt b3
  refine Nat.lt_of_le_of_lt h ?_
  rw [Nat.pow_add 2 (k + l) m, Nat.mul_comm]
  have p : 0 < 2 ^ (k + l) := Nat.pow_pos (by decide)
  exact Nat.lt_of_lt_of_le ((Nat.mul_lt_mul_right (by omega)).mpr (show 2 ^ (k + l) - 1 < 2 ^ (k + l) by omega)) (Nat.mul_le_mul_left _ hl)
theorem monic_of {f : List Int} {n : Nat} (nf : Norm f) (h : Top (coef f) n) : Monic f := by
  have l := GF.norm_len nf h
  exact ⟨(fun z => by rw [z] at l; cases l), by rw [l]; exact h.one⟩
/-- a product of two of at most six -/
theorem GF.times {f g : List Int} {n m : Nat} (hf : GF f n) (hg : GF g m) (n6 : n ≤ 6) (m6 : m ≤ 6) (bf : Bds 20 f) (bg : Bds 20 g) : GF (trim (pmul f g)) (n + m) := by
  have ht : Top (coef (trim (pmul f g))) (n + m) := by rw [coef_tm]; exact hf.top.mul hg.top
  have nn := norm_trim (pmul f g)
  refine ⟨GF.norm_len nn ht, by have := hf.n1; omega, by omega, monic_of nn ht, bds_mul (m := 3) bf bg (by rw [hf.len]; have : (2 : Nat) ^ 3 = 8 := rfl; omega), ?_⟩
  rw [coef_tm]
  have w := wb_cv (W := 2 ^ 20) (by decide) (wb_monic hf.top (fun i => Nat.le_of_lt (bf.coef i)) (by decide)) (wb_monic hg.top (fun i => Nat.le_of_lt (bg.coef i)) (by decide)) (P := n + 1) hf.top.fin
  intro j
  refine Nat.le_trans (w j) ?_
  rw [← Nat.pow_add]
  exact Nat.mul_le_mul_right _ (by omega)
def spPow : Sp := fun vs H Q _ => ∃ x many : Int, vs = [.int x, .int many] ∧ 0 ≤ many ∧ many ≤ 12 ∧ Bd 20 x ∧ Q (.int (x ^ many.toNat)) H
def spMonic2 : Sp := fun vs H Q _ => ∃ c mm : Int, vs = [.int c, .int mm] ∧ (mm = 3 ∨ mm = 4) ∧ ∀ (f : List Int) (n : Nat), f.length = n + 1 → 1 ≤ n → (n : Int) ≤ mm → Monic f → Bds 5 f → New H Q f
theorem pow_bd {x : Int} {m : Nat} (h : Bd m x) : ∀ k, Bd (1 + m * k) (x ^ k)
  | 0 => by rw [Int.pow_zero]; show Int.natAbs 1 < 2 ^ 1; decide
  | k + 1 => by rw [Int.pow_succ]; exact ((pow_bd h k).mul h).mono (by rw [Nat.mul_add]; omega)
theorem monic_snoc (f : List Int) : Monic (f ++ [1]) := by
  refine ⟨by simp, ?_⟩
  rw [coef_append, List.length_append]
  have e : f.length + [(1 : Int)].length - 1 = f.length := by simp
  rw [e, if_neg (by omega), Nat.sub_self]
  rfl
section
variable {P : Program} {w : World} {K : PySem.W.Frag} {mg : Str → Option Value} {base : Heap}
theorem ok_q_power (B : Blt mg) (F : Src K mg "_law_power" s_q_power ["_law_number_here", "_law_many"]) : Dfn P w K mg base 1 "_law_power" ["_law_number_here", "_law_many"] spPow := by
  refine F.ok sc_q_power (fun vs H Q E h => ?_) (fun f cdv A outer s H vs Q E hr h => ?_)
  · obtain ⟨x, k, rfl, _⟩ := h; rfl
  obtain ⟨x, k, rfl, h0, h12, bx, q⟩ := h
  refine ⟨_, pss_cons (ps_set (i := 2) sc_q_power.nd rfl (Or.inl rfl) pe_int)
    (pss_cons (ps_for PassesOwn.never rfl (pi_range1 rfl B.«range» (pa_cons (pv 1) pa_nil)) (pg_name (i := 3) sc_q_power.nd rfl (Or.inl rfl))
      (pss_one (ps_set (i := 2) sc_q_power.nd rfl (Or.inl rfl) (pe_op op_mulO (pv 2) (pv 0)))))
    (pss_one (ps_ret (pv 2)))), ?_⟩
  refine ⟨_, rfl, _, rfl, by omega, by omega, for_range (fun i σ H2 => H2 = H ∧ ∃ (o : Option V), σ = [some (.int x), some (.int k), some (.int (x ^ i)), o]) ⟨rfl, _, by rw [Int.pow_zero]; rfl⟩ ?_ ?_⟩
  · rintro i σ H2 hi ⟨rfl, o, rfl⟩
    refine ⟨_, rfl, _, rfl, _, _, rfl, rfl, mulOk (pow_bd bx i) bx (by omega), rfl, some (.int (0 + (i : Int))), ?_⟩
    rw [Int.pow_succ]
    rfl
  · rintro σ H2 ⟨rfl, o, rfl⟩
    exact ⟨_, rfl, q⟩
theorem ok_q_monic (B : Blt mg) (d_q_poly : Dfn P w K mg base 2 "_law_poly" ["_law_cell", "_law_most", "_law_kind"] spPoly1) (F : Src K mg "_law_monic" s_q_monic ["_law_cell", "_law_most"]) : Dfn P w K mg base 3 "_law_monic" ["_law_cell", "_law_most"] spMonic2 := by
  refine F.ok sc_q_monic (fun vs H Q E h => ?_) (fun f cdv A outer s H vs Q E hr h => ?_)
  · obtain ⟨c, mm, rfl, _⟩ := h; rfl
  obtain ⟨c, mm, rfl, hmv, q⟩ := h
  refine ⟨_, pss_cons (ps_set (i := 2) sc_q_monic.nd rfl (Or.inl rfl) (pe_slice (slK_list (K := K) rfl) (pe_def d_q_poly hr (pa_cons (pv 0) (pa_cons (pe_op op_sub (pv 1) pe_int) (pa_cons pe_int pa_nil)))) po_none (po_some (pv 1))))
    (pss_one (ps_ret (pe_op op_cat (pe_op op_cat (pv 2) (pe_op op_rep (pe_lst (pa_cons pe_int pa_nil)) (pe_callTy call_int1 rfl B.«int» bt_int (pa_cons (pe_cmpR (opK_eqD (K := K) rfl hr.units) (pv 2) (pe_lst pa_nil) (nomark _)) pa_nil)))) (pe_lst (pa_cons pe_int pa_nil))))), ?_⟩
  refine ⟨_, rfl, _, rfl, _, _, rfl, rfl, _, mm - 1, 1, rfl, by omega, by omega, rfl, fun low nlow blow llow pl H2 g2 n2' e2 => ?_⟩
  refine ⟨_, rfl, _, rfl, pl, _, rfl, SqL.of e2, fun p3 n3 => ?_⟩
  have ecut : cutV (low.map V.int) none (some mm) = low.map V.int := by
    obtain ⟨k, rfl⟩ : ∃ k : Nat, mm = (k : Int) := ⟨mm.toNat, by omega⟩
    unfold cutV
    have e1 : HT.sIx (low.map V.int).length 0 none = 0 := rfl
    have e2 : HT.sIx (low.map V.int).length (low.map V.int).length (some (k : Int)) = (low.map V.int).length := by rw [HT.sIx_nat, List.length_map]; omega
    rw [e1, e2, Nat.sub_zero, List.drop_zero, List.take_length]
  rw [ecut] at *
  have k3 := same_new n3 (.lst (low.map V.int))
  refine ⟨_, rfl, len_ok rfl, fun p4 n4 => ?_⟩
  have k4 := same_new n4 (.lst [.int 0])
  have e3 : (upd H2 p3 (.lst (low.map V.int))) p3 = some (.lst (low.map V.int)) := upd_same
  have e4 : (upd (upd H2 p3 (.lst (low.map V.int))) p4 (.lst [.int 0])) p4 = some (.lst [.int 0]) := upd_same
  have g24 := g2.trans (k3.trans k4)
  have e34 := k4 _ _ e3
  generalize upd (upd H2 p3 (.lst (low.map V.int))) p4 (.lst [.int 0]) = H4 at e4 g24 e34 ⊢
  have fin : ∀ (k : Nat) (H5 : Hp), Same H4 H5 → 1 ≤ low.length + k → ((low.length + k : Nat) : Int) ≤ mm → rRep (.ref p4) (.int (k : Int)) H5 fun y H2 => rCat (V.ref p3) y H2 fun x H1 => tLst (tCons (tC (V.int 1)) tNil) [some (.int c), some (.int mm), some (.ref p3)] H1 fun y H2 => rCat x y H2 Q := by
    intro k H5 g5 h1 h6
    refine ⟨p4, _, _, rfl, rfl, g5 _ _ e4, by omega, by omega, ?_, fun p5 n5 => ?_⟩
    · rw [sizeLine_eq]; show 1 * _ ≤ _; omega
    rw [Int.toNat_natCast, rep_zero] at *
    have k5 := same_new n5 (.lst ((List.replicate k (0 : Int)).map V.int))
    refine ⟨p3, p5, _, _, rfl, rfl, k5 _ _ (g5 _ _ e34), upd_same, ?_, fun p6 n6 => ?_⟩
    · rw [List.length_map, List.length_map, List.length_replicate, sizeLine_eq]; omega
    rw [← List.map_append] at *
    have k6 := same_new n6 (.lst ((low ++ List.replicate k (0 : Int)).map V.int))
    refine ⟨len_ok rfl, fun p7 n7 => ?_⟩
    have k7 := same_new n7 (.lst [.int 1])
    refine ⟨p6, p7, _, _, rfl, rfl, k7 _ _ upd_same, upd_same, ?_, fun p8 n8 => ?_⟩
    · rw [List.length_map, List.length_append, List.length_replicate, sizeLine_eq]; show _ + 1 ≤ _; omega
    have gA := (g24.trans g5).trans ((k5.trans k6).trans k7)
    refine q (low ++ List.replicate k 0 ++ [1]) (low.length + k) ?_ h1 h6 (monic_snoc _) ?_ p8 _ (gA.trans (same_new n8 _)) (gA.free n8) ?_
    · rw [List.length_append, List.length_append, List.length_replicate]; rfl
    · intro x hx
      rcases List.mem_append.mp hx with y | y
      · rcases List.mem_append.mp y with z | z
        · exact blow x z
        · rw [(List.mem_replicate.mp z).2]; show Int.natAbs 0 < 2 ^ 5; decide
      · rw [List.mem_singleton.mp y]; show Int.natAbs 1 < 2 ^ 5; decide
    · rw [upd_same]; simp only [List.map_append]; rfl
  refine ⟨_, rfl, len_ok rfl, fun pe npe => ?_⟩
  have ke := same_new npe (.lst [])
  refine eqL (xs := low) (ys := []) (SqL.of (ke _ _ e34)) (SqL.of upd_same) ?_
  refine .inr ⟨_, rfl, ?_⟩
  show rRep (V.ref p4) (V.int (if decide (low = []) = true then 1 else 0)) _ _
  by_cases y : low = []
  · rw [decide_eq_true y]
    exact fin 1 _ ke (by omega) (by rw [y]; show ((0 + 1 : Nat) : Int) ≤ mm; omega)
  · rw [decide_eq_false y]
    have h0 : 1 ≤ low.length := List.length_pos_iff.mpr y
    exact fin 0 _ ke (by omega) (by omega)
end
theorem coef_dlN (f : List Int) : coef (dl f) = dN (coef f) := funext fun m => coef_dl f m
theorem sg_is (n : Nat) : atI [V.int 1, V.int (-1)] (((n : Int)).fmod 2) = some (.int (sg n)) := by
  have e : ((n : Int)).fmod 2 = ((n % 2 : Nat) : Int) := by rw [Int.fmod_eq_emod_of_nonneg _ (by decide)]; omega
  rw [e]
  unfold sg
  rcases Nat.mod_two_eq_zero_or_one n with y | y <;> rw [y] <;> rfl
theorem tg_is (n : Nat) (h1 : 1 ≤ n) (h : n ≤ 26) : atI [V.int 1, V.int (-1)] ((((n : Int) * ((n : Int) - 1)).fdiv 2).fmod 2) = some (.int (tg n)) := by
  obtain ⟨t1, t2⟩ := tg_at n h
  have em : ((((n : Int) * ((n : Int) - 1)).fdiv 2).fmod 2) = ((n * (n - 1) / 2 % 2 : Nat) : Int) := by
    obtain ⟨k, rfl⟩ : ∃ k, n = k + 1 := ⟨n - 1, by omega⟩
    have e1 : ((k + 1 : Nat) : Int) - 1 = (k : Int) := by omega
    have e2 : k + 1 - 1 = k := by omega
    rw [e1, e2, ← Int.natCast_mul, Int.fdiv_eq_ediv_of_nonneg _ (by decide), Int.fmod_eq_emod_of_nonneg _ (by decide)]
    omega
  rw [em]
  rcases Nat.mod_two_eq_zero_or_one (n * (n - 1) / 2) with y | y
  · rw [t2 (by omega), y]; rfl
  · rw [t1 y, y]; rfl
def TF (n : Nat) (a b : Int) : List Int := [b, a] ++ List.replicate (n - 2) 0 ++ [1]
theorem tf_len (n : Nat) (a b : Int) (h : 2 ≤ n) : (TF n a b).length = n + 1 := by
  unfold TF
  rw [List.length_append, List.length_append, List.length_replicate]
  show 2 + (n - 2) + 1 = n + 1
  omega
theorem tf_coef (n : Nat) (a b : Int) (h : 2 ≤ n) : coef (TF n a b) = tri n a b := by
  funext k
  unfold TF tri
  rw [coef_append, List.length_append, List.length_replicate]
  show (if k < 2 + (n - 2) then _ else coef [1] (k - (2 + (n - 2)))) = _
  rw [show 2 + (n - 2) = n by omega]
  by_cases c : k < n
  · rw [if_pos c, if_neg (by omega), coef_pad]
    match k with
    | 0 => rfl
    | 1 => rfl
    | k + 2 => rw [coef_ge (by show 2 ≤ _; omega), if_neg (by omega), if_neg (by omega)]
  · rw [if_neg c]
    by_cases d : k = n
    · rw [if_pos d, d, Nat.sub_self]; rfl
    · rw [if_neg d, coef_ge (by show 1 ≤ _; omega), if_neg (by omega), if_neg (by omega)]
theorem tf_good {n : Nat} {a b : Int} (h : 2 ≤ n) (h12 : n ≤ 12) (ha : Bd 14 a) (hb : Bd 14 b) : GF (TF n a b) n := by
  refine GF.of (tf_len n a b h) (by omega) h12 (monic_snoc _) fun x hx => ?_
  rcases List.mem_append.mp hx with y | y
  · rcases List.mem_append.mp y with z | z
    · simp only [List.mem_cons, List.not_mem_nil, or_false] at z
      rcases z with rfl | rfl
      · exact hb.mono (by decide)
      · exact ha.mono (by decide)
    · rw [(List.mem_replicate.mp z).2]; show Int.natAbs 0 < 2 ^ 20; decide
  · rw [List.mem_singleton.mp y]; show Int.natAbs 1 < 2 ^ 20; decide
theorem tf_disc {n : Nat} {a b : Int} (h : 2 ≤ n) (g : GF (TF n a b) n) : DS (TF n a b) n = (b ^ (n - 1) * (n : Int) ^ n + sg (n - 1) * a ^ n * ((n : Int) - 1) ^ (n - 1)) * tg n := by
  have i := g.is (g := dl (TF n a b))
  rw [coef_dlN, tf_coef n a b h] at i
  unfold DS
  rw [tri_res h i, Int.mul_comm]
theorem sq_disc {g h : List Int} {n m : Nat} (hg : GF g n) (hh : GF h m) (hf : GF (trim (pmul (trim (pmul g g)) h)) (n + n + m)) : RS (trim (pmul (trim (pmul g g)) h)) (n + n + m) (dl (trim (pmul (trim (pmul g g)) h))) = 0 := by
  have i := hf.is (g := dl (trim (pmul (trim (pmul g g)) h)))
  rw [coef_dlN, coef_tm, coef_tm] at i
  exact sq_res hg.top hh.top hg.n1 i
def spLaw (K : PySem.W.Frag) : Sp := fun vs H Q _ => ∃ (a : Addr) (ns : List Int), vs = [.ref a] ∧ SqL K H a (ns.map V.int) ∧ ns.length ≤ 63 ∧ ∀ H', Q (.bl true) H'
section
variable {P : Program} {w : World} {K : PySem.W.Frag} {mg : Str → Option Value} {base : Heap}
theorem ok_law (B : Blt mg) (d_q_number : Dfn P w K mg base 2 "_law_number" ["_law_script", "_law_k"] (spNumber K)) (d_q_monic : Dfn P w K mg base 3 "_law_monic" ["_law_cell", "_law_most"] spMonic2) (d_q_power : Dfn P w K mg base 1 "_law_power" ["_law_number_here", "_law_many"] spPow) (d_q_times : Dfn P w K mg base 2 "_law_times" ["_law_f", "_law_g"] (spTimesL K)) (d_q_trimmed : Dfn P w K mg base 1 "_law_trimmed" ["_law_numbers"] (spTrim K)) (d_resultant : Dfn P w K mg base 3 "resultant" ["f", "g"] (spRes K)) (d_discriminant : Dfn P w K mg base 4 "discriminant" ["f"] (spDisc K))
    {f : Addr} {fd : FuncData} (F : Fun K "law" "law" s_law f fd) : FnOk P w K mg base CX0 5 f fd ["_law_script"] (spLaw K) := by
  refine F.ok sc_law (fun vs H Q E h => ?_) (fun cdv A outer s H vs Q E hr h => ?_)
  · obtain ⟨a, ns, rfl, _⟩ := h; rfl
  obtain ⟨a, ns, rfl, hS, hlen, q⟩ := h
  refine ⟨_, pss_cons (ps_for PassesOwn.never rfl (pi_range1 rfl B.«range» (pa_cons (pe_op op_add pe_int (pe_callB (call_min2 rfl) rfl B.«min» bt_min (pa_cons pe_int (pa_cons (pe_callB (callK_len (K := K) rfl) rfl B.«len» bt_len (pa_cons (pv 0) pa_nil)) pa_nil)))) pa_nil)) (pg_name (i := 1) sc_law.nd rfl (Or.inl rfl))
      (pss_cons (ps_set (i := 2) sc_law.nd rfl (Or.inl rfl) (pe_def d_q_number hr (pa_cons (pv 0) (pa_cons (pv 1) pa_nil))))
      (pss_cons (ps_set (i := 3) sc_law.nd rfl (Or.inl rfl) (pe_op op_add pe_int (pe_op op_modN (pv 2) pe_int)))
      (pss_cons (ps_set (i := 4) sc_law.nd rfl (Or.inl rfl) (pe_ix (ixK_list (K := K) rfl) (pe_lst (pa_cons pe_int (pa_cons (pe_op op_pow pe_int pe_int) pa_nil))) (pe_op op_modN (pe_op op_fdivW (pv 2) pe_int) pe_int) (fun _ _ => rfl)))
      (pss_cons (ps_set (i := 5) sc_law.nd rfl (Or.inl rfl) (pe_op op_mulO (pe_op op_modN (pe_op op_fdivW (pv 2) pe_int) (pv 4)) (pe_ix (ixK_list (K := K) rfl) (pe_lst (pa_cons pe_int (pa_cons (pe_un un_neg pe_int) pa_nil))) (pe_op op_modN (pe_op op_fdivW (pe_op op_fdivW (pv 2) pe_int) (pv 4)) pe_int) (fun _ _ => rfl))))
      (pss_cons (ps_set (i := 6) sc_law.nd rfl (Or.inl rfl) (pe_op op_mulO (pe_op op_modN (pe_op op_fdivW (pe_op op_fdivW (pv 2) pe_int) (pv 4)) (pv 4)) (pe_ix (ixK_list (K := K) rfl) (pe_lst (pa_cons pe_int (pa_cons (pe_un un_neg pe_int) pa_nil))) (pe_op op_modN (pe_op op_fdivW (pe_op op_fdivW (pe_op op_fdivW (pv 2) pe_int) (pv 4)) (pv 4)) pe_int) (fun _ _ => rfl))))
      (pss_cons (ps_set (i := 7) sc_law.nd rfl (Or.inl rfl) (pe_op op_mulO (pe_def d_q_power hr (pa_cons (pv 6) (pa_cons (pe_op op_sub (pv 3) pe_int) pa_nil))) (pe_def d_q_power hr (pa_cons (pv 3) (pa_cons (pv 3) pa_nil)))))
      (pss_cons (ps_set (i := 7) sc_law.nd rfl (Or.inl rfl) (pe_op op_add (pv 7) (pe_op op_mulO (pe_op op_mulO (pe_ix (ixK_list (K := K) rfl) (pe_lst (pa_cons pe_int (pa_cons (pe_un un_neg pe_int) pa_nil))) (pe_op op_modN (pe_op op_sub (pv 3) pe_int) pe_int) (fun _ _ => rfl)) (pe_def d_q_power hr (pa_cons (pv 5) (pa_cons (pv 3) pa_nil)))) (pe_def d_q_power hr (pa_cons (pe_op op_sub (pv 3) pe_int) (pa_cons (pe_op op_sub (pv 3) pe_int) pa_nil))))))
      (pss_cons (ps_set (i := 7) sc_law.nd rfl (Or.inl rfl) (pe_op op_mulO (pv 7) (pe_ix (ixK_list (K := K) rfl) (pe_lst (pa_cons pe_int (pa_cons (pe_un un_neg pe_int) pa_nil))) (pe_op op_modN (pe_op op_fdivW (pe_op op_mulO (pv 3) (pe_op op_sub (pv 3) pe_int)) pe_int) pe_int) (fun _ _ => rfl))))
      (pss_cons (ps_set (i := 8) sc_law.nd rfl (Or.inl rfl) (pe_op op_cat (pe_op op_cat (pe_lst (pa_cons (pv 6) (pa_cons (pv 5) pa_nil))) (pe_op op_rep (pe_lst (pa_cons pe_int pa_nil)) (pe_op op_sub (pv 3) pe_int))) (pe_lst (pa_cons pe_int pa_nil))))
      (pss_cons (ps_if (pt_cmpR op_eq (pv 3) pe_int (nomark _))
        (pss_one (ps_set (i := 8) sc_law.nd rfl (Or.inl rfl) (pe_lst (pa_cons (pv 6) (pa_cons (pv 5) (pa_cons pe_int pa_nil))))))
        (pss_nil))
      (pss_cons (ps_if (pt_cmpR op_ne (pe_def d_discriminant hr (pa_cons (pv 8) pa_nil)) (pv 7) (nomark _))
        (pss_one (ps_ret pe_bl))
        (pss_nil))
      (pss_cons (ps_set (i := 9) sc_law.nd rfl (Or.inl rfl) (pe_def d_q_monic hr (pa_cons (pe_def d_q_number hr (pa_cons (pv 0) (pa_cons (pe_op op_add (pv 1) pe_int) pa_nil))) (pa_cons pe_int pa_nil))))
      (pss_cons (ps_set (i := 10) sc_law.nd rfl (Or.inl rfl) (pe_def d_q_monic hr (pa_cons (pe_def d_q_number hr (pa_cons (pv 0) (pa_cons (pe_op op_add (pv 1) pe_int) pa_nil))) (pa_cons pe_int pa_nil))))
      (pss_cons (ps_set (i := 11) sc_law.nd rfl (Or.inr rfl) (pe_def d_q_times hr (pa_cons (pe_def d_q_times hr (pa_cons (pv 9) (pa_cons (pv 9) pa_nil))) (pa_cons (pv 10) pa_nil))))
      (pss_cons (ps_set (i := 12) sc_law.nd rfl (Or.inl rfl) (pe_def d_q_trimmed hr (pa_cons (pe_comp (compScope_mk (N := ["_law_j", "_law_both"]) (sl := [none, some 11]) (defScope s_law) ["_law_script", "_law_k", "_law_cell", "_law_n", "_law_base", "_law_a", "_law_b", "_law_due", "_law_f", "_law_g", "_law_h", "_law_both", "_law_slope"] rfl rfl (by decide +kernel)) rfl (pi_range2 rfl B.«range» (pa_cons pe_int (pa_cons (pe_callB (callK_len (K := K) rfl) rfl B.«len» bt_len (pa_cons (pv 11) pa_nil)) pa_nil))) (fun _ _ _ _ _ => (pg_name (i := 0) (by show List.Nodup (["_law_j", "_law_both"] : List Str); decide +kernel) rfl (Or.inl rfl))) (fun _ _ _ _ _ => pif_none) (fun _ _ _ _ _ => (pe_op op_mulO (pv 0) (pe_ix (ixK_list (K := K) rfl) (pv 1) (pv 0) (fun _ _ => rfl))))) pa_nil)))
      (pss_one (ps_if (PW.pt (pw_or (pt_cmpR op_ne (pe_def d_discriminant hr (pa_cons (pv 11) pa_nil)) pe_int (nomark _)) (pw_or1 (pt_cmpR op_ne (pe_def d_resultant hr (pa_cons (pv 11) (pa_cons (pv 12) pa_nil))) pe_int (nomark _)))))
        (pss_one (ps_ret pe_bl))
        (pss_nil)))))))))))))))))))
    (pss_one (ps_ret pe_bl)), ?_⟩
  refine ⟨_, rfl, a, _, rfl, .inl hS, _, _, rfl, ?_⟩
  walk_at "rd"
  have hn : (ns.map V.int).length = ns.length := List.length_map _
  have hrange : ∀ L : Int, 0 ≤ L → L ≤ 63 → -(2 ^ 62) ≤ 1 + (if L < 3 then L else 3) ∧ 1 + (if L < 3 then L else 3) < 2 ^ 62 ∧ (1 + (if L < 3 then L else 3)).toNat ≤ 4 := by
    intro L h0 h1
    split <;> omega
  obtain ⟨r1, r2, r3⟩ := hrange ((ns.map V.int).length : Nat) (by omega) (by omega)
  refine ⟨r1, r2, for_range (fun i σ H2 => Same H H2 ∧ ∃ o1 o2 o3 o4 o5 o6 o7 o8 o9 o10 o11 o12, σ = [some (.ref a), o1, o2, o3, o4, o5, o6, o7, o8, o9, o10, o11, o12]) ⟨Same.refl H, _, _, _, _, _, _, _, _, _, _, _, _, rfl⟩ ?_ ?_⟩
  · rintro i σ H0 hi ⟨g0, o1, o2, o3, o4, o5, o6, o7, o8, o9, o10, o11, o12, rfl⟩
    refine ⟨_, rfl, _, rfl, a, ns, _, rfl, g0.seq hS, by omega, by omega, fun c => ?_⟩
    have r11 := fmod_range c (y := 11) (by decide)
    refine ⟨_, rfl, _, _, rfl, rfl, (by decide : (11 : Int) ≠ 0), _, _, rfl, rfl, ?_⟩
    obtain ⟨nn, hnn⟩ : ∃ nn : Nat, 2 + c.fmod 11 = (nn : Int) := ⟨(2 + c.fmod 11).toNat, by omega⟩
    have hn2 : 2 ≤ nn ∧ nn ≤ 12 := by omega
    show gName 3 (V.int (2 + c.fmod 11)) _ _ _
    rw [hnn]
    walk_at "rd"
    intro p1 n1
    walk_at "rd"
    have k1 := same_new n1 (.lst [.int 100, .int (10 ^ 4)])
    have r2 := fmod_range (c.fdiv 11) (y := 2) (by decide)
    obtain ⟨bs, hbs, hb1, hb2⟩ := pick (xs := [.int 100, .int (10 ^ 4)]) (P := fun n => 0 < n ∧ Bd 14 n) r2.1 r2.2 (by
      intro v hv
      simp only [List.mem_cons, List.not_mem_nil, or_false] at hv
      rcases hv with rfl | rfl <;> exact ⟨_, rfl, by decide, show Int.natAbs _ < 2 ^ 14 by decide⟩)
    refine ⟨p1, _, _, _, rfl, rfl, SqL.of upd_same, hbs, ?_⟩
    have hb0 : bs ≠ 0 := by omega
    have d22 : CDivW c 22 := (Bd.small (by decide) (by decide)).dv (by decide)
    have d44 : CDivW c 44 := (Bd.small (by decide) (by decide)).dv (by decide)
    refine ⟨_, rfl, _, _, rfl, rfl, d22, _, rfl, _, _, rfl, rfl, hb0, ?_⟩
    walk_at "rd"
    intro p2 n2
    have k2 := same_new n2 (.lst [.int 1, .int (-1)])
    refine ⟨_, rfl, _, _, rfl, rfl, d22, _, rfl, _, _, rfl, rfl, hb2.dv hb0, _, _, rfl, rfl, show (2 : Int) ≠ 0 by decide, ?_⟩
    obtain ⟨s1, hs1, iS1⟩ := sg_at ((c.fdiv 22).fdiv bs)
    refine ⟨p2, _, _, _, rfl, rfl, SqL.of upd_same, hs1, _, _, rfl, rfl, sg_ok iS1, ?_⟩
    have bA := iS1.bd (mod_bd (x := c.fdiv 22) hb1 hb2)
    show gName 5 (V.int ((c.fdiv 22).fmod bs * s1)) _ _ _
    generalize (c.fdiv 22).fmod bs * s1 = A0 at bA
    refine ⟨_, rfl, _, _, rfl, rfl, d44, _, rfl, _, _, rfl, rfl, hb2.dv hb0, _, rfl, _, _, rfl, rfl, hb0, ?_⟩
    walk_at "rd"
    intro p3 n3
    have k3 := same_new n3 (.lst [.int 1, .int (-1)])
    refine ⟨_, rfl, _, _, rfl, rfl, d44, _, rfl, _, _, rfl, rfl, hb2.dv hb0, _, rfl, _, _, rfl, rfl, hb2.dv hb0, _, _, rfl, rfl, show (2 : Int) ≠ 0 by decide, ?_⟩
    obtain ⟨s2, hs2, iS2⟩ := sg_at (((c.fdiv 44).fdiv bs).fdiv bs)
    refine ⟨p3, _, _, _, rfl, rfl, SqL.of upd_same, hs2, _, _, rfl, rfl, sg_ok iS2, ?_⟩
    have bB := iS2.bd (mod_bd (x := (c.fdiv 44).fdiv bs) hb1 hb2)
    show gName 6 (V.int (((c.fdiv 44).fdiv bs).fmod bs * s2)) _ _ _
    generalize ((c.fdiv 44).fdiv bs).fmod bs * s2 = B0 at bB
    have gA := g0.trans ((k1.trans k2).trans k3)
    generalize upd (upd (upd H0 p1 _) p2 _) p3 _ = H1 at gA
    clear k1 k2 k3 n1 n2 n3
    have bN : Bd 20 (nn : Int) := by show Int.natAbs _ < 2 ^ 20; omega
    have bN1 : Bd 20 ((nn : Int) - 1) := by show Int.natAbs _ < 2 ^ 20; omega
    have eN : ((nn : Int) - 1).toNat = nn - 1 := by omega
    have bP1 := pow_bd (bB.mono (n := 20) (by decide)) (nn - 1)
    have bP2 := pow_bd bN nn
    have bP3 := pow_bd (bA.mono (n := 20) (by decide)) nn
    have bP4 := pow_bd bN1 (nn - 1)
    refine ⟨_, rfl, _, rfl, _, _, rfl, rfl, _, _, rfl, by omega, by omega, bB.mono (by decide), ?_⟩
    rw [eN]
    refine ⟨_, rfl, _, rfl, _, _, rfl, by omega, by omega, bN, ?_⟩
    rw [Int.toNat_natCast]
    refine ⟨_, _, rfl, rfl, mulOk bP1 bP2 (by omega), ?_⟩
    refine ⟨_, rfl, ?_⟩
    walk_at "rd"
    intro p4 n4
    have k4 := same_new n4 (.lst [.int 1, .int (-1)])
    refine ⟨_, rfl, _, _, rfl, rfl, _, _, rfl, rfl, show (2 : Int) ≠ 0 by decide, ?_⟩
    have e1 : (nn : Int) - 1 = ((nn - 1 : Nat) : Int) := by omega
    refine ⟨p4, _, _, _, rfl, rfl, SqL.of upd_same, (by rw [e1]; exact sg_is (nn - 1)), ?_⟩
    have bS : Bd 1 (sg (nn - 1)) := by show Int.natAbs _ < 2 ^ 1; rw [sg_abs]; decide
    refine ⟨_, rfl, _, rfl, _, _, rfl, by omega, by omega, bA.mono (by decide), ?_⟩
    rw [Int.toNat_natCast]
    refine ⟨_, _, rfl, rfl, mulOk bS bP3 (by omega), ?_⟩
    refine ⟨_, rfl, _, _, rfl, rfl, _, rfl, _, _, rfl, rfl, _, _, rfl, by omega, by omega, bN1, ?_⟩
    rw [eN]
    refine ⟨_, _, rfl, rfl, mulOk (bS.mul bP3) bP4 (by omega), _, _, rfl, rfl, ?_⟩
    show gName 7 (V.int (B0 ^ (nn - 1) * (nn : Int) ^ nn + sg (nn - 1) * A0 ^ nn * ((nn : Int) - 1) ^ (nn - 1))) _ _ _
    have bD : Bd 2000 (B0 ^ (nn - 1) * (nn : Int) ^ nn + sg (nn - 1) * A0 ^ nn * ((nn : Int) - 1) ^ (nn - 1)) := ((bP1.mul bP2).add ((bS.mul bP3).mul bP4)).mono (by omega)
    have hT := tf_good hn2.1 hn2.2 bA bB
    have eT := tf_disc hn2.1 hT
    generalize B0 ^ (nn - 1) * (nn : Int) ^ nn + sg (nn - 1) * A0 ^ nn * ((nn : Int) - 1) ^ (nn - 1) = D0 at bD eT
    refine ⟨_, rfl, ?_⟩
    walk_at "rd"
    intro p5 n5
    have k5 := same_new n5 (.lst [.int 1, .int (-1)])
    refine ⟨_, rfl, _, rfl, _, _, rfl, rfl, _, _, rfl, rfl, mulOkL (by omega) (by omega), _, _, rfl, rfl, (Bd.small (by decide) (by decide)).dv (by decide), _, _, rfl, rfl, show (2 : Int) ≠ 0 by decide, ?_⟩
    have bT : Bd 1 (tg nn) := by show Int.natAbs _ < 2 ^ 1; rw [tg_abs]; decide
    refine ⟨p5, _, _, _, rfl, rfl, SqL.of upd_same, tg_is nn (by omega) (by omega), _, _, rfl, rfl, mulOk bD bT (by omega), ?_⟩
    show gName 7 (V.int (D0 * tg nn)) _ _ _
    have gA := gA.trans (k4.trans k5)
    generalize upd (upd H1 p4 _) p5 _ = H2 at gA
    clear k4 k5 n4 n5
    -- the polynomial
    refine ⟨_, rfl, _, rfl, len_ok rfl, fun q1 w1 => ?_⟩
    have k1 := same_new w1 (.lst [.int B0, .int A0])
    refine ⟨len_ok rfl, fun q2 w2 => ?_⟩
    have k2 := same_new w2 (.lst [.int 0])
    refine ⟨_, rfl, _, _, rfl, rfl, q2, _, _, rfl, rfl, upd_same, by omega, by omega, ?_, fun q3 w3 => ?_⟩
    · rw [sizeLine_eq]; show 1 * _ ≤ _; omega
    have e2 : ((nn : Int) - 2).toNat = nn - 2 := by omega
    rw [e2, rep_zero] at *
    have k3 := same_new w3 (.lst ((List.replicate (nn - 2) (0 : Int)).map V.int))
    refine ⟨q1, q3, _, _, rfl, rfl, k3 _ _ (k2 _ _ upd_same), upd_same, ?_, fun q4 w4 => ?_⟩
    · rw [List.length_map, List.length_replicate, sizeLine_eq]; show 2 + _ ≤ _; omega
    have k4 := same_new w4 (.lst ([V.int B0, V.int A0] ++ (List.replicate (nn - 2) (0 : Int)).map V.int))
    refine ⟨len_ok rfl, fun q5 w5 => ?_⟩
    have k5 := same_new w5 (.lst [.int 1])
    refine ⟨q4, q5, _, _, rfl, rfl, k5 _ _ upd_same, upd_same, ?_, fun q6 w6 => ?_⟩
    · rw [List.length_append, List.length_map, List.length_replicate, sizeLine_eq]; show 2 + _ + 1 ≤ _; omega
    have eF : [V.int B0, V.int A0] ++ (List.replicate (nn - 2) (0 : Int)).map V.int ++ [V.int 1] = (TF nn A0 B0).map V.int := by
      unfold TF
      rw [List.map_append, List.map_append]; rfl
    rw [eF] at *
    have k6 := same_new w6 (.lst ((TF nn A0 B0).map V.int))
    have gA := gA.trans ((((k1.trans k2).trans k3).trans (k4.trans k5)).trans k6)
    have e6 : (upd _ q6 (.lst ((TF nn A0 B0).map V.int))) q6 = some (.lst ((TF nn A0 B0).map V.int)) := upd_same (H := upd (upd (upd (upd (upd H2 q1 (.lst [.int B0, .int A0])) q2 (.lst [.int 0])) q3 (.lst ((List.replicate (nn - 2) (0 : Int)).map V.int))) q4 (.lst ([V.int B0, V.int A0] ++ (List.replicate (nn - 2) (0 : Int)).map V.int))) q5 (.lst [.int 1]))
    generalize upd _ q6 (.lst ((TF nn A0 B0).map V.int)) = H3 at gA e6 ⊢
    clear k1 k2 k3 k4 k5 k6 w1 w2 w3 w4 w5 w6
    show gName 8 (V.ref q6) _ _ _
    apply merge (M := fun σ HM => Same H HM ∧ ∃ pf, HM pf = some (.lst ((TF nn A0 B0).map V.int)) ∧ σ = [some (.ref a), some (.int (0 + (i : Int))), some (.int c), some (.int (nn : Int)), some (.int bs), some (.int A0), some (.int B0), some (.int (D0 * tg nn)), some (.ref pf), o9, o10, o11, o12])
    case h1 =>
      intro key
      refine ⟨_, rfl, rfl, _, rfl, ?_⟩
      by_cases y : nn = 2
      · refine iteY (by show V.int (nn : Int) = V.int 2; rw [y]; rfl) ?_
        refine ⟨_, rfl, _, rfl, len_ok rfl, fun p7 n7 => ?_⟩
        have k7 := same_new n7 (.lst [.int B0, .int A0, .int 1])
        show gName 8 (V.ref p7) _ _ _
        exact key _ _ ⟨gA.trans k7, p7, by rw [upd_same, y]; rfl, rfl⟩
      · refine iteN (fun z => y (by have z' : V.int (nn : Int) = V.int 2 := z; have := V.int.inj z'; omega)) ?_
        exact key _ _ ⟨gA, q6, e6, rfl⟩
    case h2 =>
      rintro σ HM ⟨gA, pf, ef, rfl⟩
      refine ⟨_, rfl, ?_⟩
      have z := hT.pkd
      refine ⟨pf, TF nn A0 B0, nn, 740, rfl, SqL.of ef, z.1, z.2.1, z.2.2.1, z.2.2.2.1, z.2.2.2.2.1, z.2.2.2.2.2.1, z.2.2.2.2.2.2.1, z.2.2.2.2.2.2.2, fun H4 g4 => ?_⟩
      clear z
      refine ⟨_, rfl, rfl, _, rfl, iteNS (congrArg V.int eT) ?_⟩
      have gA := gA.trans g4
      refine ⟨_, rfl, _, rfl, _, _, rfl, rfl, a, ns, _, rfl, gA.seq hS, by omega, by omega, fun c2 => ?_⟩
      refine ⟨_, 3, rfl, .inl rfl, fun G n lG n1 n3 mG bG pg H5 g5 _ eg => ?_⟩
      have gA := gA.trans g5
      refine ⟨_, rfl, _, rfl, _, _, rfl, rfl, a, ns, _, rfl, gA.seq hS, by omega, by omega, fun c3 => ?_⟩
      refine ⟨_, 4, rfl, .inr rfl, fun Hh m lH m1 m4 mH bH ph H6 g6 _ eh => ?_⟩
      have gA := gA.trans g6
      have eg := g6 _ _ eg
      refine ⟨_, rfl, _, rfl, pg, pg, G, G, rfl, SqL.of eg, SqL.of eg, by omega, by omega, bG.mono (by decide), bG.mono (by decide), fun pgg H7 g7 _ egg => ?_⟩
      have gA := gA.trans g7
      have eh := g7 _ _ eh
      have bGG := bds_mul (m := 2) bG bG (by rw [lG]; have : (2 : Nat) ^ 2 = 4 := rfl; omega)
      have hG : GF G n := .of lG n1 (by omega) mG (bG.mono (by decide))
      have hH : GF Hh m := .of lH m1 (by omega) mH (bH.mono (by decide))
      have tGG : Top (coef (trim (pmul G G))) (n + n) := by rw [coef_tm]; exact hG.top.mul hG.top
      have lGG := GF.norm_len (norm_trim _) tGG
      refine ⟨_, rfl, pgg, ph, trim (pmul G G), Hh, rfl, SqL.of egg, SqL.of eh, by omega, by omega, bGG.mono (by decide), bH.mono (by decide), fun pb H8 g8 _ eb => ?_⟩
      have gA := gA.trans g8
      have bF := bds_mul (m := 3) bGG bH (by rw [lGG]; have : (2 : Nat) ^ 3 = 8 := rfl; omega)
      have tF : Top (coef (trim (pmul (trim (pmul G G)) Hh))) (n + n + m) := by rw [coef_tm]; exact tGG.mul hH.top
      have hF : GF (trim (pmul (trim (pmul G G)) Hh)) (n + n + m) := .of (GF.norm_len (norm_trim _) tF) (by omega) (by omega) (monic_of (norm_trim _) tF) bF
      have z0 := sq_disc hG hH hF
      have nF := norm_trim (pmul (trim (pmul G G)) Hh)
      generalize trim (pmul (trim (pmul G G)) Hh) = FF at eb bF hF z0 tF nF
      have lFm : (FF.map V.int).length = FF.length := List.length_map _
      have lF := hF.len
      clear egg eg eh
      refine ⟨_, rfl, pb, _, rfl, .inl (SqL.of eb), ?_⟩
      rw [lFm]
      refine ⟨_, _, rfl, ⟨by omega, by omega, by omega, by omega⟩, fun D hD => ?_⟩
      rw [show ((FF.length : Int) - 1).toNat = FF.length - 1 by omega]
      refine comp_range (fun j ys HA => Same H8 HA ∧ ys = ((List.range j).map fun i : Nat => ((i + 1 : Nat) : Int) * coef FF (i + 1)).map V.int) ⟨same_new hD _, rfl⟩ (fun j m' ys HA hm hj hy hlen h => ?_) (fun ys HA hy h => ?_)
      · obtain ⟨gg, rfl⟩ := h
        refine ⟨_, rfl, _, rfl, _, rfl, pb, _, _, _, rfl, rfl, SqL.of (gg _ _ eb), atI_int (by omega) (by omega), _, _, rfl, rfl, mulOkL (by omega) (by omega), ?_⟩
        refine CW.emit hm hj (by rw [sizeLine_eq]; omega) hy hlen ⟨Same.free_upd gg hD _, ?_⟩
        rw [List.range_succ, List.map_append, List.map_append]
        rw [show ((1 : Int) + (j : Int)).toNat = j + 1 by omega, show (1 : Int) + (j : Int) = ((j + 1 : Nat) : Int) by omega]
        rfl
      · obtain ⟨gg, rfl⟩ := h
        have hdl := hF.dl
        have hy' : HA D = some (.lst ((dl FF).map V.int)) := hy
        refine ⟨D, dl FF, rfl, SqL.of hy', by rw [len_dl]; omega, fun ps H9 g9 _ e9 => ?_⟩
        have et : trim (dl FF) = dl FF := norm_ext (norm_trim _) hdl.nrm fun m => coef_trim _ m
        rw [et] at e9
        have gA := gA.trans (gg.trans g9)
        have eb := g9 _ _ (gg _ _ eb)
        refine ⟨_, rfl, ?_⟩
        have z := hF.pkd
        refine ⟨pb, FF, (n + n + m), 740, rfl, SqL.of eb, z.1, z.2.1, z.2.2.1, z.2.2.2.1, z.2.2.2.2.1, z.2.2.2.2.2.1, z.2.2.2.2.2.2.1, z.2.2.2.2.2.2.2, fun H10 g10 => ?_⟩
        clear z
        have d0 : DS FF (n + n + m) = 0 := by unfold DS; rw [z0, Int.mul_zero]
        refine ⟨rfl, _, rfl, iteNS (congrArg V.int d0) ?_⟩
        refine ⟨_, rfl, _, rfl, ?_⟩
        have z := hF.pk hdl
        refine ⟨pb, ps, FF, dl FF, (n + n + m), 740, rfl, SqL.of (g10 _ _ eb), SqL.of (g10 _ _ e9), z.1, z.2.1, z.2.2.1, z.2.2.2.1, z.2.2.2.2.1, z.2.2.2.2.2.1, z.2.2.2.2.2.2.1, z.2.2.2.2.2.2.2.1, z.2.2.2.2.2.2.2.2.1, z.2.2.2.2.2.2.2.2.2.1, z.2.2.2.2.2.2.2.2.2.2, fun H11 g11 => ?_⟩
        clear z
        refine ⟨rfl, _, rfl, iteNS (congrArg V.int z0) ?_⟩
        exact ⟨gA.trans (g10.trans g11), _, _, _, _, _, _, _, _, _, _, _, _, rfl⟩
  · rintro σ H0 ⟨g0, o1, o2, o3, o4, o5, o6, o7, o8, o9, o10, o11, o12, rfl⟩
    exact q _
end
theorem all_mk {l : PySem.W.OpenLaw} {w : World} {K : PySem.W.Frag} {h : Heap} {mg : Str → Option Value} {fa : Addr} (X : K.In h) (G : h.Ns mainGlobals mg) (hfa : mg "law" = some (.ref fa))
    {f0 : Addr} {od0 an0 : Option Addr} {sl0 : Array (Option Value)} {oc0 kV0 dc0 pm0 cd0 ct0 : Value}
    {f1 : Addr} {od1 an1 : Option Addr} {sl1 : Array (Option Value)} {oc1 kV1 dc1 pm1 cd1 ct1 : Value}
    {f2 : Addr} {od2 an2 : Option Addr} {sl2 : Array (Option Value)} {oc2 kV2 dc2 pm2 cd2 ct2 : Value}
    {f3 : Addr} {od3 an3 : Option Addr} {sl3 : Array (Option Value)} {oc3 kV3 dc3 pm3 cd3 ct3 : Value}
    {f4 : Addr} {od4 an4 : Option Addr} {sl4 : Array (Option Value)} {oc4 kV4 dc4 pm4 cd4 ct4 : Value}
    {f5 : Addr} {od5 an5 : Option Addr} {sl5 : Array (Option Value)} {oc5 kV5 dc5 pm5 cd5 ct5 : Value}
    {f6 : Addr} {od6 an6 : Option Addr} {sl6 : Array (Option Value)} {oc6 kV6 dc6 pm6 cd6 ct6 : Value}
    {f7 : Addr} {od7 an7 : Option Addr} {sl7 : Array (Option Value)} {oc7 kV7 dc7 pm7 cd7 ct7 : Value}
    {f8 : Addr} {od8 an8 : Option Addr} {sl8 : Array (Option Value)} {oc8 kV8 dc8 pm8 cd8 ct8 : Value}
    {f9 : Addr} {od9 an9 : Option Addr} {sl9 : Array (Option Value)} {oc9 kV9 dc9 pm9 cd9 ct9 : Value}
    {f10 : Addr} {od10 an10 : Option Addr} {sl10 : Array (Option Value)} {oc10 kV10 dc10 pm10 cd10 ct10 : Value}
    {f11 : Addr} {od11 an11 : Option Addr} {sl11 : Array (Option Value)} {oc11 kV11 dc11 pm11 cd11 ct11 : Value}
    {f12 : Addr} {od12 an12 : Option Addr} {sl12 : Array (Option Value)} {oc12 kV12 dc12 pm12 cd12 ct12 : Value}
    {f13 : Addr} {od13 an13 : Option Addr} {sl13 : Array (Option Value)} {oc13 kV13 dc13 pm13 cd13 ct13 : Value}
    {f14 : Addr} {od14 an14 : Option Addr} {sl14 : Array (Option Value)} {oc14 kV14 dc14 pm14 cd14 ct14 : Value}
    {f15 : Addr} {od15 an15 : Option Addr} {sl15 : Array (Option Value)} {oc15 kV15 dc15 pm15 cd15 ct15 : Value}
    {f16 : Addr} {od16 an16 : Option Addr} {sl16 : Array (Option Value)} {oc16 kV16 dc16 pm16 cd16 ct16 : Value}
    {f17 : Addr} {od17 an17 : Option Addr} {sl17 : Array (Option Value)} {oc17 kV17 dc17 pm17 cd17 ct17 : Value}
    (a0 : PySem.W.nsIn K mainGlobals "without_noughts_behind" = some (some (.ref f0))) (l0 : K.lookup f0 = some ⟨oc0, od0, .func (PySem.W.fnOf "without_noughts_behind" "without_noughts_behind" (defArgs s_without_noughts_behind) (defBody s_without_noughts_behind) (defScope s_without_noughts_behind) .none kV0 dc0 pm0 an0 cd0 ct0), sl0⟩) (c0 : PySem.W.codeIn K cd0 "without_noughts_behind" = true) (k0 : PySem.W.keepIn K (.ref f0) = true)
    (a1 : PySem.W.nsIn K mainGlobals "coefficient" = some (some (.ref f1))) (l1 : K.lookup f1 = some ⟨oc1, od1, .func (PySem.W.fnOf "coefficient" "coefficient" (defArgs s_coefficient) (defBody s_coefficient) (defScope s_coefficient) .none kV1 dc1 pm1 an1 cd1 ct1), sl1⟩) (c1 : PySem.W.codeIn K cd1 "coefficient" = true) (k1 : PySem.W.keepIn K (.ref f1) = true)
    (a2 : PySem.W.nsIn K mainGlobals "multiplied" = some (some (.ref f2))) (l2 : K.lookup f2 = some ⟨oc2, od2, .func (PySem.W.fnOf "multiplied" "multiplied" (defArgs s_multiplied) (defBody s_multiplied) (defScope s_multiplied) .none kV2 dc2 pm2 an2 cd2 ct2), sl2⟩) (c2 : PySem.W.codeIn K cd2 "multiplied" = true) (k2 : PySem.W.keepIn K (.ref f2) = true)
    (a3 : PySem.W.nsIn K mainGlobals "derived" = some (some (.ref f3))) (l3 : K.lookup f3 = some ⟨oc3, od3, .func (PySem.W.fnOf "derived" "derived" (defArgs s_derived) (defBody s_derived) (defScope s_derived) .none kV3 dc3 pm3 an3 cd3 ct3), sl3⟩) (c3 : PySem.W.codeIn K cd3 "derived" = true) (k3 : PySem.W.keepIn K (.ref f3) = true)
    (a4 : PySem.W.nsIn K mainGlobals "divided" = some (some (.ref f4))) (l4 : K.lookup f4 = some ⟨oc4, od4, .func (PySem.W.fnOf "divided" "divided" (defArgs s_divided) (defBody s_divided) (defScope s_divided) .none kV4 dc4 pm4 an4 cd4 ct4), sl4⟩) (c4 : PySem.W.codeIn K cd4 "divided" = true) (k4 : PySem.W.keepIn K (.ref f4) = true)
    (a5 : PySem.W.nsIn K mainGlobals "place_of_lead" = some (some (.ref f5))) (l5 : K.lookup f5 = some ⟨oc5, od5, .func (PySem.W.fnOf "place_of_lead" "place_of_lead" (defArgs s_place_of_lead) (defBody s_place_of_lead) (defScope s_place_of_lead) .none kV5 dc5 pm5 an5 cd5 ct5), sl5⟩) (c5 : PySem.W.codeIn K cd5 "place_of_lead" = true) (k5 : PySem.W.keepIn K (.ref f5) = true)
    (a6 : PySem.W.nsIn K mainGlobals "lessened" = some (some (.ref f6))) (l6 : K.lookup f6 = some ⟨oc6, od6, .func (PySem.W.fnOf "lessened" "lessened" (defArgs s_lessened) (defBody s_lessened) (defScope s_lessened) .none kV6 dc6 pm6 an6 cd6 ct6), sl6⟩) (c6 : PySem.W.codeIn K cd6 "lessened" = true) (k6 : PySem.W.keepIn K (.ref f6) = true)
    (a7 : PySem.W.nsIn K mainGlobals "determinant" = some (some (.ref f7))) (l7 : K.lookup f7 = some ⟨oc7, od7, .func (PySem.W.fnOf "determinant" "determinant" (defArgs s_determinant) (defBody s_determinant) (defScope s_determinant) .none kV7 dc7 pm7 an7 cd7 ct7), sl7⟩) (c7 : PySem.W.codeIn K cd7 "determinant" = true) (k7 : PySem.W.keepIn K (.ref f7) = true)
    (a8 : PySem.W.nsIn K mainGlobals "resultant" = some (some (.ref f8))) (l8 : K.lookup f8 = some ⟨oc8, od8, .func (PySem.W.fnOf "resultant" "resultant" (defArgs s_resultant) (defBody s_resultant) (defScope s_resultant) .none kV8 dc8 pm8 an8 cd8 ct8), sl8⟩) (c8 : PySem.W.codeIn K cd8 "resultant" = true) (k8 : PySem.W.keepIn K (.ref f8) = true)
    (a9 : PySem.W.nsIn K mainGlobals "discriminant" = some (some (.ref f9))) (l9 : K.lookup f9 = some ⟨oc9, od9, .func (PySem.W.fnOf "discriminant" "discriminant" (defArgs s_discriminant) (defBody s_discriminant) (defScope s_discriminant) .none kV9 dc9 pm9 an9 cd9 ct9), sl9⟩) (c9 : PySem.W.codeIn K cd9 "discriminant" = true) (k9 : PySem.W.keepIn K (.ref f9) = true)
    (a10 : PySem.W.nsIn K mainGlobals "_law_cell_at" = some (some (.ref f10))) (l10 : K.lookup f10 = some ⟨oc10, od10, .func (PySem.W.fnOf "_law_cell_at" "_law_cell_at" (defArgs s_q_cell_at) (defBody s_q_cell_at) (defScope s_q_cell_at) .none kV10 dc10 pm10 an10 cd10 ct10), sl10⟩) (c10 : PySem.W.codeIn K cd10 "_law_cell_at" = true) (k10 : PySem.W.keepIn K (.ref f10) = true)
    (a11 : PySem.W.nsIn K mainGlobals "_law_number" = some (some (.ref f11))) (l11 : K.lookup f11 = some ⟨oc11, od11, .func (PySem.W.fnOf "_law_number" "_law_number" (defArgs s_q_number) (defBody s_q_number) (defScope s_q_number) .none kV11 dc11 pm11 an11 cd11 ct11), sl11⟩) (c11 : PySem.W.codeIn K cd11 "_law_number" = true) (k11 : PySem.W.keepIn K (.ref f11) = true)
    (a12 : PySem.W.nsIn K mainGlobals "_law_trimmed" = some (some (.ref f12))) (l12 : K.lookup f12 = some ⟨oc12, od12, .func (PySem.W.fnOf "_law_trimmed" "_law_trimmed" (defArgs s_q_trimmed) (defBody s_q_trimmed) (defScope s_q_trimmed) .none kV12 dc12 pm12 an12 cd12 ct12), sl12⟩) (c12 : PySem.W.codeIn K cd12 "_law_trimmed" = true) (k12 : PySem.W.keepIn K (.ref f12) = true)
    (a13 : PySem.W.nsIn K mainGlobals "_law_times" = some (some (.ref f13))) (l13 : K.lookup f13 = some ⟨oc13, od13, .func (PySem.W.fnOf "_law_times" "_law_times" (defArgs s_q_times) (defBody s_q_times) (defScope s_q_times) .none kV13 dc13 pm13 an13 cd13 ct13), sl13⟩) (c13 : PySem.W.codeIn K cd13 "_law_times" = true) (k13 : PySem.W.keepIn K (.ref f13) = true)
    (a14 : PySem.W.nsIn K mainGlobals "_law_poly" = some (some (.ref f14))) (l14 : K.lookup f14 = some ⟨oc14, od14, .func (PySem.W.fnOf "_law_poly" "_law_poly" (defArgs s_q_poly) (defBody s_q_poly) (defScope s_q_poly) .none kV14 dc14 pm14 an14 cd14 ct14), sl14⟩) (c14 : PySem.W.codeIn K cd14 "_law_poly" = true) (k14 : PySem.W.keepIn K (.ref f14) = true)
    (a15 : PySem.W.nsIn K mainGlobals "_law_power" = some (some (.ref f15))) (l15 : K.lookup f15 = some ⟨oc15, od15, .func (PySem.W.fnOf "_law_power" "_law_power" (defArgs s_q_power) (defBody s_q_power) (defScope s_q_power) .none kV15 dc15 pm15 an15 cd15 ct15), sl15⟩) (c15 : PySem.W.codeIn K cd15 "_law_power" = true) (k15 : PySem.W.keepIn K (.ref f15) = true)
    (a16 : PySem.W.nsIn K mainGlobals "_law_monic" = some (some (.ref f16))) (l16 : K.lookup f16 = some ⟨oc16, od16, .func (PySem.W.fnOf "_law_monic" "_law_monic" (defArgs s_q_monic) (defBody s_q_monic) (defScope s_q_monic) .none kV16 dc16 pm16 an16 cd16 ct16), sl16⟩) (c16 : PySem.W.codeIn K cd16 "_law_monic" = true) (k16 : PySem.W.keepIn K (.ref f16) = true)
    (a17 : PySem.W.nsIn K mainGlobals "law" = some (some (.ref f17))) (l17 : K.lookup f17 = some ⟨oc17, od17, .func (PySem.W.fnOf "law" "law" (defArgs s_law) (defBody s_law) (defScope s_law) .none kV17 dc17 pm17 an17 cd17 ct17), sl17⟩) (c17 : PySem.W.codeIn K cd17 "law" = true) (k17 : PySem.W.keepIn K (.ref f17) = true)
    (z_abs : PySem.W.nsIn K mainGlobals "abs" = some none)
    (z_enumerate : PySem.W.nsIn K mainGlobals "enumerate" = some none)
    (z_int : PySem.W.nsIn K mainGlobals "int" = some none)
    (z_len : PySem.W.nsIn K mainGlobals "len" = some none)
    (z_list : PySem.W.nsIn K mainGlobals "list" = some none)
    (z_min : PySem.W.nsIn K mainGlobals "min" = some none)
    (z_range : PySem.W.nsIn K mainGlobals "range" = some none)
    (z_reversed : PySem.W.nsIn K mainGlobals "reversed" = some none) :
    ∃ fd : FuncData, (∀ (s : Shared) (v : Value), BindsTo s fd ⟨[v], []⟩ [("_law_script", v)]) ∧ ∀ base : Heap, K.In base → base.Ns mainGlobals mg → FnOk l.prog w K mg base CX0 5 fa fd ["_law_script"] (spLaw K) := by
  have e := hfa.symm.trans (PySem.W.mg_of X G a17)
  cases e
  have S_without_noughts_behind : Src K mg "without_noughts_behind" s_without_noughts_behind ["numbers"] := src_mk X G a0 l0 c0 k0 fun _ _ _ _ _ _ us hl => match us, hl with | [_], _ => rfl
  have S_coefficient : Src K mg "coefficient" s_coefficient ["f", "place"] := src_mk X G a1 l1 c1 k1 fun _ _ _ _ _ _ us hl => match us, hl with | [_, _], _ => rfl
  have S_multiplied : Src K mg "multiplied" s_multiplied ["f", "g"] := src_mk X G a2 l2 c2 k2 fun _ _ _ _ _ _ us hl => match us, hl with | [_, _], _ => rfl
  have S_derived : Src K mg "derived" s_derived ["f"] := src_mk X G a3 l3 c3 k3 fun _ _ _ _ _ _ us hl => match us, hl with | [_], _ => rfl
  have S_divided : Src K mg "divided" s_divided ["f", "g"] := src_mk X G a4 l4 c4 k4 fun _ _ _ _ _ _ us hl => match us, hl with | [_, _], _ => rfl
  have S_place_of_lead : Src K mg "place_of_lead" s_place_of_lead ["table"] := src_mk X G a5 l5 c5 k5 fun _ _ _ _ _ _ us hl => match us, hl with | [_], _ => rfl
  have S_lessened : Src K mg "lessened" s_lessened ["table", "at", "divisor"] := src_mk X G a6 l6 c6 k6 fun _ _ _ _ _ _ us hl => match us, hl with | [_, _, _], _ => rfl
  have S_determinant : Src K mg "determinant" s_determinant ["table"] := src_mk X G a7 l7 c7 k7 fun _ _ _ _ _ _ us hl => match us, hl with | [_], _ => rfl
  have S_resultant : Src K mg "resultant" s_resultant ["f", "g"] := src_mk X G a8 l8 c8 k8 fun _ _ _ _ _ _ us hl => match us, hl with | [_, _], _ => rfl
  have S_discriminant : Src K mg "discriminant" s_discriminant ["f"] := src_mk X G a9 l9 c9 k9 fun _ _ _ _ _ _ us hl => match us, hl with | [_], _ => rfl
  have S_q_cell_at : Src K mg "_law_cell_at" s_q_cell_at ["_law_script", "_law_k"] := src_mk X G a10 l10 c10 k10 fun _ _ _ _ _ _ us hl => match us, hl with | [_, _], _ => rfl
  have S_q_number : Src K mg "_law_number" s_q_number ["_law_script", "_law_k"] := src_mk X G a11 l11 c11 k11 fun _ _ _ _ _ _ us hl => match us, hl with | [_, _], _ => rfl
  have S_q_trimmed : Src K mg "_law_trimmed" s_q_trimmed ["_law_numbers"] := src_mk X G a12 l12 c12 k12 fun _ _ _ _ _ _ us hl => match us, hl with | [_], _ => rfl
  have S_q_times : Src K mg "_law_times" s_q_times ["_law_f", "_law_g"] := src_mk X G a13 l13 c13 k13 fun _ _ _ _ _ _ us hl => match us, hl with | [_, _], _ => rfl
  have S_q_poly : Src K mg "_law_poly" s_q_poly ["_law_cell", "_law_most", "_law_kind"] := src_mk X G a14 l14 c14 k14 fun _ _ _ _ _ _ us hl => match us, hl with | [_, _, _], _ => rfl
  have S_q_power : Src K mg "_law_power" s_q_power ["_law_number_here", "_law_many"] := src_mk X G a15 l15 c15 k15 fun _ _ _ _ _ _ us hl => match us, hl with | [_, _], _ => rfl
  have S_q_monic : Src K mg "_law_monic" s_q_monic ["_law_cell", "_law_most"] := src_mk X G a16 l16 c16 k16 fun _ _ _ _ _ _ us hl => match us, hl with | [_, _], _ => rfl
  have F_law := fun_mk (st := s_law) l17 c17 k17
  have B : Blt mg := ⟨PySem.W.mg_none_of X G z_abs, PySem.W.mg_none_of X G z_enumerate, PySem.W.mg_none_of X G z_int, PySem.W.mg_none_of X G z_len, PySem.W.mg_none_of X G z_list, PySem.W.mg_none_of X G z_min, PySem.W.mg_none_of X G z_range, PySem.W.mg_none_of X G z_reversed⟩
  refine ⟨PySem.W.fnOf "law" "law" (defArgs s_law) (defBody s_law) (defScope s_law) .none kV17 dc17 pm17 an17 cd17 ct17, fun s v => .of_eq rfl, fun base _ _ => ?_⟩
  have dt := ok_without_noughts_behind (P := l.prog) (w := w) (base := base) B S_without_noughts_behind
  have dd := ok_determinant (P := l.prog) (w := w) (base := base) B (ok_place_of_lead B S_place_of_lead) (ok_lessened B S_lessened) S_determinant
  have dr := ok_resultant B (ok_coefficient B S_coefficient) (ok_multiplied B S_multiplied) (ok_divided B dt S_divided) dd S_resultant
  have dl := ok_q_trimmed (P := l.prog) (w := w) (base := base) B S_q_trimmed
  have dp := ok_q_poly1 (P := l.prog) (w := w) (base := base) B dl S_q_poly
  have di := ok_discriminant B (ok_derived B S_derived) dr S_discriminant
  exact ok_law B (ok_number B (ok_cell_at B S_q_cell_at) S_q_number) (ok_q_monic B dp S_q_monic) (ok_q_power B S_q_power) (ok_q_times B dl S_q_times) dl dr di F_law
theorem walk {l : PySem.W.OpenLaw} {q : Program} {loose : List Str} {XP : (Str → Option Value) → Heap → Prop} {YP : World → Heap → Prop} {d : DefRec} {K : Params → PySem.W.Frag} (hn : l.most = some 63) (hdf : d.params.defaults = [])
    (hY : ∀ (w : World) (h : Heap), YP w h → (K w.params).In h)
    (F : ∀ (w : World) (mg : Str → Option Value) (fa : Addr) (h : Heap), (K w.params).In h → h.Ns mainGlobals mg → mg d.name = some (.ref fa) →
      ∃ fd : FuncData, (∀ (s : Shared) (u : Value), BindsTo s fd ⟨[u], []⟩ [("_law_script", u)]) ∧ ∀ base : Heap, (K w.params).In base → base.Ns mainGlobals mg → FnOk l.prog w (K w.params) mg base CX0 5 fa fd ["_law_script"] (spLaw (K w.params))) :
    PySem.W.WalkO q loose XP YP l.row.toRowW d [] (fun f vs => PySem.call f vs) :=
  L2.walk_of (n := 63) (k := 5) (x := "_law_script") (CX := fun _ => CX0) (sp := fun w => spLaw (K w.params)) hn (by decide) hdf ⟨rfl, by decide, by decide⟩ hY F (fun _ _ a ns hl _ hS => ⟨a, ns, rfl, hS, hl, fun _ => rfl⟩) fun _ _ _ _ _ z => z
end K12
open PySem PySem.W PyProof.Rows
set_option maxRecDepth 100000 in
set_option maxHeartbeats 0 in
theorem PySem.Challenge.cw_branchdepth_k12_three_terms_and_squares_holds : PySem.Challenge.rw_branchdepth_k12_three_terms_and_squares.Holds := by
  w_on; o_law; k_head; (case hw => w_witness2)
  k_fill
  refine K12.walk (l := PySem.Challenge.rw_branchdepth_k12_three_terms_and_squares) rfl rfl (fun w h Y => PySem.W.kIn_of Y) ?F
  case F =>
    intro w mg fa h KX G hmg
    refine' K12.all_mk KX G hmg ?a0 ?l0 ?c0 ?k0 ?a1 ?l1 ?c1 ?k1 ?a2 ?l2 ?c2 ?k2 ?a3 ?l3 ?c3 ?k3 ?a4 ?l4 ?c4 ?k4 ?a5 ?l5 ?c5 ?k5 ?a6 ?l6 ?c6 ?k6 ?a7 ?l7 ?c7 ?k7 ?a8 ?l8 ?c8 ?k8 ?a9 ?l9 ?c9 ?k9 ?a10 ?l10 ?c10 ?k10 ?a11 ?l11 ?c11 ?k11 ?a12 ?l12 ?c12 ?k12 ?a13 ?l13 ?c13 ?k13 ?a14 ?l14 ?c14 ?k14 ?a15 ?l15 ?c15 ?k15 ?a16 ?l16 ?c16 ?k16 ?a17 ?l17 ?c17 ?k17 ?z_abs ?z_enumerate ?z_int ?z_len ?z_list ?z_min ?z_range ?z_reversed
    (case a0 => k_is)
    (case l0 => k_is)
    (case c0 => k_is)
    (case k0 => k_is)
    (case a1 => k_is)
    (case l1 => k_is)
    (case c1 => k_is)
    (case k1 => k_is)
    (case a2 => k_is)
    (case l2 => k_is)
    (case c2 => k_is)
    (case k2 => k_is)
    (case a3 => k_is)
    (case l3 => k_is)
    (case c3 => k_is)
    (case k3 => k_is)
    (case a4 => k_is)
    (case l4 => k_is)
    (case c4 => k_is)
    (case k4 => k_is)
    (case a5 => k_is)
    (case l5 => k_is)
    (case c5 => k_is)
    (case k5 => k_is)
    (case a6 => k_is)
    (case l6 => k_is)
    (case c6 => k_is)
    (case k6 => k_is)
    (case a7 => k_is)
    (case l7 => k_is)
    (case c7 => k_is)
    (case k7 => k_is)
    (case a8 => k_is)
    (case l8 => k_is)
    (case c8 => k_is)
    (case k8 => k_is)
    (case a9 => k_is)
    (case l9 => k_is)
    (case c9 => k_is)
    (case k9 => k_is)
    (case a10 => k_is)
    (case l10 => k_is)
    (case c10 => k_is)
    (case k10 => k_is)
    (case a11 => k_is)
    (case l11 => k_is)
    (case c11 => k_is)
    (case k11 => k_is)
    (case a12 => k_is)
    (case l12 => k_is)
    (case c12 => k_is)
    (case k12 => k_is)
    (case a13 => k_is)
    (case l13 => k_is)
    (case c13 => k_is)
    (case k13 => k_is)
    (case a14 => k_is)
    (case l14 => k_is)
    (case c14 => k_is)
    (case k14 => k_is)
    (case a15 => k_is)
    (case l15 => k_is)
    (case c15 => k_is)
    (case k15 => k_is)
    (case a16 => k_is)
    (case l16 => k_is)
    (case c16 => k_is)
    (case k16 => k_is)
    (case a17 => k_is)
    (case l17 => k_is)
    (case c17 => k_is)
    (case k17 => k_is)
    (case z_abs => k_is)
    (case z_enumerate => k_is)
    (case z_int => k_is)
    (case z_len => k_is)
    (case z_list => k_is)
    (case z_min => k_is)
    (case z_range => k_is)
    (case z_reversed => k_is)

