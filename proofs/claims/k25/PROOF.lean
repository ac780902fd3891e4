import PyProof.Rows.All
import Wide.All
import OpenK.AllK
import Wide.FinOn
import Lean
import PyProof.EqAt
import PyProof.EqKinds
import PyProof.TupleCall
import KE.KMinKey
import PyProof.Rows.Range3
import PyProof.ListRange
import PySem.Challenge.RW_branchdepth_k25_whole_sides_put_together

set_option Elab.async false
set_option linter.all false
set_option maxRecDepth 100000
/-! THE HAND LAYER, for ints, bools, texts, own classes, LISTS and tuples (index, slices, in, append, pop ..), calls, loops. Paste it whole ahead of your own text; what your proof does not reach may be deleted. -/
namespace L2
open PySem PySem.Spec PyProof.Rows

/-- a key: an int or a str -/
abbrev Key := Sum Int Str
def keyIs : Key → Value → Bool
  | .inl k, v => Value.isInt k v
  | .inr x, v => Value.isStrOf x v
def keyH (w : World) : Key → Int
  | .inl k => hashInt k
  | .inr x => hashStr w x
theorem keyIs_shape : ∀ {k : Key} {v : Value}, keyIs k v = true → (∃ i t, k = Sum.inl i ∧ v = Value.int i t) ∨ (∃ x t, k = Sum.inr x ∧ v = Value.str x t)
  | .inl i, v, h => by
    obtain ⟨t, e⟩ := Value.isInt_shape (k := i) (v := v) h
    exact .inl ⟨i, t, rfl, e⟩
  | .inr x, v, h => by
    obtain ⟨t, e⟩ := Value.isStrOf_shape (x := x) (v := v) h
    exact .inr ⟨x, t, rfl, e⟩
theorem keyIs_int (i : Int) (t : Tok) : keyIs (.inl i) (.int i t) = true := by simp [keyIs, Value.isInt]
theorem keyIs_str (x : Str) (t : Tok) : keyIs (.inr x) (.str x t) = true := by simp [keyIs, Value.isStrOf]
theorem key_ll (a b : Int) : decide ((Sum.inl a : Key) = Sum.inl b) = (a == b) := by
  by_cases e : a = b
  · subst e; simp
  · have h : ¬ (Sum.inl a : Key) = Sum.inl b := fun q => e (Sum.inl.inj q)
    rw [decide_eq_false h]
    exact (beq_eq_false_iff_ne.mpr e).symm
theorem key_rr (a b : Str) : decide ((Sum.inr a : Key) = Sum.inr b) = decide (a = b) := by
  by_cases e : a = b
  · subst e; simp
  · have h : ¬ (Sum.inr a : Key) = Sum.inr b := fun q => e (Sum.inr.inj q)
    rw [decide_eq_false h, decide_eq_false e]
theorem key_lr (a : Int) (b : Str) : decide ((Sum.inl a : Key) = Sum.inr b) = false := decide_eq_false (fun q => nomatch q)
theorem key_rl (a : Str) (b : Int) : decide ((Sum.inr a : Key) = Sum.inl b) = false := decide_eq_false (fun q => nomatch q)

def mixKind (prog : Program) (w : World) : PySem.KeyKind prog w Key where
  is := keyIs
  hash := keyH w
  inj := fun v a b ha hb => by
    rcases keyIs_shape ha with ⟨i, t, rfl, rfl⟩ | ⟨x, t, rfl, rfl⟩
    · rcases keyIs_shape hb with ⟨j, u, rfl, e⟩ | ⟨y, u, rfl, e⟩
      · injection e with e1 _; rw [e1]
      · exact nomatch e
    · rcases keyIs_shape hb with ⟨j, u, rfl, e⟩ | ⟨y, u, rfl, e⟩
      · exact nomatch e
      · injection e with e1 _; rw [e1]
  byValue := fun k v h => by
    rcases keyIs_shape h with ⟨i, t, rfl, rfl⟩ | ⟨x, t, rfl, rfl⟩ <;> rfl
  pyHash := fun hv h => by
    rcases keyIs_shape hv with ⟨i, t, rfl, rfl⟩ | ⟨x, t, rfl, rfl⟩
    · exact wpAny_pyHash_int h
    · exact wpAny_pyHash_str h
  eqBool := fun hu hv h => by
    rcases keyIs_shape hu with ⟨i, t, rfl, rfl⟩ | ⟨x, t, rfl, rfl⟩
    · rcases keyIs_shape hv with ⟨j, u, rfl, rfl⟩ | ⟨y, u, rfl, rfl⟩
      · rw [key_ll] at h; exact wpAny_eqBool_int h
      · rw [key_lr] at h; exact SeqAt.EqAt.int_str i t y u _ _ _ _ h
    · rcases keyIs_shape hv with ⟨j, u, rfl, rfl⟩ | ⟨y, u, rfl, rfl⟩
      · rw [key_rl] at h; exact SeqAt.EqAt.str_int x t j u _ _ _ _ h
      · rw [key_rr] at h; exact wpAny_eqBool_str h
  «strs» := fun k x t v h => by
    rcases keyIs_shape h with ⟨i, u, rfl, e⟩ | ⟨y, u, rfl, e⟩
    · exact nomatch e
    · injection e with e1 _
      subst e1
      cases v <;> rfl

theorem mixKind_is (prog : Program) (w : World) (k : Key) (v : Value) : (mixKind prog w).is k v = keyIs k v := rfl
theorem mixKind_int (prog : Program) (w : World) (i : Int) (t : Tok) : (mixKind prog w).is (.inl i) (.int i t) = true := keyIs_int i t
theorem mixKind_str (prog : Program) (w : World) (x : Str) (t : Tok) : (mixKind prog w).is (.inr x) (.str x t) = true := keyIs_str x t
end L2

namespace L2
open PySem PySem.Spec PyProof.Rows

/-- a value, without the heap -/
inductive V where
  | non | bl (b : Bool) | int (i : Int) | str (x : Str) | byt (b : Array UInt8) | flt (b : UInt64) | ref (a : Addr) | ty (n : String)
  deriving DecidableEq

def RelV : V → Value → Prop
  | .non, u => u = Value.none
  | .bl b, u => u = Value.bool b
  | .int i, u => ∃ t, u = Value.int i t
  | .str x, u => ∃ t, u = Value.str x t
  | .byt b, u => ∃ t, u = Value.bytes b t
  | .flt b, u => ∃ t, u = Value.float b t
  | .ref a, u => u = Value.ref a
  | .ty n, u => u = Value.type n

abbrev Vals : List V → List Value → Prop := Paired RelV
theorem Vals.length {xs : List V} {us : List Value} (r : Vals xs us) : xs.length = us.length := Paired.length r
theorem Vals.get : ∀ {xs : List V} {us : List Value} {i : Nat} {x : V}, Vals xs us → xs[i]? = some x → ∃ u, us[i]? = some u ∧ RelV x u
  | _, _, _, _, .nil, e => by simp at e
  | _, _, 0, _, .cons r _, e => by simp at e; subst e; exact ⟨_, rfl, r⟩
  | _, _, i + 1, x, .cons _ t, e => by
    obtain ⟨u, h1, h2⟩ := Vals.get (i := i) (x := x) t (by simpa using e)
    exact ⟨u, by simpa using h1, h2⟩
theorem Vals.set {x : V} {u : Value} (r : RelV x u) : ∀ {xs : List V} {us : List Value} (i : Nat), Vals xs us → Vals (xs.set i x) (us.set i u)
  | _, _, _, .nil => .nil
  | _, _, 0, .cons _ t => .cons r t
  | _, _, i + 1, .cons q t => .cons q (Vals.set r i t)
theorem Vals.append : ∀ {xs ys : List V} {us ws : List Value}, Vals xs us → Vals ys ws → Vals (xs ++ ys) (us ++ ws)
  | _, _, _, _, .nil, s => s
  | _, _, _, _, .cons r t, s => .cons r (Vals.append t s)
theorem Vals.take : ∀ {xs : List V} {us : List Value} (n : Nat), Vals xs us → Vals (xs.take n) (us.take n)
  | _, _, 0, _ => .nil
  | _, _, _ + 1, .nil => .nil
  | _, _, n + 1, .cons r t => .cons r (Vals.take n t)
theorem Vals.drop : ∀ {xs : List V} {us : List Value} (n : Nat), Vals xs us → Vals (xs.drop n) (us.drop n)
  | _, _, 0, r => r
  | _, _, _ + 1, .nil => .nil
  | _, _, n + 1, .cons _ t => Vals.drop n t
theorem Vals.none_of : ∀ {xs : List V} {us : List Value} {i : Nat}, Vals xs us → xs[i]? = none → us[i]? = none := fun {xs us i} r e => by
  have h1 := r.length
  have h2 : xs.length ≤ i := List.getElem?_eq_none_iff.mp e
  exact List.getElem?_eq_none_iff.mpr (by omega)

def RelO : Option V → Option Value → Prop
  | some v, some u => RelV v u
  | none, none => True
  | _, _ => False
def KV {κ : Type} : List (κ × V) → List (κ × Value) → Prop := Paired fun (p : κ × V) (q : κ × Value) => p.1 = q.1 ∧ RelV p.2 q.2

/-- a key of a dict (00_mix): an int or a text -/
def kV : Key → V
  | .inl i => .int i
  | .inr x => .str x

/-- what stands at a tracked address -/
inductive HO where
  /-- a list -/
  | lst (xs : List V)
  /-- a tuple (never changes) -/
  | tup (xs : List V)
  /-- a dict whose keys are ints and texts; one whose keys are tuples of ints and texts (the empty one is both) -/
  | dK (kvs : List (Key × V)) | dT (kvs : List (List Key × V))
  /-- a set of ints: its members, its size -/
  | set (S : Int → Bool) (n : Nat)
  /-- an instance of the class at C, its dict at dx, its attributes -/
  | ins (C dx : Addr) (fs : List (Str × V))
  /-- the dict of the instance at x -/
  | own (x : Addr)
  /-- the dict of an exception -/
  | xd (fs : List (Str × V))
  /-- a bound method, f of x -/
  | met (f x : Addr)
  /-- a range object lo, lo + 1, .. below hi -/
  | rng (lo hi : Int)
  /-- a thing that is known to the object (the script; a dict while a loop walks it): read, never written while it is so -/
  | frz (o : Obj) (u : HO)
  /-- a code object's table -/
  | tbl (ps : Array Value)
  /-- any other thing, by what is true of its one object (a def of one's own: SetO a S n := HO.ext fun h => ..) -/
  | ext (φ : Heap → Prop)

abbrev Hp := Addr → Option HO
def upd (H : Hp) (a : Addr) (o : HO) : Hp := fun b => if b = a then some o else H b
theorem upd_same {H : Hp} {a : Addr} {o : HO} : upd H a o a = some o := by unfold upd; rw [if_pos rfl]
theorem upd_ne {H : Hp} {a b : Addr} {o : HO} (h : b ≠ a) : upd H a o b = H b := by unfold upd; rw [if_neg h]
theorem upd_upd {H : Hp} {a : Addr} {o u : HO} : upd (upd H a o) a u = upd H a u := by
  funext b; unfold upd; split <;> rfl
/-- two objects of different content stand apart -/
theorem ne_of {H : Hp} {a b : Addr} {o u : HO} (h : H a = some o) (h' : H b = some u) (d : o ≠ u) : a ≠ b := by
  intro e; subst e; rw [h] at h'; exact d (Option.some.inj h')
theorem ne_of_none {H : Hp} {a b : Addr} {o : HO} (h : H a = some o) (h' : H b = none) : a ≠ b := by
  intro e; subst e; rw [h] at h'; cases h'

section
variable (P : Program) (w : World)
def ObjOk (H : Hp) (h : Heap) (a : Addr) : HO → Prop
  | .lst xs => xs.length ≤ sizeLine ∧ ∃ (its : List Value) (n : Nat), Vals xs its ∧ h.get? a = some { cls := .type "list", data := .seq its.toArray n }
  | .tup xs => xs.length ≤ sizeLine ∧ ∃ its : List Value, Vals xs its ∧ IsTup h a its.toArray
  | .dK kvs => kvs.length ≤ sizeLine ∧ (a == sysModules) = false ∧ ∃ vs, KV kvs vs ∧ h.DictOf (mixKind P w) a vs
  | .dT kvs => kvs.length ≤ sizeLine ∧ (a == sysModules) = false ∧ ∃ xs : List (List Key × Addr × Value),
      Paired (fun (p : List Key × V) (q : List Key × Addr × Value) => p.1 = q.1 ∧ H q.2.1 = some (.tup (p.1.map kV)) ∧ RelV p.2 q.2.2) kvs xs ∧
      ∃ o es ep, h.get? a = some o ∧ o.ExactDict ∧ o.data = .dict es ep ∧ es.toList = xs.map (entryOfKey (tupleKind (mixKind P w))) ∧ (xs.map (·.1)).Nodup
  | .set S n => h.SetOf (intKind P w) a S n
  | .ins C dx fs => H dx = some (.own a) ∧ fs.length ≤ 1000 ∧ dx ≠ a ∧ h.get? a = some (PySem.W.instObj C dx) ∧
      ∃ mA, h.Ns1 dx mA ∧ (∀ f, RelO (fs.lookup f) (mA f)) ∧ PySem.Within mA (fs.map (·.1))
  | .own _ => ∃ o, h.get? a = some o
  | .xd fs => ∃ mA, h.Ns1 a mA ∧ ∀ f, RelO (fs.lookup f) (mA f)
  | .rng lo hi => ∃ t u v, h.get? a = some { cls := .type "range", data := .fields #[.int lo t, .int hi u, .int 1 v] }
  | .frz o u => h.get? a = some o ∧ ObjOk H h a u
  | .tbl ps => h.get? a = some { cls := .none, data := .fields ps }
  | .met f x => h.get? a = some (PySem.W.methodObj (.ref f) (.ref x))
  | .ext φ => φ h ∧ (∃ o, h.get? a = some o) ∧ ∀ h1 h2 : Heap, φ h1 → (∀ o, h1.get? a = some o → h2.get? a = some o) → φ h2
/-- the abstract heap is held -/
def HOk (H : Hp) (h : Heap) : Prop := ∀ a o, H a = some o → ObjOk P w H h a o
end

section
variable {P : Program} {w : World} {H H' : Hp} {h h' : Heap} {a : Addr} {o : HO}
theorem ObjOk.lt (x : ObjOk P w H h a o) : a < h.objs.size := by
  cases o with
  | lst xs => obtain ⟨_, _, _, _, e⟩ := x; exact Heap.lt_size e
  | tup xs => obtain ⟨_, _, _, p⟩ := x; exact p.lt
  | dK kvs => obtain ⟨_, _, _, _, o, _, _, e, _⟩ := x; exact Heap.lt_size e
  | dT kvs => obtain ⟨_, _, _, _, o, _, _, e, _⟩ := x; exact Heap.lt_size e
  | set S n => obtain ⟨o, _, _, _, e, _⟩ := x; exact Heap.lt_size e
  | ins C dx fs => obtain ⟨_, _, _, e, _⟩ := x; exact Heap.lt_size e
  | own y => obtain ⟨_, e⟩ := x; exact Heap.lt_size e
  | xd fs => obtain ⟨_, ⟨_, _, _, e, _⟩, _⟩ := x; exact Heap.lt_size e
  | rng lo hi => obtain ⟨_, _, _, e⟩ := x; exact Heap.lt_size e
  | frz ob u => obtain ⟨e, _⟩ := x; exact Heap.lt_size e
  | tbl ps => exact Heap.lt_size (show h.get? a = some _ from x)
  | met f y => exact Heap.lt_size (show h.get? a = some _ from x)
  | ext φ => obtain ⟨_, ⟨_, e⟩, _⟩ := x; exact Heap.lt_size e
theorem Paired.mapP {α β : Type} {F G : α → β → Prop} : ∀ {l₁ : List α} {l₂ : List β}, Paired F l₁ l₂ → (∀ a b, F a b → G a b) → Paired G l₁ l₂
  | _, _, .nil, _ => .nil
  | _, _, .cons r t, f => .cons (f _ _ r) (Paired.mapP t f)
theorem Paired.imp' {α β : Type} {F G : α → β → Prop} (f : ∀ a b, F a b → G a b) {l₁ : List α} {l₂ : List β} (r : Paired F l₁ l₂) : Paired G l₁ l₂ := Paired.mapP r f
/-- what an object's description leans on: its own object, its own dict, the tuples -/
theorem ObjOk.stay (x : ObjOk P w H h a o) (k : ∀ b u, (b = a ∨ H b = some (.own a)) → h.get? b = some u → h'.get? b = some u)
    (ho : ∀ b, H b = some (.own a) → H' b = some (.own a)) (ht : ∀ b xs, H b = some (.tup xs) → H' b = some (.tup xs)) : ObjOk P w H' h' a o := by
  induction o with
  | lst xs => obtain ⟨z, its, n, r, e⟩ := x; exact ⟨z, its, n, r, k _ _ (.inl rfl) e⟩
  | tup xs => obtain ⟨z, its, r, ob, e, c⟩ := x; exact ⟨z, its, r, ob, k _ _ (.inl rfl) e, c⟩
  | dK kvs => obtain ⟨z, y, vs, r, ob, es, ep, e, c⟩ := x; exact ⟨z, y, vs, r, ob, es, ep, k _ _ (.inl rfl) e, c⟩
  | dT kvs =>
    obtain ⟨z, y, xs, r, ob, es, ep, e, c⟩ := x
    exact ⟨z, y, xs, Paired.mapP r fun p q z => ⟨z.1, ht _ _ z.2.1, z.2.2⟩, ob, es, ep, k _ _ (.inl rfl) e, c⟩
  | set S n => obtain ⟨ob, es, ep, t, e, c⟩ := x; exact ⟨ob, es, ep, t, k _ _ (.inl rfl) e, c⟩
  | ins C dx fs =>
    obtain ⟨d, z, ne, e, mA, ⟨od, es, ep, e2, c⟩, r⟩ := x
    exact ⟨ho _ d, z, ne, k _ _ (.inl rfl) e, mA, ⟨od, es, ep, k _ _ (.inr d) e2, c⟩, r⟩
  | own y => obtain ⟨ob, e⟩ := x; exact ⟨ob, k _ _ (.inl rfl) e⟩
  | xd fs => obtain ⟨mA, ⟨od, es, ep, e, c⟩, r⟩ := x; exact ⟨mA, ⟨od, es, ep, k _ _ (.inl rfl) e, c⟩, r⟩
  | rng lo hi => obtain ⟨t, u, v, e⟩ := x; exact ⟨t, u, v, k _ _ (.inl rfl) e⟩
  | frz ob u ih => obtain ⟨e, q⟩ := x; exact ⟨k _ _ (.inl rfl) e, ih q⟩
  | tbl ps =>
    have e : h.get? a = some { cls := .none, data := .fields ps } := x
    show h'.get? a = some { cls := .none, data := .fields ps }
    exact k a _ (.inl rfl) e
  | met f y =>
    have e : h.get? a = some (PySem.W.methodObj (.ref f) (.ref y)) := x
    show h'.get? a = some (PySem.W.methodObj (.ref f) (.ref y))
    exact k a _ (.inl rfl) e
  | ext φ => obtain ⟨p, ⟨o, e⟩, st⟩ := x; exact ⟨st _ _ p fun o q => k _ _ (.inl rfl) q, ⟨o, k _ _ (.inl rfl) e⟩, st⟩
theorem HOk.lt (x : HOk P w H h) (e : H a = some o) : a < h.objs.size := (x a o e).lt
theorem HOk.fresh (x : HOk P w H h) (e : h.objs.size ≤ a) : H a = none := by
  cases q : H a with
  | none => rfl
  | some u => exact absurd (Nat.lt_of_lt_of_le (x.lt q) e) (Nat.lt_irrefl _)
/-- every object of the heap is kept -/
theorem HOk.kept (x : HOk P w H h) (k : ∀ b u, h.get? b = some u → h'.get? b = some u) : HOk P w H h' := fun a o e =>
  (x a o e).stay (fun b u _ q => k b u q) (fun _ q => q) fun _ _ q => q
/-- a new object is laid and tracked -/
theorem HOk.laid (x : HOk P w H h) (k : ∀ b u, h.get? b = some u → h'.get? b = some u) (hp : h.objs.size ≤ a) (new : ObjOk P w (upd H a o) h' a o) : HOk P w (upd H a o) h' := fun b u e => by
  have hn := x.fresh hp
  by_cases hb : b = a
  · subst hb; rw [upd_same] at e; cases e; exact new
  · rw [upd_ne hb] at e
    exact (x b u e).stay (fun c v _ q => k c v q) (fun c q => by rw [upd_ne (ne_of_none q hn)]; exact q) fun c xs q => by rw [upd_ne (ne_of_none q hn)]; exact q
end

/-- what may be read as u: it is u, or a known u -/
def Rd (H : Hp) (a : Addr) (u : HO) : Prop := H a = some u ∨ ∃ o, H a = some (.frz o u)
theorem Rd.of {H : Hp} {a : Addr} {u : HO} (h : H a = some u) : Rd H a u := .inl h
theorem Rd.ok {P : Program} {w : World} {H : Hp} {h : Heap} {a : Addr} {u : HO} (r : Rd H a u) (x : HOk P w H h) : ObjOk P w H h a u := by
  rcases r with r | ⟨o, r⟩
  · exact x a u r
  · obtain ⟨_, q⟩ := x a _ r
    exact q
/-- what may be written -/
def Mut : Option HO → Prop
  | some (.lst _) => True
  | some (.dK _) => True
  | some (.dT _) => True
  | some (.set _ _) => True
  | some (.ins _ _ _) => True
  | some (.ext _) => True
  | _ => False
section
variable {P : Program} {w : World} {H : Hp} {h h' : Heap} {x e : Addr} {o' : HO}
/-- the object at e is changed: x itself, or the dict of the instance x -/
theorem HOk.write (ok : HOk P w H h) (mu : Mut (H x)) (he : e = x ∨ H e = some (.own x)) (k : ∀ b u, b ≠ e → h.get? b = some u → h'.get? b = some u) (heo : ∃ u, h'.get? e = some u)
    (new : ObjOk P w (upd H x o') h' x o') : HOk P w (upd H x o') h' := fun b u q => by
  have nown : ∀ c y, H c = some (.own y) → c ≠ x := fun c y r z => by subst z; rw [r] at mu; exact mu
  have ntup : ∀ c xs, H c = some (.tup xs) → c ≠ x := fun c xs r z => by subst z; rw [r] at mu; exact mu
  by_cases hb : b = x
  · subst hb; rw [upd_same] at q; cases q; exact new
  · rw [upd_ne hb] at q
    by_cases hbe : b = e
    · have q' : H b = some (.own x) := by
        rcases he with z | z
        · exact absurd (hbe.trans z) hb
        · rw [hbe]; exact z
      rw [q] at q'; cases q'
      obtain ⟨v, hv⟩ := heo
      exact ⟨v, by rw [hbe]; exact hv⟩
    · refine (ok b u q).stay (fun c v hc r => k c v ?_ r) (fun c r => by rw [upd_ne (nown c b r)]; exact r) fun c xs r => by rw [upd_ne (ntup c xs r)]; exact r
      rcases hc with rfl | hc
      · exact hbe
      · rintro rfl
        rcases he with z | z
        · exact nown c b hc z
        · rw [hc] at z; cases z; exact hb rfl
end

/-! ### kept unless tracked; of the frames at fs (the callers') the slots may change (an exception that passes writes there); of the records at ex (iterators) nothing is said -/
structure Un (fs ex : List Addr) (H H' : Hp) (h h' : Heap) : Prop where
  keep : ∀ b o, h.get? b = some o → H b = none → b ∉ fs → b ∉ ex → h'.get? b = some o
  slot : ∀ b o, h.get? b = some o → H b = none → b ∈ fs → b ∉ ex → ∃ sl, h'.get? b = some { o with slots := sl }
  free : ∀ b o, h.get? b = some o → H b = none → b ∉ ex → H' b = none
  there : ∀ b o, h.get? b = some o → b ∉ ex → ∃ o', h'.get? b = some o'
  tups : ∀ b xs, H b = some (.tup xs) → H' b = some (.tup xs)
  frzs : ∀ b o u, H b = some (.frz o u) → H' b = some (.frz o u)
  tbls : ∀ b ps, H b = some (.tbl ps) → ∃ more, H' b = some (.tbl (ps ++ more))
section
variable {fs fs' ex ex' : List Addr} {H H1 H2 : Hp} {h h1 h2 h' : Heap} {a x e : Addr} {o : HO}
theorem Un.any (u : Un fs ex H H1 h h1) {b : Addr} {ob : Obj} (q : h.get? b = some ob) (n : H b = none) (hx : b ∉ ex) : ∃ sl, h1.get? b = some { ob with slots := sl } := by
  by_cases hb : b ∈ fs
  · exact u.slot b ob q n hb hx
  · exact ⟨ob.slots, u.keep b ob q n hb hx⟩
theorem Un.trans (a : Un fs ex H H1 h h1) (b : Un fs ex H1 H2 h1 h2) : Un fs ex H H2 h h2 where
  keep := fun c ob q n hc hx => b.keep c ob (a.keep c ob q n hc hx) (a.free c ob q n hx) hc hx
  slot := fun c ob q n hc hx => by
    obtain ⟨sl, e1⟩ := a.slot c ob q n hc hx
    obtain ⟨sl', e2⟩ := b.slot c _ e1 (a.free c ob q n hx) hc hx
    exact ⟨sl', e2⟩
  free := fun c ob q n hx => by
    obtain ⟨o', e1⟩ := a.there c ob q hx
    exact b.free c o' e1 (a.free c ob q n hx) hx
  there := fun c ob q hx => by
    obtain ⟨o', e1⟩ := a.there c ob q hx
    exact b.there c o' e1 hx
  tups := fun c xs q => b.tups c xs (a.tups c xs q)
  frzs := fun c ob xs q => b.frzs c ob xs (a.frzs c ob xs q)
  tbls := fun c ps q => by
    obtain ⟨m1, e1⟩ := a.tbls c ps q
    obtain ⟨m2, e2⟩ := b.tbls c _ e1
    exact ⟨m1 ++ m2, by rw [e2, Array.append_assoc]⟩
theorem Un.kept (k : ∀ b u, h.get? b = some u → h'.get? b = some u) : Un fs ex H H h h' :=
  ⟨fun b ob q _ _ _ => k b ob q, fun b ob q _ _ _ => ⟨ob.slots, k b ob q⟩, fun _ _ _ n _ => n, fun b ob q _ => ⟨ob, k b ob q⟩, fun _ _ q => q, fun _ _ _ q => q, fun _ ps q => ⟨#[], by rw [q]; simp⟩⟩
theorem Un.refl : Un fs ex H H h h := Un.kept fun _ _ q => q
theorem Un.laid (k : ∀ b u, h.get? b = some u → h'.get? b = some u) (hp : h.objs.size ≤ a) (hn : H a = none) : Un fs ex H (upd H a o) h h' where
  keep := fun b u q _ _ _ => k b u q
  slot := fun b u q _ _ _ => ⟨u.slots, k b u q⟩
  free := fun b u q n _ => by rw [upd_ne (Nat.ne_of_lt (Nat.lt_of_lt_of_le (Heap.lt_size q) hp))]; exact n
  there := fun b u q _ => ⟨u, k b u q⟩
  tups := fun b xs q => by rw [upd_ne (ne_of_none q hn)]; exact q
  frzs := fun b u xs q => by rw [upd_ne (ne_of_none q hn)]; exact q
  tbls := fun b ps q => ⟨#[], by rw [upd_ne (ne_of_none q hn), q]; simp⟩
theorem Un.write (mu : Mut (H x)) (he : e = x ∨ H e = some (.own x)) (k : ∀ b u, b ≠ e → h.get? b = some u → h'.get? b = some u) (heo : ∃ u, h'.get? e = some u) : Un fs ex H (upd H x o) h h' := by
  have hx : ∀ b, H b = none → b ≠ x := fun b n z => by subst z; rw [n] at mu; exact mu
  have hb : ∀ b, H b = none → b ≠ e := fun b n z => by
    subst z
    rcases he with r | r
    · exact hx b n r
    · rw [n] at r; cases r
  have hm : ∀ b u, H b = some u → ¬ Mut (some u) → b ≠ x := fun b u q nm z => by subst z; rw [q] at mu; exact nm mu
  refine ⟨fun b u q n _ _ => k b u (hb b n) q, fun b u q n _ _ => ⟨u.slots, k b u (hb b n) q⟩, fun b u q n _ => by rw [upd_ne (hx b n)]; exact n, fun b u q _ => ?_,
    fun b xs q => by rw [upd_ne (hm b _ q fun z => z)]; exact q, fun b u xs q => by rw [upd_ne (hm b _ q fun z => z)]; exact q, fun b ps q => ⟨#[], by rw [upd_ne (hm b _ q fun z => z), q]; simp⟩⟩
  by_cases hbe : b = e
  · subst hbe; exact heo
  · exact ⟨u, k b u hbe q⟩
theorem Un.mono (u : Un fs ex H H1 h h1) (hs : ∀ b ∈ fs, b ∈ fs') (hx : ∀ b ∈ ex, b ∈ ex') : Un fs' ex' H H1 h h1 :=
  ⟨fun b ob q n hb he => u.keep b ob q n (fun z => hb (hs b z)) fun z => he (hx b z), fun _ _ q n _ he => u.any q n fun z => he (hx _ z), fun b ob q n he => u.free b ob q n fun z => he (hx b z), fun b ob q he => u.there b ob q fun z => he (hx b z), u.tups, u.frzs, u.tbls⟩
end

/-! ### the heap without what is tracked -/
def trk (h : Heap) (H : Hp) : List Addr := (List.range h.objs.size).filter fun a => (H a).isSome
def hidT (h : Heap) (H : Hp) : Heap := PySem.W.hideAll h (trk h H)
theorem hidT_size (h : Heap) (H : Hp) : (hidT h H).objs.size = h.objs.size := PySem.W.hideAll_size _ _
theorem hidT_get {h : Heap} {H : Hp} {b : Addr} {o : Obj} (e : h.get? b = some o) (n : H b = none) : (hidT h H).get? b = some o :=
  PySem.W.hideAll_get _ e fun hm => by
    have q : (H b).isSome = true := (List.mem_filter.mp hm).2
    rw [n] at q; simp at q
theorem of_hidT {h : Heap} {H : Hp} {b : Addr} {o : Obj} (e : (hidT h H).get? b = some o) : h.get? b = some o ∧ H b = none := by
  have e' : h.get? b = some o := PySem.W.of_hideAll (trk h H) e
  refine ⟨e', ?_⟩
  cases q : H b with
  | none => rfl
  | some x =>
    have hm : b ∈ trk h H := List.mem_filter.mpr ⟨List.mem_range.mpr (Heap.lt_size e'), by simp [q]⟩
    have z : (hidT h H).get? b = none := PySem.W.hideAll_none (trk h H) hm
    rw [z] at e; cases e

/-! ### OpenK's ledger, filled with every new object but one -/
def allNews (g h : Heap) (L : Addr) : List (Addr × Obj) := (List.range h.objs.size).filterMap fun a => if a = L ∨ (g.get? a).isSome = true then none else (h.get? a).map fun o => (a, o)
theorem mem_allNews {g h : Heap} {L a : Addr} {o : Obj} (h1 : a ≠ L) (h2 : g.get? a = none) (h3 : h.get? a = some o) : (a, o) ∈ allNews g h L :=
  List.mem_filterMap.mpr ⟨a, List.mem_range.mpr (Heap.lt_size h3), by simp [h1, h2, h3]⟩
theorem of_mem_allNews {g h : Heap} {L : Addr} {p : Addr × Obj} (hp : p ∈ allNews g h L) : p.1 ≠ L ∧ g.get? p.1 = none ∧ h.get? p.1 = some p.2 := by
  obtain ⟨b, _, e⟩ := List.mem_filterMap.mp hp
  split at e
  · cases e
  · rename_i hn
    cases q : h.get? b with
    | none => rw [q] at e; simp at e
    | some u =>
      rw [q] at e
      simp only [Option.map_some, Option.some.injEq] at e
      subst e
      refine ⟨fun z => hn (.inl z), ?_, q⟩
      show g.get? b = none
      cases r : g.get? b with
      | none => rfl
      | some v => exact (hn (.inr (by simp [r]))).elim
def rest (g h : Heap) (L d : Addr) : List (Addr × Obj) := (allNews g h L).filter fun p => decide (p.1 ≠ d)
theorem rest_ne {g h : Heap} {L d : Addr} : ∀ p ∈ rest g h L d, p.1 ≠ d := fun p hp => of_decide_eq_true (List.mem_filter.mp hp).2
theorem mem_rest {g h : Heap} {L d a : Addr} {o : Obj} (h1 : a ≠ L) (h2 : g.get? a = none) (h3 : h.get? a = some o) (h4 : a ≠ d) : (a, o) ∈ rest g h L d :=
  List.mem_filter.mpr ⟨mem_allNews h1 h2 h3, decide_eq_true h4⟩
theorem news_all {g h : Heap} {L : Addr} : News g L h (allNews g h L) := fun p hp => let ⟨a, b, c⟩ := of_mem_allNews hp; ⟨c, a, b⟩
theorem news_at {g h : Heap} {L d : Addr} {o : Obj} (h1 : d ≠ L) (h2 : g.get? d = none) (h3 : h.get? d = some o) : News g L h ((d, o) :: rest g h L d) := fun p hp => by
  rcases List.mem_cons.mp hp with rfl | hp
  · exact ⟨h3, h1, h2⟩
  · exact news_all p (List.mem_filter.mp hp).1
/-- behind a rule that changed d alone: all else but the frame is kept -/
theorem kept_of_news {g h h' : Heap} {L d : Addr} {m : Str → Option Value} (k : ∀ b o, g.get? b = some o → h.get? b = some o) (F : Fr g L h' m) (N : News g L h' (rest g h L d)) :
    ∀ b o, b ≠ L → b ≠ d → h.get? b = some o → h'.get? b = some o := fun b o h1 h2 e => by
  cases q : g.get? b with
  | some u =>
    have := k b u q
    rw [e] at this; cases this
    exact F.keep b _ q
  | none => exact (N (b, o) (mem_rest h1 q e h2)).1
end L2

namespace L2
open PySem PySem.Spec PyProof.Rows

/-- the module's facts, over the base: the heap at the law's entry without what is tracked there -/
structure Mod (K : PySem.W.Frag) (mg : Str → Option Value) (base : Heap) : Prop where
  kin : K.In base
  glob : base.Ns mainGlobals mg
  blt : ∃ mb, base.Ns builtinsNs mb ∧ ∀ x : Str, x ≠ "__name__" → mb x = bootBuiltins x
  nolimit : base.NoLimit

/-- the context: a def's body (or a comprehension's block) running. base: fixed through the whole law; s₀, H₀: the entry; outer: the frames whose slots others may change (a def's callers); stack: all frames that run;
   ex: iterators that were made ahead of the entry and are walked here (a comprehension's); fn: the names whose cells were made at the entry (a def: all; a comprehension's block: its own); calm: not within an except suite; pn: pins that every state bears; xe: what is wanted of an exception that leaves the code -/
structure Cx where
  prog : Program
  w : World
  K : PySem.W.Frag
  mg : Str → Option Value
  base : Heap
  A : Around
  N : List Str
  s₀ : Shared
  H₀ : Hp
  env : Env
  outer : List Env
  stack : List Env
  ex : List Addr
  fn : Str → Bool
  calm : Bool
  pn : List (Addr × Obj)
  xe : Value → Shared → Prop
/-- the callers' frames -/
def frs (l : List Env) : List Addr := l.filterMap (·.frame)
abbrev Cx.fs (X : Cx) : List Addr := frs X.outer

def Vis (sc : Scope) (x : Str) : Prop := sc.names.lookup x = some .local ∨ sc.names.lookup x = some .cell ∨ sc.names.lookup x = some .free
def Loc (sc : Scope) (x : Str) : Prop := sc.names.lookup x = some .local ∨ sc.names.lookup x = some .cell
def Look (env : Env) (h : Heap) (m : Str → Option Value) (x : Str) (u : Value) : Prop :=
  (env.kindOf x = some .local ∧ m x = some u) ∨ ((env.kindOf x = some .cell ∨ env.kindOf x = some .free) ∧ ∃ c, env.cells.lookup x = some c ∧ h.IsCell c (some u))

structure Cx.Ok (X : Cx) : Prop where
  mod : Mod X.K X.mg X.base
  kind : X.env.scope.kind = .function
  glob : X.env.globals = mainGlobals
  blt : X.env.builtins = builtinsNs
  above : X.s₀.heap.objs.size ≤ X.env.locals
  inj : ∀ x y c, X.env.cells.lookup x = some c → X.env.cells.lookup y = some c → x = y
  has : ∀ x, (X.env.kindOf x = some .cell ∨ X.env.kindOf x = some .free) → ∃ c, X.env.cells.lookup x = some c
  cab : ∀ x c, X.fn x = true → X.env.cells.lookup x = some c → X.s₀.heap.objs.size ≤ c
  hd : X.calm = true → X.A.handled = none
  frames : X.A.frames = some X.stack
  stk : X.stack = X.outer ∨ (X.stack = X.env :: X.outer ∧ X.env.frame = some X.env.locals)
  exf : ∀ b ∈ X.ex, b ≠ X.env.locals ∧ ∀ x c, X.env.cells.lookup x = some c → c ≠ b
  bs : ∀ b o, X.base.get? b = some o → X.s₀.heap.get? b = some o ∧ X.H₀ b = none
  bsz : X.base.objs.size ≤ X.s₀.heap.objs.size
  noex : ∀ b o, X.base.get? b = some o → b ∉ X.ex
  exfs : ∀ b ∈ X.ex, b ∉ X.fs
  funs : X.s₀.heap.FunFrames X.base X.outer
  frf : ∀ b ∈ X.fs, X.H₀ b = none

structure Inv (X : Cx) (pins : List (Addr × Obj)) (σ : List (Option V)) (H : Hp) (s : Shared) : Prop where
  ok : X.Ok
  os : s.os = X.s₀.os
  bare : AllBare s.gens
  base : Un X.fs X.ex X.H₀ H X.s₀.heap s.heap
  loc : ∃ m, s.heap.Ns X.env.locals m ∧ ∀ (i : Nat) (x : Str) (v : V), X.N[i]? = some x → σ[i]? = some (some v) → Vis X.env.scope x → ∃ u, RelV v u ∧ Look X.env s.heap m x u
  cell : ∀ x c, X.env.cells.lookup x = some c → ∃ v, s.heap.IsCell c v
  free : H X.env.locals = none
  freeC : ∀ x c, X.env.cells.lookup x = some c → H c = none
  pin : ∀ p ∈ X.pn ++ pins, s.heap.get? p.1 = some p.2 ∧ H p.1 = none ∧ p.1 ≠ X.env.locals ∧ p.1 ∉ X.fs ∧ ∀ v, p.2.data ≠ .cell v
  hok : HOk X.prog X.w H s.heap
  len : σ.length = X.N.length

section
variable {X : Cx} {pins : List (Addr × Obj)} {σ : List (Option V)} {H H' : Hp} {s : Shared} {h' : Heap}

theorem Cx.Ok.nofr (ok : X.Ok) {b : Addr} {o : Obj} (e : X.base.get? b = some o) : b ∉ X.fs := fun hb => by
  have := (ok.funs.mem hb).1
  rw [e] at this; cases this
theorem Inv.bs (I : Inv X pins σ H s) : ∀ b o, X.base.get? b = some o → s.heap.get? b = some o ∧ H b = none := fun b o e =>
  ⟨I.base.keep b o (I.ok.bs b o e).1 (I.ok.bs b o e).2 (I.ok.nofr e) (I.ok.noex b o e), I.base.free b o (I.ok.bs b o e).1 (I.ok.bs b o e).2 (I.ok.noex b o e)⟩
theorem Inv.bk (I : Inv X pins σ H s) : ∀ b o, X.base.get? b = some o → s.heap.get? b = some o := fun b o e => (I.bs b o e).1
theorem Inv.mod (I : Inv X pins σ H s) : Mod X.K X.mg X.base := I.ok.mod
theorem Inv.kIn (I : Inv X pins σ H s) : X.K.In s.heap := I.ok.mod.kin.keeps I.bk
theorem Inv.nolimit (I : Inv X pins σ H s) : s.heap.NoLimit := I.ok.mod.nolimit.keeps I.bk
/-- the frame over the base: for OpenK's rules (K.In X.base is I.mod.kin) -/
theorem Inv.fr (I : Inv X pins σ H s) : ∃ m, Fr X.base X.env.locals s.heap m :=
  let ⟨m, hn, _⟩ := I.loc
  ⟨m, hn, I.bk, Nat.le_trans I.ok.bsz I.ok.above⟩
theorem Inv.lt (I : Inv X pins σ H s) : X.env.locals < s.heap.objs.size := let ⟨_, hn, _⟩ := I.loc; hn.lt
theorem Inv.sz (I : Inv X pins σ H s) : X.s₀.heap.objs.size ≤ s.heap.objs.size := Nat.le_trans I.ok.above (Nat.le_of_lt I.lt)
theorem Inv.nofs (I : Inv X pins σ H s) {a : Addr} (h : s.heap.objs.size ≤ a) : a ∉ X.fs := fun hb => by
  obtain ⟨_, o, ho, _⟩ := I.ok.funs.mem hb
  exact absurd (Nat.lt_of_lt_of_le (Heap.lt_size ho) (Nat.le_trans I.sz h)) (Nat.lt_irrefl _)
theorem Inv.cne (I : Inv X pins σ H s) : ∀ x c, X.env.cells.lookup x = some c → c ≠ X.env.locals := fun x c e z => by
  obtain ⟨v, o, ho, hd⟩ := I.cell x c e
  obtain ⟨m, ⟨o', es, ep, ho', hd', _⟩, _⟩ := I.loc
  rw [z, ho'] at ho; cases ho; rw [hd'] at hd; cases hd
theorem Inv.funs (I : Inv X pins σ H s) : s.heap.FunFrames X.base X.outer := by
  have all : ∀ (l : List Env), (∀ b ∈ frs l, b ∈ X.fs) → X.s₀.heap.FunFrames X.base l → s.heap.FunFrames X.base l := by
    intro l
    induction l with
    | nil => intro _ _; trivial
    | cons env r ih =>
      intro hs hl
      obtain ⟨hk, ⟨L, o, hf, hn, ho, hd⟩, hr⟩ := hl
      have hL : L ∈ X.fs := hs L (by unfold frs; rw [List.filterMap_cons, hf]; exact List.mem_cons_self)
      obtain ⟨sl, e⟩ := I.base.slot L o ho (I.ok.frf L hL) hL fun z => I.ok.exfs L z hL
      exact ⟨hk, ⟨L, _, hf, hn, e, hd⟩, ih (fun b hb => hs b (by unfold frs; rw [List.filterMap_cons, hf]; exact List.mem_cons_of_mem _ hb)) hr⟩
  exact all X.outer (fun _ hb => hb) I.ok.funs

/-- the frames that run, for a call -/
theorem Inv.stack (I : Inv X pins σ H s) : s.heap.FunFrames X.base X.stack := by
  rcases I.ok.stk with e | ⟨e, hf⟩
  · rw [e]; exact I.funs
  · rw [e]
    obtain ⟨m, hn, _⟩ := I.loc
    refine .cons (by rw [I.ok.kind]; decide) hf hn ?_ I.funs
    exact Heap.get?_none_of_le (Nat.le_trans I.ok.bsz I.ok.above)
theorem Inv.stkSub (I : Inv X pins σ H s) : ∀ b ∈ frs X.stack, b ∈ X.env.locals :: X.fs := fun b hb => by
  rcases I.ok.stk with e | ⟨e, hf⟩
  · rw [e] at hb; exact List.mem_cons_of_mem _ hb
  · rw [e] at hb
    unfold frs at hb
    rw [List.filterMap_cons, hf] at hb
    exact hb
theorem Inv.stkFree (I : Inv X pins σ H s) : ∀ b ∈ frs X.stack, H b = none := fun b hb => by
  rcases List.mem_cons.mp (I.stkSub b hb) with e | hb
  · rw [e]; exact I.free
  · obtain ⟨_, o, ho, _⟩ := I.ok.funs.mem hb
    exact I.base.free b o ho (I.ok.frf b hb) fun z => I.ok.exfs b z hb

/-- THE STEP: the untracked objects but the frame and the records at ch are kept (the callers' frames up to slots), the frame's map is kept, the new abstract heap is held -/
theorem Inv.step {g' : Array GenState} {t' : Nat} {d' : Drawn} {ch : List Addr} (I : Inv X pins σ H s)
    (hch : ∀ b ∈ ch, (b ∈ X.ex ∨ X.s₀.heap.objs.size ≤ b) ∧ b ≠ X.env.locals ∧ (∀ x c, X.env.cells.lookup x = some c → c ≠ b) ∧ ∀ p ∈ X.pn ++ pins, p.1 ≠ b)
    (keep : ∀ b o, b ≠ X.env.locals → b ∉ X.fs → b ∉ ch → s.heap.get? b = some o → H b = none → h'.get? b = some o)
    (slot : ∀ b o, b ≠ X.env.locals → b ∈ X.fs → b ∉ ch → s.heap.get? b = some o → H b = none → ∃ sl, h'.get? b = some { o with slots := sl }) (free : ∀ b o, b ∉ ch → s.heap.get? b = some o → H b = none → H' b = none)
    (there : ∀ b o, b ∉ ch → s.heap.get? b = some o → ∃ o', h'.get? b = some o')
    (tups : ∀ b xs, H b = some (.tup xs) → H' b = some (.tup xs)) (frzs : ∀ b o u, H b = some (.frz o u) → H' b = some (.frz o u)) (tbls : ∀ b ps, H b = some (.tbl ps) → ∃ more, H' b = some (.tbl (ps ++ more)))
    (ns : ∀ m, s.heap.Ns X.env.locals m → h'.Ns X.env.locals m) (hok : HOk X.prog X.w H' h') (hg : AllBare g') :
    Inv X pins σ H' { s with heap := h', gens := g', drawn := d', toks := t' } := by
  have neL : ∀ b o, X.s₀.heap.get? b = some o → b ≠ X.env.locals := fun b o e => Nat.ne_of_lt (Nat.lt_of_lt_of_le (Heap.lt_size e) I.ok.above)
  have neC : ∀ b o, X.s₀.heap.get? b = some o → b ∉ X.ex → b ∉ ch := fun b o e hx hb => by
    rcases (hch b hb).1 with z | z
    · exact hx z
    · exact absurd (Nat.lt_of_lt_of_le (Heap.lt_size e) z) (Nat.lt_irrefl _)
  have cellK : ∀ x c, X.env.cells.lookup x = some c → ∀ v, s.heap.IsCell c v → h'.IsCell c v := fun x c e v ⟨o, ho, hd⟩ => by
    have nch : c ∉ ch := fun z => (hch c z).2.2.1 x c e rfl
    by_cases hc : c ∈ X.fs
    · obtain ⟨sl, q⟩ := slot c o (I.cne x c e) hc nch ho (I.freeC x c e)
      exact ⟨_, q, hd⟩
    · exact ⟨o, keep c o (I.cne x c e) hc nch ho (I.freeC x c e), hd⟩
  refine ⟨I.ok, I.os, hg, ⟨fun b o e n hb hx => ?_, fun b o e n hb hx => ?_, fun b o e n hx => ?_, fun b o e hx => ?_, fun b xs e => tups b xs (I.base.tups b xs e), fun b o xs e => frzs b o xs (I.base.frzs b o xs e), fun b ps e => ?_⟩, ?_, fun x c e => ?_, ?_, fun x c e => ?_, fun p hp => ?_, hok, I.len⟩
  · exact keep b o (neL b o e) hb (neC b o e hx) (I.base.keep b o e n hb hx) (I.base.free b o e n hx)
  · obtain ⟨sl, e1⟩ := I.base.slot b o e n hb hx
    obtain ⟨sl', e2⟩ := slot b _ (neL b o e) hb (neC b o e hx) e1 (I.base.free b o e n hx)
    exact ⟨sl', e2⟩
  · obtain ⟨o', e1⟩ := I.base.there b o e hx
    exact free b o' (neC b o e hx) e1 (I.base.free b o e n hx)
  · obtain ⟨o', e1⟩ := I.base.there b o e hx
    exact there b o' (neC b o e hx) e1
  · obtain ⟨m1, e1⟩ := I.base.tbls b ps e
    obtain ⟨m2, e2⟩ := tbls b _ e1
    exact ⟨m1 ++ m2, by rw [e2, Array.append_assoc]⟩
  · obtain ⟨m, hn, hl⟩ := I.loc
    refine ⟨m, ns m hn, fun i x v e1 e2 e3 => ?_⟩
    obtain ⟨u, r, l⟩ := hl i x v e1 e2 e3
    refine ⟨u, r, ?_⟩
    rcases l with l | ⟨k, c, e, z⟩
    · exact .inl l
    · exact .inr ⟨k, c, e, cellK x c e _ z⟩
  · obtain ⟨v, z⟩ := I.cell x c e
    exact ⟨v, cellK x c e v z⟩
  · obtain ⟨m, ⟨o, _, _, ho, _⟩, _⟩ := I.loc
    exact free _ o (fun z => (hch _ z).2.1 rfl) ho I.free
  · obtain ⟨v, o, ho, hd⟩ := I.cell x c e
    exact free c o (fun z => (hch c z).2.2.1 x c e rfl) ho (I.freeC x c e)
  · obtain ⟨e, n, ne, nf, d⟩ := I.pin p hp
    have nch : p.1 ∉ ch := fun z => (hch p.1 z).2.2.2 p hp rfl
    exact ⟨keep p.1 p.2 ne nf nch e n, free p.1 p.2 nch e n, ne, nf, d⟩
/-- .. where the frame's own object is kept too -/
theorem Inv.un {t' : Nat} (I : Inv X pins σ H s) (u : Un X.fs [] H H' s.heap h') (hok : HOk X.prog X.w H' h') : Inv X pins σ H' { s with heap := h', toks := t' } := by
  obtain ⟨m, ⟨o, es, ep, ho, r⟩, _⟩ := id I.loc
  obtain ⟨sl, hL⟩ := u.any ho I.free (by simp)
  exact I.step (g' := s.gens) (d' := s.drawn) (ch := []) (fun _ z => nomatch z) (fun b o _ hb _ e n => u.keep b o e n hb (by simp)) (fun b o _ hb _ e n => u.slot b o e n hb (by simp)) (fun b o _ e n => u.free b o e n (by simp)) (fun b o _ e => u.there b o e (by simp)) u.tups u.frzs u.tbls (fun m' hm => by
    obtain ⟨o', es', ep', ho', r'⟩ := hm
    rw [ho] at ho'; cases ho'
    exact ⟨_, es', ep', hL, r'⟩) hok I.bare
/-- behind a call (or a comprehension's block): the slots of this frame may have changed too, the records at ch may have turned -/
theorem Inv.call {g' : Array GenState} {t' : Nat} {d' : Drawn} {ch : List Addr} (I : Inv X pins σ H s) (u : Un (frs X.stack) ch H H' s.heap h') (hok : HOk X.prog X.w H' h') (hg : AllBare g')
    (hch : ∀ b ∈ ch, (b ∈ X.ex ∨ X.s₀.heap.objs.size ≤ b) ∧ b ≠ X.env.locals ∧ (∀ x c, X.env.cells.lookup x = some c → c ≠ b) ∧ ∀ p ∈ X.pn ++ pins, p.1 ≠ b) :
    Inv X pins σ H' { s with heap := h', gens := g', drawn := d', toks := t' } := by
  obtain ⟨m, ⟨o, es, ep, ho, r⟩, _⟩ := id I.loc
  obtain ⟨sl, hL⟩ := u.any ho I.free fun z => (hch _ z).2.1 rfl
  exact I.step (ch := ch) hch (fun b o hL hb hc e n => u.keep b o e n (fun z => (List.mem_cons.mp (I.stkSub b z)).elim hL hb) hc) (fun b o _ _ hc e n => u.any e n hc) (fun b o hc e n => u.free b o e n hc) (fun b o hc e => u.there b o e hc) u.tups u.frzs u.tbls (fun m' hm => by
    obtain ⟨o', es', ep', ho', r'⟩ := hm
    rw [ho] at ho'; cases ho'
    exact ⟨_, es', ep', hL, r'⟩) hok hg
/-- an untracked record of ours (an iterator) has turned -/
theorem Inv.turned {t' : Nat} {it : Addr} (I : Inv X pins σ H s) (k : ∀ b o, b ≠ it → s.heap.get? b = some o → h'.get? b = some o) (hn : H it = none) (hL : it ≠ X.env.locals)
    (h1 : it ∈ X.ex ∨ X.s₀.heap.objs.size ≤ it) (h2 : ∀ x c, X.env.cells.lookup x = some c → c ≠ it) (h3 : ∀ p ∈ X.pn ++ pins, p.1 ≠ it) : Inv X pins σ H { s with heap := h', toks := t' } := by
  have nit : ∀ b u, H b = some u → b ≠ it := fun b u e z => by rw [z, hn] at e; cases e
  refine I.step (g' := s.gens) (d' := s.drawn) (ch := [it]) (fun b hb => ?_) (fun b o _ _ hc e _ => k b o (fun z => hc (by simp [z])) e) (fun b o _ _ hc e _ => ⟨o.slots, k b o (fun z => hc (by simp [z])) e⟩) (fun _ _ _ _ n => n)
    (fun b o hc e => ⟨o, k b o (fun z => hc (by simp [z])) e⟩) (fun _ _ e => e) (fun _ _ _ e => e) (fun b ps e => ⟨#[], by rw [e]; simp⟩) (fun m hm => ?_) (fun b u e => ?_) I.bare
  · have e : b = it := by simpa using hb
    subst e
    exact ⟨h1, hL, h2, h3⟩
  · obtain ⟨o, es, ep, ho, r⟩ := hm
    exact ⟨o, es, ep, k _ o (Ne.symm hL) ho, r⟩
  · refine (I.hok b u e).stay (fun c v hc q => k c v ?_ q) (fun _ q => q) fun _ _ q => q
    rcases hc with z | z
    · rw [z]; exact nit b u e
    · exact nit c _ z
theorem Inv.tok (I : Inv X pins σ H s) (t : Nat) : Inv X pins σ H { s with toks := t } := I.un (h' := s.heap) (t' := t) Un.refl I.hok
/-- all objects kept -/
theorem Inv.kept {t' : Nat} (I : Inv X pins σ H s) (k : ∀ b u, s.heap.get? b = some u → h'.get? b = some u) : Inv X pins σ H { s with heap := h', toks := t' } := I.un (Un.kept k) (I.hok.kept k)
/-- a new object laid and tracked -/
theorem Inv.laid {a : Addr} {o : HO} {t' : Nat} (I : Inv X pins σ H s) (k : ∀ b u, s.heap.get? b = some u → h'.get? b = some u) (hp : s.heap.objs.size ≤ a) (new : ObjOk X.prog X.w (upd H a o) h' a o) :
    Inv X pins σ (upd H a o) { s with heap := h', toks := t' } := I.un (Un.laid k hp (I.hok.fresh hp)) (I.hok.laid k hp new)
/-- an object written -/
theorem Inv.write {x e : Addr} {o : HO} {t' : Nat} (I : Inv X pins σ H s) (mu : Mut (H x)) (he : e = x ∨ H e = some (.own x)) (k : ∀ b u, b ≠ e → s.heap.get? b = some u → h'.get? b = some u) (heo : ∃ u, h'.get? e = some u)
    (new : ObjOk X.prog X.w (upd H x o) h' x o) : Inv X pins σ (upd H x o) { s with heap := h', toks := t' } := I.un (Un.write mu he k heo) (I.hok.write mu he k heo new)
/-- forgetting slots, pins -/
theorem Inv.weak {σ' : List (Option V)} (I : Inv X pins σ H s) (hl : σ'.length = σ.length) (w : ∀ (i : Nat) v, σ'[i]? = some (some v) → σ[i]? = some (some v)) : Inv X pins σ' H s :=
  ⟨I.ok, I.os, I.bare, I.base, let ⟨m, hn, hl'⟩ := I.loc; ⟨m, hn, fun i x v e1 e2 e3 => hl' i x v e1 (w i v e2) e3⟩, I.cell, I.free, I.freeC, I.pin, I.hok, hl.trans I.len⟩
theorem Inv.pins_of {pins' : List (Addr × Obj)} (I : Inv X pins σ H s) (h : ∀ p ∈ pins', s.heap.get? p.1 = some p.2 ∧ H p.1 = none ∧ p.1 ≠ X.env.locals ∧ p.1 ∉ X.fs ∧ ∀ v, p.2.data ≠ .cell v) : Inv X pins' σ H s :=
  ⟨I.ok, I.os, I.bare, I.base, I.loc, I.cell, I.free, I.freeC, fun p hp => (List.mem_append.mp hp).elim (fun z => I.pin p (List.mem_append_left _ z)) (h p), I.hok, I.len⟩

theorem nodup_ix {N : List Str} (hN : N.Nodup) {i j : Nat} {x : Str} (a : N[i]? = some x) (b : N[j]? = some x) : i = j := by
  obtain ⟨h1, e1⟩ := List.getElem?_eq_some_iff.mp a
  obtain ⟨h2, e2⟩ := List.getElem?_eq_some_iff.mp b
  exact (List.getElem_inj hN).mp (e1.trans e2.symm)

/-- a name is stored; what changed -/
theorem store_ok2 {M : Model} {A : Around} {E : Value → Shared → Prop} {i : Nat} {x : Str} {v : V} {u : Value} {Q : Unit → Shared → Prop} (I : Inv X pins σ H s) (hN : X.N.Nodup) (hi : X.N[i]? = some x) (hx : Loc X.env.scope x) (r : RelV v u)
    (h : ∀ s', Inv X pins (σ.set i (some v)) H s' → (∃ a, Heap.SameBut a s.heap s'.heap ∧ (a = X.env.locals ∨ X.env.cells.lookup x = some a)) → Q () s') (hf : X.fn x = true ∨ X.env.scope.names.lookup x = some .local := by first | exact .inl rfl | exact .inr rfl | assumption) : wpAny M A (storeName X.env x u) Q E s := by
  obtain ⟨m, hn, hl⟩ := id I.loc
  have hcls : (X.env.scope.kind == .class || (X.env.scope.kind == .module && X.env.locals != X.env.globals)) = false := by rw [I.ok.kind]; rfl
  have hiσ : i < σ.length := by rw [I.len]; exact (List.getElem?_eq_some_iff.mp hi).1
  have cne := I.cne
  have tracked : ∀ {a : Addr} {h' : Heap}, (∃ o, s.heap.get? a = some o ∧ H a = none) → Heap.SameBut a s.heap h' → HOk X.prog X.w H h' := fun {a h'} ha hs b ob e => by
    obtain ⟨_, _, hfree⟩ := ha
    refine (I.hok b ob e).stay (fun c w' hc q => (hs.2 c ?_).trans q) (fun _ q => q) fun _ _ q => q
    rintro rfl
    rcases hc with rfl | hc
    · rw [hfree] at e; cases e
    · rw [hfree] at hc; cases hc
  rcases hx with hk | hk
  · refine wpAny_storeName_local hk hn (fun h' hn' hs => ?_) hcls
    obtain ⟨oL, _, _, hoL, _⟩ := id hn
    refine h _ ⟨I.ok, I.os, I.bare, ⟨fun b o e n hb hx => ?_, fun b o e n hb hx => ?_, I.base.free, fun b o e hx => ?_, I.base.tups, I.base.frzs, I.base.tbls⟩, ⟨_, hn', fun j y v' e1 e2 e3 => ?_⟩, fun y c e => ?_, I.free, I.freeC, fun p hp => ?_, tracked ⟨oL, hoL, I.free⟩ hs, by simpa using I.len⟩ ⟨_, hs, .inl rfl⟩
    · exact (hs.2 b (Nat.ne_of_lt (Nat.lt_of_lt_of_le (Heap.lt_size e) I.ok.above))).trans (I.base.keep b o e n hb hx)
    · obtain ⟨sl, e1⟩ := I.base.slot b o e n hb hx
      exact ⟨sl, (hs.2 b (Nat.ne_of_lt (Nat.lt_of_lt_of_le (Heap.lt_size e) I.ok.above))).trans e1⟩
    · obtain ⟨o', e1⟩ := I.base.there b o e hx
      exact ⟨o', (hs.2 b (Nat.ne_of_lt (Nat.lt_of_lt_of_le (Heap.lt_size e) I.ok.above))).trans e1⟩
    · by_cases hj : j = i
      · subst hj
        rw [hi] at e1; cases e1
        rw [List.getElem?_set_self hiσ] at e2
        cases e2
        exact ⟨u, r, .inl ⟨hk, by simp⟩⟩
      · rw [List.getElem?_set_ne (Ne.symm hj)] at e2
        obtain ⟨u', r', q⟩ := hl j y v' e1 e2 e3
        refine ⟨u', r', ?_⟩
        rcases q with ⟨k, e⟩ | ⟨k, c, e, z⟩
        · refine .inl ⟨k, ?_⟩
          have : y ≠ x := fun e => hj (nodup_ix hN e1 (e ▸ hi))
          simp [this, e]
        · exact .inr ⟨k, c, e, z.sameBut hs (cne y c e)⟩
    · obtain ⟨w', z⟩ := I.cell y c e
      exact ⟨w', z.sameBut hs (cne y c e)⟩
    · obtain ⟨e, n, ne, nf, d⟩ := I.pin p hp
      exact ⟨(hs.2 p.1 ne).trans e, n, ne, nf, d⟩
  · have hfn : X.fn x = true := by
      rcases hf with z | z
      · exact z
      · rw [z] at hk; cases hk
    obtain ⟨c, hc⟩ := I.ok.has x (.inl hk)
    obtain ⟨w', z⟩ := I.cell x c hc
    refine wpAny_storeName_cell I.ok.kind hk hc z (fun h' hc' hs => ?_)
    obtain ⟨oc, hoc, hocd⟩ := id z
    refine h { s with heap := h' } ⟨I.ok, I.os, I.bare, ⟨fun b o e n hb hx => ?_, fun b o e n hb hx => ?_, I.base.free, fun b o e hx => ?_, I.base.tups, I.base.frzs, I.base.tbls⟩, ⟨m, hn.sameBut hs (Ne.symm (cne x c hc)), fun j y v' e1 e2 e3 => ?_⟩, fun y c' e => ?_, I.free, I.freeC, fun p hp => ?_, tracked ⟨oc, hoc, I.freeC x c hc⟩ hs, by simpa using I.len⟩ ⟨c, hs, .inr hc⟩
    · exact (hs.2 b (Nat.ne_of_lt (Nat.lt_of_lt_of_le (Heap.lt_size e) (I.ok.cab x c hfn hc)))).trans (I.base.keep b o e n hb hx)
    · obtain ⟨sl, e1⟩ := I.base.slot b o e n hb hx
      exact ⟨sl, (hs.2 b (Nat.ne_of_lt (Nat.lt_of_lt_of_le (Heap.lt_size e) (I.ok.cab x c hfn hc)))).trans e1⟩
    · obtain ⟨o', e1⟩ := I.base.there b o e hx
      exact ⟨o', (hs.2 b (Nat.ne_of_lt (Nat.lt_of_lt_of_le (Heap.lt_size e) (I.ok.cab x c hfn hc)))).trans e1⟩
    · by_cases hj : j = i
      · subst hj
        rw [hi] at e1; cases e1
        rw [List.getElem?_set_self hiσ] at e2
        cases e2
        exact ⟨u, r, .inr ⟨.inl hk, c, hc, hc'⟩⟩
      · rw [List.getElem?_set_ne (Ne.symm hj)] at e2
        obtain ⟨u', r', q⟩ := hl j y v' e1 e2 e3
        refine ⟨u', r', ?_⟩
        rcases q with q | ⟨k, c', e, z'⟩
        · exact .inl q
        · refine .inr ⟨k, c', e, z'.sameBut hs ?_⟩
          rintro rfl
          exact hj (nodup_ix hN e1 (I.ok.inj _ _ _ e hc ▸ hi))
    · by_cases hcc : c' = c
      · subst hcc; exact ⟨_, hc'⟩
      · obtain ⟨w2, z2⟩ := I.cell y c' e
        exact ⟨w2, z2.sameBut hs hcc⟩
    · obtain ⟨e, n, ne, nf, d⟩ := I.pin p hp
      refine ⟨(hs.2 p.1 ?_).trans e, n, ne, nf, d⟩
      intro q
      rw [q, hoc] at e
      have q' : oc = p.2 := Option.some.inj e
      exact d w' (by rw [← q']; exact hocd)
theorem store_ok {M : Model} {A : Around} {E : Value → Shared → Prop} {i : Nat} {x : Str} {v : V} {u : Value} {Q : Unit → Shared → Prop} (I : Inv X pins σ H s) (hN : X.N.Nodup) (hi : X.N[i]? = some x) (hx : Loc X.env.scope x) (r : RelV v u)
    (h : ∀ s', Inv X pins (σ.set i (some v)) H s' → Q () s') (hf : X.fn x = true ∨ X.env.scope.names.lookup x = some .local := by first | exact .inl rfl | exact .inr rfl | assumption) : wpAny M A (storeName X.env x u) Q E s :=
  store_ok2 I hN hi hx r (fun s' I' _ => h s' I') hf
/-- behind a call or a block, the state as it is -/
theorem Inv.call' {s' : Shared} {ch : List Addr} (I : Inv X pins σ H s) (ho : s'.os = s.os) (u : Un (frs X.stack) ch H H' s.heap s'.heap) (hok : HOk X.prog X.w H' s'.heap) (hg : AllBare s'.gens)
    (hch : ∀ b ∈ ch, (b ∈ X.ex ∨ X.s₀.heap.objs.size ≤ b) ∧ b ≠ X.env.locals ∧ (∀ x c, X.env.cells.lookup x = some c → c ≠ b) ∧ ∀ p ∈ X.pn ++ pins, p.1 ≠ b) : Inv X pins σ H' s' := by
  obtain ⟨h', g', d', t', o'⟩ := s'
  have e : o' = s.os := ho
  subst e
  exact I.call (g' := g') (t' := t') (d' := d') u hok hg hch
end

/-! ### the judgements -/
/-- an exception: its class, its own dict's address (where it has one), the abstract heap behind it -/
abbrev XK := Value → Option Addr → Hp → Prop
abbrev St := List (Option V)
abbrev VK := V → Hp → Prop
/-- an expression's reading; a test's; an argument list's -/
abbrev TE := St → Hp → VK → Prop
abbrev TT := St → Hp → (Bool → Hp → Prop) → Prop
abbrev TA := St → Hp → (List V → Hp → Prop) → Prop
/-- what is wanted behind a statement -/
structure Ends where
  nx : St → Hp → Prop
  rt : VK
  bk : St → Hp → Prop := fun _ _ => False
  ct : St → Hp → Prop := fun _ _ => False
abbrev TS := Ends → St → Hp → Prop

def EP (X : Cx) (pins : List (Addr × Obj)) (σ : St) (Q : VK) (u : Value) (s' : Shared) : Prop := ∃ v H', Inv X pins σ H' s' ∧ RelV v u ∧ Q v H'
def TP (X : Cx) (pins : List (Addr × Obj)) (σ : St) (Q : Bool → Hp → Prop) (b : Bool) (s' : Shared) : Prop := ∃ H', Inv X pins σ H' s' ∧ Q b H'
def AP (X : Cx) (pins : List (Addr × Obj)) (σ : St) (Q : List V → Hp → Prop) (us : List Value) (s' : Shared) : Prop := ∃ vs H', Inv X pins σ H' s' ∧ Vals vs us ∧ Q vs H'
def SP (X : Cx) (pins : List (Addr × Obj)) (D : Ends) (f : Flow) (s' : Shared) : Prop :=
  match f with
  | .next => ∃ σ' H', Inv X pins σ' H' s' ∧ D.nx σ' H'
  | .brk => ∃ σ' H', Inv X pins σ' H' s' ∧ D.bk σ' H'
  | .cont => ∃ σ' H', Inv X pins σ' H' s' ∧ D.ct σ' H'
  | .ret u => ∃ v σ' H', Inv X pins σ' H' s' ∧ RelV v u ∧ D.rt v H'

structure Hold (p : Prop) : Prop where
  out : p
instance {α : Sort _} {β : α → Prop} : CoeFun (Hold (∀ a, β a)) (fun _ => ∀ a, β a) := ⟨Hold.out⟩
abbrev PE (X : Cx) (e : Expr) (t : TE) : Prop := Hold (
  ∀ (pins : List (Addr × Obj)) (s : Shared) (σ : St) (H : Hp) (Q : VK), Inv X pins σ H s → t σ H Q → wpAny (model X.prog X.w) X.A (eval e X.env) (EP X pins σ Q) X.xe s)
abbrev PT (X : Cx) (e : Expr) (t : TT) : Prop := Hold (
  ∀ (pins : List (Addr × Obj)) (s : Shared) (σ : St) (H : Hp) (Q : Bool → Hp → Prop), Inv X pins σ H s → t σ H Q → wpAny (model X.prog X.w) X.A (isTrue e X.env (eval e X.env)) (TP X pins σ Q) X.xe s)
/-- a test whatever its 'whole' is (and, or) -/
def PW (X : Cx) (e : Expr) (t : TT) : Prop :=
  ∀ (whole : Sem Value) (pins : List (Addr × Obj)) (s : Shared) (σ : St) (H : Hp) (Q : Bool → Hp → Prop), Inv X pins σ H s → t σ H Q → wpAny (model X.prog X.w) X.A (isTrue e X.env whole) (TP X pins σ Q) X.xe s
theorem PW.pt {X : Cx} {e : Expr} {t : TT} (h : PW X e t) : PT X e t := ⟨h _⟩
/-- an argument list (no star), from the left -/
abbrev PA (X : Cx) (es : List Expr) (t : TA) : Prop := Hold (
  ∀ (pos : Pos) (pins : List (Addr × Obj)) (s : Shared) (σ : St) (H : Hp) (Q : List V → Hp → Prop), Inv X pins σ H s → t σ H Q → wpAny (model X.prog X.w) X.A (spliced (backTo pos (starEach es X.env))) (AP X pins σ Q) X.xe s)
abbrev PS (X : Cx) (st : Stmt) (t : TS) : Prop := Hold (
  ∀ (pins : List (Addr × Obj)) (s : Shared) (σ : St) (H : Hp) (D : Ends), Inv X pins σ H s → t D σ H → wpAny (model X.prog X.w) X.A (exec st X.env) (SP X pins D) X.xe s)
abbrev PSs (X : Cx) (st : List Stmt) (t : TS) : Prop := Hold (
  ∀ (pins : List (Addr × Obj)) (s : Shared) (σ : St) (H : Hp) (D : Ends), Inv X pins σ H s → t D σ H → wpAny (model X.prog X.w) X.A (execs st X.env) (SP X pins D) X.xe s)
/-- weaken the end -/
theorem thn {α : Type} {t : Sem α} {Q Q' : α → Shared → Prop} {M : Model} {A : Around} {E : Value → Shared → Prop} {s : Shared} (h : wpAny M A t Q E s) (hQ : ∀ a s, Q a s → Q' a s) : wpAny M A t Q' E s := wpAny_mono h hQ fun _ _ x => x
end L2

namespace L2
open PySem PySem.Spec PyProof.Rows
section
variable {X : Cx}

/-- two expressions in a row -/
theorem bin {a b : Expr} {ta tb : TE} (ha : PE X a ta) (hb : PE X b tb) {pins : List (Addr × Obj)} {s : Shared} {σ : St} {H : Hp} {R : V → V → Hp → Prop} (I : Inv X pins σ H s) (h : ta σ H fun x H1 => tb σ H1 fun y H2 => R x y H2)
    {α : Type} {Q : α → Shared → Prop} {f : Value → Value → Sem α}
    (hf : ∀ v u s2 x y H2, Inv X pins σ H2 s2 → RelV x v → RelV y u → R x y H2 → wpAny (model X.prog X.w) X.A (f v u) Q X.xe s2) :
    wpAny (model X.prog X.w) X.A (eval a X.env) (fun v s₁ => wpAny (model X.prog X.w) X.A (eval b X.env) (fun u s₂ => wpAny (model X.prog X.w) X.A (f v u) Q X.xe s₂) X.xe s₁) X.xe s := by
  refine thn (ha pins s σ H _ I h) fun v s1 ⟨x, H1, I1, r1, q1⟩ => ?_
  refine thn (hb pins s1 σ H1 _ I1 q1) fun u s2 ⟨y, H2, I2, r2, q2⟩ => ?_
  exact hf v u s2 x y H2 I2 r1 r2 q2

/-! ### names and constants -/
def tVar (i : Nat) : TE := fun σ H Q => ∃ v, σ[i]? = some (some v) ∧ Q v H
def tC (v : V) : TE := fun _ H Q => Q v H
theorem pe_var {i : Nat} {x : Str} {pos : Pos} (hN : X.N[i]? = some x) (hv : Vis X.env.scope x) (hd : (x == ("__debug__" : Str)) = false := by decide) (hcd : (x == ("__classdict__" : Str)) = false := by decide) : PE X (.Name x pos) (tVar i) := by
  refine ⟨?_⟩
  intro pins s σ H Q I h
  obtain ⟨v, e, h⟩ := h
  obtain ⟨m, hn, hl⟩ := I.loc
  obtain ⟨u, r, l⟩ := hl i x v hN e hv
  have fin : EP X pins σ Q u s := ⟨v, H, I, r, h⟩
  rcases l with ⟨hk, hm⟩ | ⟨hk, c, hc, hcell⟩
  · exact wpAny_Name (wpAny_loadName_local I.ok.kind hk hn hm fin) hd
  · rcases hk with hk | hk
    · exact wpAny_Name (wpAny_loadName_cell I.ok.kind hk hc hcell fin) hd
    · exact wpAny_Name (wpAny_loadName_free I.ok.kind hk hc hcell fin hcd) hd
theorem pe_int {i j pos} : PE X (.Constant (.int i) j pos) (tC (.int i)) := ⟨fun _ _ _ H _ I h => wpAny_Constant_int ⟨.int i, H, I.tok _, ⟨_, rfl⟩, h⟩⟩
theorem pe_bl {b j pos} : PE X (.Constant (.bool b) j pos) (tC (.bl b)) := ⟨fun _ _ _ H _ I h => Constant_bool ⟨.bl b, H, I, rfl, h⟩⟩
theorem pe_non {j pos} : PE X (.Constant .none j pos) (tC .non) := ⟨fun _ _ _ H _ I h => Constant_none ⟨.non, H, I, rfl, h⟩⟩
theorem pe_str {x j pos} : PE X (.Constant (.str x) j pos) (tC (.str x)) := ⟨fun _ _ _ H _ I h => Calls.Constant_str ⟨.str x, H, I.tok _, ⟨_, rfl⟩, h⟩⟩

/-- a global name of the def -/
def Gl (X : Cx) (x : Str) : Prop := X.env.kindOf x = some .globalImplicit
theorem ld_glob {E : Value → Shared → Prop} {pins : List (Addr × Obj)} {s : Shared} {σ : St} {H : Hp} {x : Str} {u : Value} {pos : Pos} {Q : Value → Shared → Prop} (I : Inv X pins σ H s) (hg : Gl X x) (hm : X.mg x = some u) (h : Q u s)
    (hd : (x == ("__debug__" : Str)) = false := by decide) : wpAny (model X.prog X.w) X.A (eval (.Name x pos) X.env) Q E s :=
  Calls.Name_function_global I.ok.kind hg (Calls.loadGlobal_global (by rw [I.ok.glob]; exact I.mod.glob.keeps I.bk) hm h) hd
theorem ld_blt {E : Value → Shared → Prop} {pins : List (Addr × Obj)} {s : Shared} {σ : St} {H : Hp} {x : Str} {u : Value} {pos : Pos} {Q : Value → Shared → Prop} (I : Inv X pins σ H s) (hg : Gl X x) (hm : X.mg x = none) (hv : bootBuiltins x = some u) (h : Q u s)
    (hn : x ≠ "__name__" := by decide) (hd : (x == ("__debug__" : Str)) = false := by decide) : wpAny (model X.prog X.w) X.A (eval (.Name x pos) X.env) Q E s := by
  obtain ⟨mb, h1, h2⟩ := I.mod.blt
  exact Calls.Name_function_global I.ok.kind hg (Calls.loadGlobal_builtin (by rw [I.ok.glob]; exact I.mod.glob.keeps I.bk) hm (by rw [I.ok.blt]; exact h1.keeps I.bk) ((h2 x hn).trans hv) h) hd
/-- a module's constant, a class, a function, as a value -/
theorem pe_glob {x : Str} {v : V} {u : Value} {pos : Pos} (hg : Gl X x) (hm : X.mg x = some u) (r : RelV v u) (hd : (x == ("__debug__" : Str)) = false := by decide) : PE X (.Name x pos) (tC v) :=
  ⟨fun _ _ _ H _ I h => ld_glob I hg hm ⟨v, H, I, r, h⟩ hd⟩
theorem pe_bltn {x : Str} {v : V} {u : Value} {pos : Pos} (hg : Gl X x) (hm : X.mg x = none) (hv : bootBuiltins x = some u) (r : RelV v u) (hn : x ≠ "__name__" := by decide) (hd : (x == ("__debug__" : Str)) = false := by decide) : PE X (.Name x pos) (tC v) :=
  ⟨fun _ _ _ H _ I h => ld_blt I hg hm hv ⟨v, H, I, r, h⟩ hn hd⟩

/-! ### arithmetic -/
/-- two ints -/
def t2I (ta tb : TE) (k : Int → Int → Hp → Prop) : St → Hp → Prop := fun σ H => ta σ H fun x H1 => tb σ H1 fun y H2 => ∃ i j, x = .int i ∧ y = .int j ∧ k i j H2
def tAdd (ta tb : TE) : TE := fun σ H Q => t2I ta tb (fun i j H2 => Q (.int (i + j)) H2) σ H
def tSub (ta tb : TE) : TE := fun σ H Q => t2I ta tb (fun i j H2 => Q (.int (i - j)) H2) σ H
/-- the left factor below 2^64 -/
def tMul (ta tb : TE) : TE := fun σ H Q => t2I ta tb (fun i j H2 => (-(2 ^ 64) < i ∧ i < 2 ^ 64) ∧ Q (.int (i * j)) H2) σ H
variable {a b : Expr} {ta tb : TE} {pos : Pos}
theorem pe_add (ha : PE X a ta) (hb : PE X b tb) : PE X (.BinOp a .Add b pos) (tAdd ta tb) := by
  refine ⟨?_⟩
  intro pins s σ H Q I h
  refine wpAny_BinOp (bin ha hb I h fun v u s2 x y H2 I2 rx ry q => ?_)
  obtain ⟨i, j, rfl, rfl, q⟩ := q
  obtain ⟨t, rfl⟩ := rx
  obtain ⟨t', rfl⟩ := ry
  exact add_int ⟨.int _, H2, I2.tok _, ⟨_, rfl⟩, q⟩
theorem pe_sub (ha : PE X a ta) (hb : PE X b tb) : PE X (.BinOp a .Sub b pos) (tSub ta tb) := by
  refine ⟨?_⟩
  intro pins s σ H Q I h
  refine wpAny_BinOp (bin ha hb I h fun v u s2 x y H2 I2 rx ry q => ?_)
  obtain ⟨i, j, rfl, rfl, q⟩ := q
  obtain ⟨t, rfl⟩ := rx
  obtain ⟨t', rfl⟩ := ry
  exact sub_int ⟨.int _, H2, I2.tok _, ⟨_, rfl⟩, q⟩
theorem pe_mul (ha : PE X a ta) (hb : PE X b tb) : PE X (.BinOp a .Mult b pos) (tMul ta tb) := by
  refine ⟨?_⟩
  intro pins s σ H Q I h
  refine wpAny_BinOp (bin ha hb I h fun v u s2 x y H2 I2 rx ry q => ?_)
  obtain ⟨i, j, rfl, rfl, ⟨q1, q2⟩, q⟩ := q
  obtain ⟨t, rfl⟩ := rx
  obtain ⟨t', rfl⟩ := ry
  exact mul_int ⟨.int _, H2, I2.tok _, ⟨_, rfl⟩, q⟩ (.of_left (intBits_le_64 q1 q2))

/-! ### comparisons -/
def PC (X : Cx) (op : CmpOp) (a b : Expr) (t : TE) : Prop :=
  ∀ (pins : List (Addr × Obj)) (s : Shared) (σ : St) (H : Hp) (Q : VK), Inv X pins σ H s → t σ H Q →
    wpAny (model X.prog X.w) X.A (eval a X.env) (fun v s₁ => wpAny (model X.prog X.w) X.A (eval b X.env) (fun u s₂ => wpAny (model X.prog X.w) X.A (compareOp op v u) (EP X pins σ Q) X.xe s₂) X.xe s₁) X.xe s
theorem nobehind (b : Expr) {op : CmpOp} (h : op ≠ .In) (h2 : op ≠ .NotIn) : behindInMarks op b = false := by
  have e1 : (op == CmpOp.In) = false := by cases op <;> first | rfl | exact absurd rfl h
  have e2 : (op == CmpOp.NotIn) = false := by cases op <;> first | rfl | exact absurd rfl h2
  cases b <;> simp [behindInMarks, e1, e2]
def tCmp (p : Int → Int → Bool) (ta tb : TE) : TE := fun σ H Q => t2I ta tb (fun i j H2 => Q (.bl (p i j)) H2) σ H
abbrev tLt : TE → TE → TE := tCmp fun i j => decide (i < j)
abbrev tLe : TE → TE → TE := tCmp fun i j => decide (i ≤ j)
abbrev tGt : TE → TE → TE := tCmp fun i j => decide (j < i)
abbrev tGe : TE → TE → TE := tCmp fun i j => decide (j ≤ i)
abbrev tEqI : TE → TE → TE := tCmp fun i j => decide (i = j)
abbrev tNeI : TE → TE → TE := tCmp fun i j => !decide (i = j)
/-- a comparison of two ints, by its rule -/
theorem pc_int {op : CmpOp} {p : Int → Int → Bool} (ha : PE X a ta) (hb : PE X b tb)
    (rule : ∀ (i j : Int) (t u : Tok) (Q : Value → Shared → Prop) (s : Shared), Q (.bool (p i j)) s → wpAny (model X.prog X.w) X.A (compareOp op (.int i t) (.int j u)) Q X.xe s) : PC X op a b (tCmp p ta tb) := by
  intro pins s σ H Q I h
  refine bin ha hb I h fun v u s2 x y H2 I2 rx ry q => ?_
  obtain ⟨i, j, rfl, rfl, q⟩ := q
  obtain ⟨t, rfl⟩ := rx
  obtain ⟨t', rfl⟩ := ry
  exact rule i j t t' _ s2 ⟨.bl _, H2, I2, rfl, q⟩
theorem pc_lt (ha : PE X a ta) (hb : PE X b tb) : PC X .Lt a b (tLt ta tb) := pc_int ha hb fun _ _ _ _ _ _ h => lt_int h
theorem pc_le (ha : PE X a ta) (hb : PE X b tb) : PC X .LtE a b (tLe ta tb) := pc_int ha hb fun _ _ _ _ _ _ h => le_int h
theorem pc_gt (ha : PE X a ta) (hb : PE X b tb) : PC X .Gt a b (tGt ta tb) := pc_int ha hb fun _ _ _ _ _ _ h => gt_int h
theorem pc_ge (ha : PE X a ta) (hb : PE X b tb) : PC X .GtE a b (tGe ta tb) := pc_int ha hb fun _ _ _ _ _ _ h => ge_int h
theorem pc_eqI (ha : PE X a ta) (hb : PE X b tb) : PC X .Eq a b (tEqI ta tb) := pc_int ha hb fun _ _ _ _ _ _ h => eq_int (by rw [Bool.beq_eq_decide_eq]; exact h)
theorem pc_neI (ha : PE X a ta) (hb : PE X b tb) : PC X .NotEq a b (tNeI ta tb) := pc_int ha hb fun _ _ _ _ _ _ h => ne_int (by rw [bne, Bool.beq_eq_decide_eq]; exact h)
/-- is None -/
def tIsN (ta : TE) : TE := fun σ H Q => ta σ H fun x H1 => Q (.bl (decide (x = .non))) H1
def tNotN (ta : TE) : TE := fun σ H Q => ta σ H fun x H1 => Q (.bl (!decide (x = .non))) H1
theorem RelV.none_iff {x : V} {v : Value} (r : RelV x v) : (v == Value.none) = decide (x = .non) := by
  cases x with
  | non => cases r; rfl
  | bl _ => cases r; rfl
  | int _ => obtain ⟨t, rfl⟩ := r; rfl
  | str _ => obtain ⟨t, rfl⟩ := r; rfl
  | byt _ => obtain ⟨t, rfl⟩ := r; rfl
  | flt _ => obtain ⟨t, rfl⟩ := r; rfl
  | ref _ => cases r; rfl
  | ty _ => cases r; rfl
theorem pc_isN {j pos'} (ha : PE X a ta) : PC X .Is a (.Constant .none j pos') (tIsN ta) := by
  intro pins s σ H Q I h
  refine thn (ha pins s σ H _ I h) fun v s1 ⟨x, H1, I1, r1, q1⟩ => ?_
  exact Constant_none (is_none_gen ⟨.bl _, H1, I1, by rw [r1.none_iff]; rfl, q1⟩)
theorem pc_notN {j pos'} (ha : PE X a ta) : PC X .IsNot a (.Constant .none j pos') (tNotN ta) := by
  intro pins s σ H Q I h
  refine thn (ha pins s σ H _ I h) fun v s1 ⟨x, H1, I1, r1, q1⟩ => ?_
  exact Constant_none (isnot_none_gen ⟨.bl _, H1, I1, by rw [r1.none_iff]; rfl, q1⟩)
/-- a comparison as a value, as a test -/
def tB (t : TE) : TT := fun σ H Q => t σ H fun x H1 => ∃ c, x = .bl c ∧ Q c H1
theorem pe_cmp {op : CmpOp} {t : TE} (h : PC X op a b t) (h1 : behindInMarks op b = false := by first | exact nobehind _ (by decide) (by decide) | rfl) : PE X (.Compare a [op] [b] pos) t := ⟨fun pins s σ H Q I hw => wpAny_Compare1 (h pins s σ H Q I hw) h1⟩
theorem pt_cmp {op : CmpOp} {t : TE} (h : PC X op a b t) (h1 : behindInMarks op b = false := by first | exact nobehind _ (by decide) (by decide) | rfl) : PT X (.Compare a [op] [b] pos) (tB t) := by
  refine ⟨?_⟩
  intro pins s σ H Q I hw
  refine wpAny_isTrue_Compare1 (thn (h pins s σ H _ I hw) fun v s1 h1 => thn h1 fun u s2 h2 => thn h2 fun c s3 ⟨x, H1, I1, r1, q1⟩ => ?_) h1
  obtain ⟨d, rfl, q⟩ := q1
  cases r1
  exact wpAny_truthy_bool ⟨H1, I1, q⟩
/-- an expression whose value is a bool, as a test -/
theorem pt_val {e : Expr} {t : TE} (h : PE X e t) (he : ∀ whole, isTrue e X.env whole = (do let v ← whole; standAt e.pos; holding [v] (truthy v)) := by intro _; rfl) : PT X e (tB t) := by
  refine ⟨?_⟩
  intro pins s σ H Q I hw
  refine isTrue_plain (thn (h pins s σ H _ I hw) fun v s1 ⟨x, H1, I1, r1, q1⟩ => ?_) (he _)
  obtain ⟨d, rfl, q⟩ := q1
  cases r1
  exact wpAny_truthy_bool ⟨H1, I1, q⟩

/-! ### and, or, not -/
variable {tA tB' : TT} {rest : List Expr}
def tAnd (t u : TT) : TT := fun σ H Q => t σ H fun c H1 => if c = true then u σ H1 Q else Q false H1
def tOr (t u : TT) : TT := fun σ H Q => t σ H fun c H1 => if c = true then Q true H1 else u σ H1 Q
def tNot (t : TT) : TT := fun σ H Q => t σ H fun c H1 => Q (!c) H1
theorem pw_and1 (ha : PT X a tA) : PW X (.BoolOp .And [a] pos) tA := by
  intro wh pins s σ H Q I h
  refine isTrue_and (thn (ha pins s σ H Q I h) fun c s1 e => ?_)
  cases c with
  | true => exact isTrue_and_nil e
  | false => exact e
theorem pw_or1 (ha : PT X a tA) : PW X (.BoolOp .Or [a] pos) tA := by
  intro wh pins s σ H Q I h
  refine isTrue_or (thn (ha pins s σ H Q I h) fun c s1 e => ?_)
  cases c with
  | false => exact isTrue_or_nil e
  | true => exact e
theorem pw_and (ha : PT X a tA) (hb : PW X (.BoolOp .And (b :: rest) pos) tB') : PW X (.BoolOp .And (a :: b :: rest) pos) (tAnd tA tB') := by
  intro wh pins s σ H Q I h
  refine isTrue_and (thn (ha pins s σ H _ I h) fun c s1 ⟨H1, I1, q1⟩ => ?_)
  cases c with
  | true => exact hb wh pins s1 σ H1 Q I1 q1
  | false => exact ⟨H1, I1, q1⟩
theorem pw_or (ha : PT X a tA) (hb : PW X (.BoolOp .Or (b :: rest) pos) tB') : PW X (.BoolOp .Or (a :: b :: rest) pos) (tOr tA tB') := by
  intro wh pins s σ H Q I h
  refine isTrue_or (thn (ha pins s σ H _ I h) fun c s1 ⟨H1, I1, q1⟩ => ?_)
  cases c with
  | true => exact ⟨H1, I1, q1⟩
  | false => exact hb wh pins s1 σ H1 Q I1 q1
theorem pt_not (ha : PT X a tA) : PT X (.UnaryOp .Not a pos) (tNot tA) := by
  refine ⟨?_⟩
  intro pins s σ H Q I h
  exact isTrue_not (ha pins s σ H (fun c H1 => Q (!c) H1) I h)
/-- .. as values (bools) -/
def tAndV (ta tb : TE) : TE := fun σ H Q => ta σ H fun x H1 => ∃ c, x = .bl c ∧ if c = true then tb σ H1 Q else Q (.bl false) H1
def tOrV (ta tb : TE) : TE := fun σ H Q => ta σ H fun x H1 => ∃ c, x = .bl c ∧ if c = true then Q (.bl true) H1 else tb σ H1 Q
def tNotV (ta : TE) : TE := fun σ H Q => ta σ H fun x H1 => ∃ c, x = .bl c ∧ Q (.bl (!c)) H1
theorem pe_one {op} {t : TE} (h : PE X a t) : PE X (.BoolOp op [a] pos) t := ⟨fun pins s σ H Q I hw => BoolOp_one (h pins s σ H Q I hw)⟩
theorem pe_and (ha : PE X a ta) (hb : PE X (.BoolOp .And (b :: rest) pos) tb) : PE X (.BoolOp .And (a :: b :: rest) pos) (tAndV ta tb) := by
  refine ⟨?_⟩
  intro pins s σ H Q I h
  refine BoolOp_and (thn (ha pins s σ H _ I h) fun v s1 ⟨x, H1, I1, r1, q1⟩ => ?_)
  obtain ⟨c, rfl, q1⟩ := q1
  cases r1
  refine wpAny_truthy_bool ?_
  cases c with
  | true => exact hb pins s1 σ H1 Q I1 q1
  | false => exact ⟨.bl false, H1, I1, rfl, q1⟩
theorem pe_or (ha : PE X a ta) (hb : PE X (.BoolOp .Or (b :: rest) pos) tb) : PE X (.BoolOp .Or (a :: b :: rest) pos) (tOrV ta tb) := by
  refine ⟨?_⟩
  intro pins s σ H Q I h
  refine BoolOp_or (thn (ha pins s σ H _ I h) fun v s1 ⟨x, H1, I1, r1, q1⟩ => ?_)
  obtain ⟨c, rfl, q1⟩ := q1
  cases r1
  refine wpAny_truthy_bool ?_
  cases c with
  | false => exact hb pins s1 σ H1 Q I1 q1
  | true => exact ⟨.bl true, H1, I1, rfl, q1⟩
theorem pe_not (ha : PE X a ta) : PE X (.UnaryOp .Not a pos) (tNotV ta) := by
  refine ⟨?_⟩
  intro pins s σ H Q I h
  refine UnaryOp_ (thn (ha pins s σ H _ I h) fun v s1 ⟨x, H1, I1, r1, q1⟩ => ?_)
  obtain ⟨c, rfl, q1⟩ := q1
  cases r1
  exact not_of (wpAny_truthy_bool ⟨.bl (!c), H1, I1, rfl, q1⟩)
/-- a if t else b -/
def tIf (t : TT) (ta tb : TE) : TE := fun σ H Q => t σ H fun c H1 => if c = true then ta σ H1 Q else tb σ H1 Q
theorem pe_ifExp {c : Expr} (hc : PT X c tA) (ha : PE X a ta) (hb : PE X b tb) : PE X (.IfExp c a b pos) (tIf tA ta tb) := by
  refine ⟨?_⟩
  intro pins s σ H Q I h
  refine wpAny_IfExp (thn (hc pins s σ H _ I h) fun d s1 ⟨H1, I1, q1⟩ => ?_)
  cases d with
  | true => exact ha pins s1 σ H1 Q I1 q1
  | false => exact hb pins s1 σ H1 Q I1 q1
end
end L2

namespace L2
open PySem PySem.Spec PyProof.Rows

/-! ### a list, a tuple that is read: tracked, frozen, or an object of the module -/
def SqL (K : PySem.W.Frag) (H : Hp) (a : Addr) (xs : List V) : Prop :=
  Rd H a (.lst xs) ∨
    ∃ (o : Obj) (its : Array Value) (n : Nat), K.lookup a = some o ∧ o.cls = .type "list" ∧ o.dict = none ∧ o.data = .seq its n ∧ its.size ≤ sizeLine ∧ Vals xs its.toList
def SqT (K : PySem.W.Frag) (H : Hp) (a : Addr) (xs : List V) : Prop :=
  Rd H a (.tup xs) ∨
    ∃ (o : Obj) (its : Array Value) (n : Nat), K.lookup a = some o ∧ o.cls = .type "tuple" ∧ o.data = .seq its n ∧ its.size ≤ sizeLine ∧ Vals xs its.toList
def absV : Value → Option V
  | .none => some .non
  | .bool b => some (.bl b)
  | .int i _ => some (.int i)
  | .str x _ => some (.str x)
  | .bytes b _ => some (.byt b)
  | .float b _ => some (.flt b)
  | .ref a => some (.ref a)
  | .type n => some (.ty n)
  | _ => none
theorem RelV.abs {x : V} {u : Value} (r : RelV x u) : absV u = some x := by
  cases x with
  | non => cases r; rfl
  | bl _ => cases r; rfl
  | int _ => obtain ⟨t, rfl⟩ := r; rfl
  | str _ => obtain ⟨t, rfl⟩ := r; rfl
  | byt _ => obtain ⟨t, rfl⟩ := r; rfl
  | flt _ => obtain ⟨t, rfl⟩ := r; rfl
  | ref _ => cases r; rfl
  | ty _ => cases r; rfl
theorem RelV.inj {x y : V} {u : Value} (r : RelV x u) (q : RelV y u) : x = y := Option.some.inj (r.abs.symm.trans q.abs)
theorem Vals.inj : ∀ {xs ys : List V} {us : List Value}, Vals xs us → Vals ys us → xs = ys
  | _, _, _, .nil, .nil => rfl
  | _, _, _, .cons r t, .cons r' t' => by rw [r.inj r', Vals.inj t t']
section
variable {X : Cx} {pins : List (Addr × Obj)} {σ : St} {H : Hp} {s : Shared} {a : Addr} {xs ys : List V}
theorem SqL.of {K : PySem.W.Frag} (h : H a = some (.lst xs)) : SqL K H a xs := .inl (.inl h)
theorem SqT.of {K : PySem.W.Frag} (h : H a = some (.tup xs)) : SqT K H a xs := .inl (.inl h)
theorem Inv.list (I : Inv X pins σ H s) (h : SqL X.K H a xs) : ∃ its : List Value, Vals xs its ∧ PlainL s.heap a its.toArray ∧ xs.length ≤ sizeLine := by
  rcases h with h | ⟨o, its, n, hk, hc, hd, hs, hz, r⟩
  · obtain ⟨z, its, n, r, e⟩ := h.ok I.hok
    exact ⟨its, r, ⟨_, n, e, rfl, rfl, rfl⟩, z⟩
  · refine ⟨its.toList, r, ⟨o, n, I.kIn a o hk, hc, hd, by simpa using hs⟩, ?_⟩
    have e := r.length
    simp only [Array.length_toList] at e
    omega
theorem Inv.tuple (I : Inv X pins σ H s) (h : SqT X.K H a xs) : ∃ its : List Value, Vals xs its ∧ IsTup s.heap a its.toArray ∧ xs.length ≤ sizeLine := by
  rcases h with h | ⟨o, its, n, hk, hc, hs, hz, r⟩
  · obtain ⟨z, its, r, p⟩ := h.ok I.hok
    exact ⟨its, r, p, z⟩
  · refine ⟨its.toList, r, ⟨o, I.kIn a o hk, hc, n, by simpa using hs⟩, ?_⟩
    have e := r.length
    simp only [Array.length_toList] at e
    omega
theorem Inv.list_inj (I : Inv X pins σ H s) (h : SqL X.K H a xs) (h' : SqL X.K H a ys) : xs = ys := by
  obtain ⟨its, r, ⟨o, n, e, _, _, d⟩, _⟩ := I.list h
  obtain ⟨its', r', ⟨o', n', e', _, _, d'⟩, _⟩ := I.list h'
  rw [e] at e'; cases e'
  rw [d] at d'
  injection d' with d1 _
  have : its = its' := by simpa using congrArg Array.toList d1
  subst this
  exact r.inj r'
theorem Inv.tuple_inj (I : Inv X pins σ H s) (h : SqT X.K H a xs) (h' : SqT X.K H a ys) : xs = ys := by
  obtain ⟨its, r, ⟨o, e, _, n, d⟩, _⟩ := I.tuple h
  obtain ⟨its', r', ⟨o', e', _, n', d'⟩, _⟩ := I.tuple h'
  rw [e] at e'; cases e'
  rw [d] at d'
  injection d' with d1 _
  have : its = its' := by simpa using congrArg Array.toList d1
  subst this
  exact r.inj r'
end

/-! ### another wish about exceptions -/
abbrev Cx.wish (X : Cx) (E : Value → Shared → Prop) : Cx := { X with xe := E }
/-- no exception leaves -/
abbrev Cx.nox (X : Cx) : Cx := X.wish fun _ _ => False
theorem Cx.Ok.wish {X : Cx} (ok : X.Ok) (E : Value → Shared → Prop) : (X.wish E).Ok :=
  ⟨ok.mod, ok.kind, ok.glob, ok.blt, ok.above, ok.inj, ok.has, ok.cab, ok.hd, ok.frames, ok.stk, ok.exf, ok.bs, ok.bsz, ok.noex, ok.exfs, ok.funs, ok.frf⟩
theorem Cx.Ok.unwish {X : Cx} {E : Value → Shared → Prop} (ok : (X.wish E).Ok) : X.Ok :=
  ⟨ok.mod, ok.kind, ok.glob, ok.blt, ok.above, ok.inj, ok.has, ok.cab, ok.hd, ok.frames, ok.stk, ok.exf, ok.bs, ok.bsz, ok.noex, ok.exfs, ok.funs, ok.frf⟩
section
variable {X : Cx} {pins : List (Addr × Obj)} {σ : St} {H : Hp} {s : Shared} {E : Value → Shared → Prop}
theorem Inv.wish (I : Inv X pins σ H s) (E : Value → Shared → Prop) : Inv (X.wish E) pins σ H s := ⟨I.ok.wish E, I.os, I.bare, I.base, I.loc, I.cell, I.free, I.freeC, I.pin, I.hok, I.len⟩
theorem Inv.unwish (I : Inv (X.wish E) pins σ H s) : Inv X pins σ H s := ⟨I.ok.unwish, I.os, I.bare, I.base, I.loc, I.cell, I.free, I.freeC, I.pin, I.hok, I.len⟩
theorem SP.unwish {D : Ends} {f : Flow} {s' : Shared} (h : SP (X.wish E) pins D f s') : SP X pins D f s' := by
  cases f with
  | next => obtain ⟨σ', H', I, q⟩ := h; exact ⟨σ', H', I.unwish, q⟩
  | brk => obtain ⟨σ', H', I, q⟩ := h; exact ⟨σ', H', I.unwish, q⟩
  | cont => obtain ⟨σ', H', I, q⟩ := h; exact ⟨σ', H', I.unwish, q⟩
  | ret u => obtain ⟨v, σ', H', I, r, q⟩ := h; exact ⟨v, σ', H', I.unwish, r, q⟩
theorem PE.nox {e : Expr} {t : TE} (h : PE X.nox e t) : PE X e t := ⟨fun pins s σ H Q I hw =>
  wpAny_mono (h pins s σ H Q (I.wish _) hw) (fun _ _ ⟨v, H', I', r, q⟩ => ⟨v, H', I'.unwish, r, q⟩) fun _ _ z => False.elim z⟩
theorem PT.nox {e : Expr} {t : TT} (h : PT X.nox e t) : PT X e t := ⟨fun pins s σ H Q I hw =>
  wpAny_mono (h pins s σ H Q (I.wish _) hw) (fun _ _ ⟨H', I', q⟩ => ⟨H', I'.unwish, q⟩) fun _ _ z => False.elim z⟩
theorem PSs.nox {st : List Stmt} {t : TS} (h : PSs X.nox st t) : PSs X st t := ⟨fun pins s σ H D I hw =>
  wpAny_mono (h pins s σ H D (I.wish _) hw) (fun _ _ q => q.unwish) fun _ _ z => False.elim z⟩
end

/-! ### blocks and small statements -/
section
variable {X : Cx} {st : Stmt} {rest : List Stmt} {t u : TS} {e : Expr} {te : TE} {pos : Pos}
def tNext : TS := fun D σ H => D.nx σ H
def tSeq (t u : TS) : TS := fun D σ H => t { D with nx := u D } σ H
theorem pss_nil : PSs X [] tNext := ⟨fun _ _ σ H _ I h => wpAny_execs_nil ⟨σ, H, I, h⟩⟩
theorem pss_cons (h1 : PS X st t) (h2 : PSs X rest u) : PSs X (st :: rest) (tSeq t u) := by
  refine ⟨?_⟩
  intro pins s σ H D I h
  refine wpAny_execs_cons (thn (h1 pins s σ H { D with nx := u D } I h) fun f s1 q => ?_)
  cases f with
  | next =>
    obtain ⟨σ', H', I', q⟩ := q
    exact h2 pins s1 σ' H' D I' q
  | ret v => exact q
  | brk => exact q
  | cont => exact q
theorem pss_one (h1 : PS X st t) : PSs X [st] t := by
  refine ⟨?_⟩
  intro pins s σ H D I h
  refine wpAny_execs_cons (thn (h1 pins s σ H D I h) fun f s1 q => ?_)
  cases f with
  | next => exact wpAny_execs_nil q
  | ret v => exact q
  | brk => exact q
  | cont => exact q
def tBreak : TS := fun D σ H => D.bk σ H
def tCont : TS := fun D σ H => D.ct σ H
theorem ps_pass : PS X (.Pass pos) tNext := ⟨fun _ _ σ H _ I h => wpAny_Pass ⟨σ, H, I, h⟩⟩
theorem ps_break : PS X (.Break pos) tBreak := ⟨fun _ _ σ H _ I h => wpAny_Break ⟨σ, H, I, h⟩⟩
theorem ps_continue : PS X (.Continue pos) tCont := ⟨fun _ _ σ H _ I h => wpAny_Continue ⟨σ, H, I, h⟩⟩
/-- in a def's body nothing is shown -/
theorem Inv.quiet {pins : List (Addr × Obj)} {σ : St} {H : Hp} {s : Shared} (I : Inv X pins σ H s) : interactive X.env = false := by simp [interactive, I.ok.kind]
/-- a docstring -/
theorem ps_doc {x j pos pos'} : PS X (.Expr (.Constant (.str x) j pos) pos') tNext := ⟨fun _ s σ H _ I h => wpAny_Expr (Calls.Constant_str (show SP X _ _ .next { s with toks := s.toks + 1 } from ⟨σ, H, I.tok _, h⟩)) I.quiet⟩
/-- an expression whose value is dropped -/
def tDrop (te : TE) : TS := fun D σ H => te σ H fun _ H1 => D.nx σ H1
theorem ps_expr (he : PE X e te) (hs : swapsWith e none pos.line X.env = pure false := by rfl) : PS X (.Expr e pos) (tDrop te) := by
  refine ⟨?_⟩
  intro pins s σ H D I h
  exact wpAny_Expr_any (thn (he pins s σ H _ I h) fun v s1 ⟨x, H1, I1, r1, q1⟩ => ⟨σ, H1, I1, q1⟩) I.quiet hs
def tRet (te : TE) : TS := fun D σ H => te σ H D.rt
theorem ps_ret (he : PE X e te) : PS X (.Return (some e) pos) (tRet te) := by
  refine ⟨?_⟩
  intro pins s σ H D I h
  exact wpAny_Return_some (thn (he pins s σ H _ I h) fun v s1 ⟨x, H1, I1, r1, q1⟩ => ⟨x, σ, H1, I1, r1, q1⟩)
def tRetN : TS := fun D _ H => D.rt .non H
theorem ps_retN : PS X (.Return none pos) tRetN := ⟨fun _ _ σ H _ I h => wpAny_Return_none ⟨.non, σ, H, I, rfl, h⟩⟩
def tIfS (c : TT) (t u : TS) : TS := fun D σ H => c σ H fun b H1 => if b = true then t D σ H1 else u D σ H1
theorem ps_if {c : Expr} {a b : List Stmt} {tc : TT} (hc : PT X c tc) (ha : PSs X a t) (hb : PSs X b u) : PS X (.If c a b pos) (tIfS tc t u) := by
  refine ⟨?_⟩
  intro pins s σ H D I h
  refine wpAny_If (thn (hc pins s σ H _ I h) fun d s1 ⟨H1, I1, q1⟩ => ?_)
  cases d with
  | true => exact ha pins s1 σ H1 D I1 q1
  | false => exact hb pins s1 σ H1 D I1 q1
/-- code that the proof never comes to -/
def tNever : TS := fun _ _ _ => False
theorem ps_never : PS X st tNever := ⟨fun _ _ _ _ _ _ h => h.elim⟩
theorem pss_never {sts : List Stmt} : PSs X sts tNever := ⟨fun _ _ _ _ _ _ h => h.elim⟩
end

/-! ### targets -/
abbrev TG := V → St → Hp → (St → Hp → Prop) → Prop
abbrev TGs := List V → St → Hp → (St → Hp → Prop) → Prop
def PG (X : Cx) (target : Expr) (t : TG) : Prop :=
  ∀ (pins : List (Addr × Obj)) (s : Shared) (σ : St) (H : Hp) (v : V) (u : Value) (Q : St → Hp → Prop), Inv X pins σ H s → RelV v u → t v σ H Q →
    wpAny (model X.prog X.w) X.A (assign target X.env u) (fun _ s' => ∃ σ' H', Inv X pins σ' H' s' ∧ Q σ' H') X.xe s
/-- several targets, one after another -/
def PGs (X : Cx) (ts : List Expr) (t : TGs) : Prop :=
  ∀ (pins : List (Addr × Obj)) (s : Shared) (σ : St) (H : Hp) (vs : List V) (us : List Value) (Q : St → Hp → Prop), Inv X pins σ H s → Vals vs us → t vs σ H Q →
    wpAny (model X.prog X.w) X.A (assignInOrder ((assignEach ts X.env).map (·.2)) us) (fun _ s' => ∃ σ' H', Inv X pins σ' H' s' ∧ Q σ' H') X.xe s
/-- o[i] = v, by values -/
abbrev TSet := V → V → V → Hp → (Hp → Prop) → Prop
def PSet (X : Cx) (t : TSet) : Prop :=
  ∀ (pins : List (Addr × Obj)) (s : Shared) (σ : St) (H : Hp) (o i v : V) (ov iv u : Value) (Q : Hp → Prop), Inv X pins σ H s → RelV o ov → RelV i iv → RelV v u → t o i v H Q →
    wpAny (model X.prog X.w) X.A (setItem ov iv u) (fun _ s' => ∃ H', Inv X pins σ H' s' ∧ Q H') X.xe s
/-- a op= b, by values -/
abbrev TIp := V → V → Hp → VK → Prop
def PIp (X : Cx) (op : Operator) (t : TIp) : Prop :=
  ∀ (pins : List (Addr × Obj)) (s : Shared) (σ : St) (H : Hp) (x y : V) (v u : Value) (Q : VK), Inv X pins σ H s → RelV x v → RelV y u → t x y H Q →
    wpAny (model X.prog X.w) X.A (inplaceOp op v u) (EP X pins σ Q) X.xe s
section
variable {X : Cx} {pos : Pos}
def gName (i : Nat) : TG := fun v σ H Q => Q (σ.set i (some v)) H
theorem pg_name {i : Nat} {x : Str} (hN : X.N.Nodup) (hi : X.N[i]? = some x) (hx : Loc X.env.scope x) (hf : X.fn x = true ∨ X.env.scope.names.lookup x = some .local := by first | exact .inl rfl | exact .inr rfl | assumption) : PG X (.Name x pos) (gName i) := by
  intro pins s σ H v u Q I r h
  exact wpAny_assign_Name (store_ok I hN hi hx r (fun s' I' => ⟨_, H, I', h⟩) hf)
def gNil : TGs := fun vs σ H Q => vs = [] ∧ Q σ H
def gCons (t : TG) (u : TGs) : TGs := fun vs σ H Q => ∃ v r, vs = v :: r ∧ t v σ H fun σ' H' => u r σ' H' Q
theorem pgs_nil : PGs X [] gNil := by
  intro pins s σ H vs us Q I r h
  obtain ⟨e, h⟩ := h
  subst e
  cases r
  exact assignInOrder_nil ⟨σ, H, I, h⟩
theorem pgs_cons {e : Expr} {es : List Expr} {t : TG} {u : TGs} (h1 : PG X e t) (h2 : PGs X es u)
    (hs : (assignEach (e :: es) X.env).map (·.2) = assign e X.env :: (assignEach es X.env).map (·.2) := by rfl) : PGs X (e :: es) (gCons t u) := by
  intro pins s σ H vs us Q I r h
  obtain ⟨v, vr, e1, h⟩ := h
  subst e1
  cases r with
  | cons r rr =>
    rw [hs]
    refine assignInOrder_cons (thn (h1 pins s σ H _ _ _ I r h) fun _ s1 ⟨σ1, H1, I1, q1⟩ => ?_)
    exact h2 pins s1 σ1 H1 _ _ Q I1 rr q1
/-- (a, b, ..) = a tuple of that length -/
def gTup (K : PySem.W.Frag) (n : Nat) (t : TGs) : TG := fun v σ H Q => ∃ a xs, v = .ref a ∧ SqT K H a xs ∧ xs.length = n ∧ t xs σ H Q
theorem pg_tup {es : List Expr} {k : Nat} {t : TGs} {n : Nat} (hc : X.calm = true) (h : PGs X es t)
    (hn : (assignEach es X.env).length = n := by rfl) (hst : (assignEach es X.env).findIdx? (·.1) = none := by rfl) : PG X (.Tuple es k pos) (gTup X.K n t) := by
  intro pins s σ H v u Q I r hw
  obtain ⟨a, xs, e1, hq, hl, hw⟩ := hw
  subst e1
  cases r
  obtain ⟨its, rv, ht, hz⟩ := I.tuple hq
  refine assign_Tuple_tuple (I.ok.hd hc) ht (by simp [hn, ← hl, rv.length]) hst fun h' hx => ?_
  have I1 : Inv X pins σ H { s with heap := h' } := I.kept (t' := s.toks) fun b o e => hx b o (Nat.ne_of_lt (Heap.lt_size e)) e
  exact h pins _ σ H xs _ Q I1 (by simpa using rv) hw
/-- o[i] = .. -/
def gSub (to ti : TE) (t : TSet) : TG := fun v σ H Q => to σ H fun o H1 => ti σ H1 fun i H2 => t o i v H2 fun H3 => Q σ H3
theorem pg_sub {o i : Expr} {to ti : TE} {t : TSet} (ho : PE X o to) (hi : PE X i ti) (hs : PSet X t)
    (ha : ∀ v, assign (.Subscript o i pos) X.env v = (do
      let ov ← holding [v] (eval o X.env)
      let iv ← holding [v, ov] (eval i X.env)
      standAt pos
      holding [v, ov, iv] (setItem ov iv v)
      release [v, ov, iv] []) := by intro _; rfl) : PG X (.Subscript o i pos) (gSub to ti t) := by
  intro pins s σ H v u Q I r h
  rw [ha]
  refine wpAny_bind (wpAny_holding (thn (ho pins s σ H _ I h) fun ov s1 ⟨x, H1, I1, r1, q1⟩ => ?_))
  refine wpAny_bind (wpAny_holding (thn (hi pins s1 σ H1 _ I1 q1) fun iv s2 ⟨y, H2, I2, r2, q2⟩ => ?_))
  refine wpAny_bind (wpAny_standAt (wpAny_bind (wpAny_holding (thn (hs pins s2 σ H2 x y v ov iv u _ I2 r1 r2 r q2) fun _ s3 ⟨H3, I3, q3⟩ => ?_))))
  exact wpAny_release ⟨σ, H3, I3, q3⟩
/-- target = value -/
def tAsg (te : TE) (g : TG) : TS := fun D σ H => te σ H fun x H1 => g x σ H1 D.nx
theorem ps_asg {tg e : Expr} {te : TE} {g : TG} (he : PE X e te) (hg : PG X tg g) (hs : swapsWithSole [tg] e pos.line X.env = pure false := by rfl) (hw : swappedStores [tg] e X.env = pure none := by rfl)
    (h1 : (assignEach [tg] X.env).map (·.2) = [assign tg X.env] := by rfl) : PS X (.Assign [tg] e pos) (tAsg te g) := by
  refine ⟨?_⟩
  intro pins s σ H D I h
  refine wpAny_Assign_stores (thn (he pins s σ H _ I h) fun v s1 ⟨x, H1, I1, r1, q1⟩ => ?_) hs hw
  rw [h1]
  exact thn (hg pins s1 σ H1 x v _ I1 r1 q1) fun _ s2 q => q
/-- name = value -/
theorem ps_set {i : Nat} {x : Str} {e : Expr} {te : TE} {pos' : Pos} (hN : X.N.Nodup) (hi : X.N[i]? = some x) (hx : Loc X.env.scope x) (he : PE X e te) (hs : swapsWith e (some (.Name x pos')) pos.line X.env = pure false := by rfl) (hf : X.fn x = true ∨ X.env.scope.names.lookup x = some .local := by first | exact .inl rfl | exact .inr rfl | assumption) :
    PS X (.Assign [.Name x pos'] e pos) (tAsg te (gName i)) := by
  refine ⟨?_⟩
  intro pins s σ H D I h
  refine wpAny_Assign_Name (thn (he pins s σ H _ I h) fun v s1 ⟨y, H1, I1, r1, q1⟩ => ?_) hs
  exact store_ok I1 hN hi hx r1 (fun s2 I2 => ⟨_, H1, I2, q1⟩) hf
/-- a, b = x, y with plain local names: stored from the right; the pair itself is not tracked (the opening rows as in PyProof/Rows/TupAssign.lean:23) -/
def tPar (i j : Nat) (ta : TA) : TS := fun D σ H => ta σ H fun vs H1 => ∃ v w, vs = [v, w] ∧ D.nx ((σ.set i (some v)).set j (some w)) H1
theorem ps_par {i j : Nat} {x y : Str} {a b : Expr} {ta : TA} {px py pt : Pos} {kt k2 pt2} (hc : X.calm = true) (hN : X.N.Nodup) (hi : X.N[i]? = some x) (hj : X.N[j]? = some y) (hij : i ≠ j)
    (hx : X.env.scope.names.lookup x = some .local) (hy : X.env.scope.names.lookup y = some .local) (ha : PA X [a, b] ta)
    (hw : swappedStores [.Tuple [.Name x px, .Name y py] kt pt] (.Tuple [a, b] k2 pt2) X.env = pure (some [x, y]))
    (hs : swapsWithSole [.Tuple [.Name x px, .Name y py] kt pt] (.Tuple [a, b] k2 pt2) pos.line X.env = pure false := by rfl) :
    PS X (.Assign [.Tuple [.Name x px, .Name y py] kt pt] (.Tuple [a, b] k2 pt2) pos) (tPar i j ta) := by
  refine ⟨?_⟩
  intro pins s σ H D I h
  rw [exec_Assign_arm]
  refine wpAny_bind (wpAny_standAt ?_)
  rw [hs]
  refine wpAny_bind (wpAny_pure ?_)
  rw [if_neg (by decide)]
  refine wpAny_bind (Tuple_ (thn (ha _ pins s σ H _ I h) fun us s1 ⟨vs, H1, I1, r1, q1⟩ => ?_))
  obtain ⟨v, w, e1, q1⟩ := q1
  subst e1
  obtain ⟨u1, u2, rfl, rv, rw'⟩ : ∃ u1 u2, us = [u1, u2] ∧ RelV v u1 ∧ RelV w u2 := by
    cases r1 with
    | cons p q =>
      cases q with
      | cons p' q' =>
        cases q'
        exact ⟨_, _, rfl, p, p'⟩
  refine wpAny_newObj_type ?_ (by show 2 ≤ sizeLine; decide)
  have I2 : Inv X pins σ H1 { s1 with heap := s1.heap.push { cls := .type "tuple", data := .seq [u1, u2].toArray } } := I1.kept (t' := s1.toks) fun b o e => Heap.get?_push_of_some _ e
  rw [hw]
  refine wpAny_bind (wpAny_pure ?_)
  show wpAny (model X.prog X.w) X.A (do rule "assign.swapped-stores"; let items ← unpackItems (.ref s1.heap.objs.size) 2 none; assignInOrder [fun v => bindName X.env y v, fun v => bindName X.env x v] items.reverse; pure Flow.next) _ _ _
  refine wpAny_bind (wpAny_rule (wpAny_bind (unpackItems_tuple (items := #[u1, u2]) (I.ok.hd hc) (IsTup.new s1.heap _) fun h' hx' => ?_)))
  have I3 := I2.kept (h' := h') (t' := s1.toks) fun b o e => hx' b o (Nat.ne_of_lt (Heap.lt_size e)) e
  show wpAny _ _ (assignInOrder [fun v => bindName X.env y v, fun v => bindName X.env x v] [u2, u1] >>= fun _ => pure Flow.next) _ _ _
  refine wpAny_bind (assignInOrder_cons (wpAny_bindName (store_ok I3 hN hj (.inl hy) rw' (fun s2 I4 => ?_) (.inr hy))))
  refine assignInOrder_cons (wpAny_bindName (store_ok I4 hN hi (.inl hx) rv (fun s3 I5 => assignInOrder_nil (wpAny_pure ?_)) (.inr hx)))
  rw [List.set_comm _ _ (Ne.symm hij)] at I5
  exact ⟨_, H1, I5, q1⟩
/-- name op= e -/
def tAug (i : Nat) (te : TE) (ti : TIp) : TS := fun D σ H => ∃ x, σ[i]? = some (some x) ∧ te σ H fun y H1 => ti x y H1 fun z H2 => D.nx (σ.set i (some z)) H2
theorem ps_aug {i : Nat} {x : Str} {e : Expr} {te : TE} {op : Operator} {ti : TIp} {pos' : Pos} (hN : X.N.Nodup) (hi : X.N[i]? = some x) (hx : Loc X.env.scope x) (he : PE X e te) (ho : PIp X op ti) (hf : X.fn x = true ∨ X.env.scope.names.lookup x = some .local := by first | exact .inl rfl | exact .inr rfl | assumption) :
    PS X (.AugAssign (.Name x pos') op e pos) (tAug i te ti) := by
  refine ⟨?_⟩
  intro pins s σ H D I h
  obtain ⟨v, e1, h⟩ := h
  obtain ⟨m, hn, hl⟩ := I.loc
  have vis : Vis X.env.scope x := by rcases hx with k | k; exact .inl k; exact .inr (.inl k)
  obtain ⟨u, r, l⟩ := hl i x v hi e1 vis
  refine wpAny_AugAssign_Name ?_
  have go : wpAny (model X.prog X.w) X.A (eval e X.env) (fun w s₂ => wpAny (model X.prog X.w) X.A (inplaceOp op u w) (fun r s₃ => wpAny (model X.prog X.w) X.A (storeName X.env x r) (fun _ => SP X pins D .next) X.xe s₃) X.xe s₂) X.xe s := by
    refine thn (he pins s σ H _ I h) fun w s1 ⟨y, H1, I1, r1, q1⟩ => ?_
    refine thn (ho pins s1 σ H1 v y u w _ I1 r r1 q1) fun z s2 ⟨zv, H2, I2, r2, q2⟩ => ?_
    exact store_ok I2 hN hi hx r2 (fun s3 I3 => ⟨_, H2, I3, q2⟩) hf
  rcases l with ⟨hk, hm⟩ | ⟨hk, c, hc, hcell⟩
  · exact wpAny_loadName_local I.ok.kind hk hn hm go
  · rcases hk with hk | hk
    · exact wpAny_loadName_cell I.ok.kind hk hc hcell go
    · rcases hx with k | k
      · have : X.env.scope.names.lookup x = some .free := hk
        rw [k] at this; cases this
      · have : X.env.scope.names.lookup x = some .free := hk
        rw [k] at this; cases this
/-- o[i] op= e -/
def tAugS (to ti te : TE) (tget : V → V → Hp → VK → Prop) (tip : TIp) (tset : TSet) : TS := fun D σ H => to σ H fun o H1 => ti σ H1 fun i H2 => tget o i H2 fun x H3 => te σ H3 fun y H4 => tip x y H4 fun z H5 => tset o i z H5 fun H6 => D.nx σ H6
/-- o[i], by values -/
def PGet (X : Cx) (t : V → V → Hp → VK → Prop) : Prop :=
  ∀ (pins : List (Addr × Obj)) (s : Shared) (σ : St) (H : Hp) (o i : V) (ov iv : Value) (Q : VK), Inv X pins σ H s → RelV o ov → RelV i iv → t o i H Q →
    wpAny (model X.prog X.w) X.A (getItem ov iv) (EP X pins σ Q) X.xe s
theorem ps_augS {o i e : Expr} {to ti te : TE} {tget : V → V → Hp → VK → Prop} {tip : TIp} {tset : TSet} {op : Operator} {tpos : Pos} (ho : PE X o to) (hi : PE X i ti) (hg : PGet X tget) (he : PE X e te) (hp : PIp X op tip) (hs : PSet X tset)
    (ha : ∀ ov iv new, augStore i ov iv new = (do holding [new, ov, iv] (setItem ov iv new); release [new, ov, iv] []; pure .next) := by intros; rfl) : PS X (.AugAssign (.Subscript o i tpos) op e pos) (tAugS to ti te tget tip tset) := by
  refine ⟨?_⟩
  intro pins s σ H D I h
  refine wpAny_AugAssign_SubscriptAny (thn (ho pins s σ H _ I h) fun ov s1 ⟨x1, H1, I1, r1, q1⟩ => ?_) ha
  refine thn (hi pins s1 σ H1 _ I1 q1) fun iv s2 ⟨x2, H2, I2, r2, q2⟩ => ?_
  refine thn (hg pins s2 σ H2 x1 x2 ov iv _ I2 r1 r2 q2) fun old s3 ⟨x3, H3, I3, r3, q3⟩ => ?_
  refine thn (he pins s3 σ H3 _ I3 q3) fun v s4 ⟨x4, H4, I4, r4, q4⟩ => ?_
  refine thn (hp pins s4 σ H4 x3 x4 old v _ I4 r3 r4 q4) fun new s5 ⟨x5, H5, I5, r5, q5⟩ => ?_
  exact thn (hs pins s5 σ H5 x1 x2 x5 ov iv new _ I5 r1 r2 r5 q5) fun _ s6 ⟨H6, I6, q6⟩ => ⟨σ, H6, I6, q6⟩
/-- ints -/
def ipI (f : Int → Int → Int) : TIp := fun x y H Q => ∃ i j, x = .int i ∧ y = .int j ∧ Q (.int (f i j)) H
theorem ip_add : PIp X .Add (ipI fun i j => i + j) := by
  intro pins s σ H x y v u Q I r1 r2 h
  obtain ⟨i, j, e1, e2, q⟩ := h
  subst e1; subst e2
  obtain ⟨t, rfl⟩ := r1
  obtain ⟨t', rfl⟩ := r2
  exact iadd_int ⟨.int _, H, I.tok _, ⟨_, rfl⟩, q⟩
theorem ip_sub : PIp X .Sub (ipI fun i j => i - j) := by
  intro pins s σ H x y v u Q I r1 r2 h
  obtain ⟨i, j, e1, e2, q⟩ := h
  subst e1; subst e2
  obtain ⟨t, rfl⟩ := r1
  obtain ⟨t', rfl⟩ := r2
  exact isub_int ⟨.int _, H, I.tok _, ⟨_, rfl⟩, q⟩
end

/-! ### while -/
section
variable {X : Cx} {pos : Pos}
/-- the invariant W with its measure -/
def tWhile (c : TT) (tb : TS) : TS := fun D σ H => ∃ W : Nat → St → Hp → Prop, (∃ m, W m σ H) ∧ ∀ m σ H, W m σ H →
  c σ H fun b H1 => if b = true then ∃ N : St → Hp → Prop, (∀ σ' H', N σ' H' → ∃ m', m' < m ∧ W m' σ' H') ∧ tb { D with nx := N, ct := N, bk := D.nx } σ H1 else D.nx σ H1
theorem ps_while {c : Expr} {body : List Stmt} {tc : TT} {tb : TS} (hp : PassesOwn (model X.prog X.w) X.A X.env X.xe) (hc : PT X c tc) (hb : PSs X body tb) : PS X (.While c body [] pos) (tWhile tc tb) := by
  refine ⟨?_⟩
  intro pins s σ H D I h
  obtain ⟨W, ⟨m0, w0⟩, turn⟩ := h
  refine wpAny_While (codeAny_whileLoop (fun n s' => ∃ σ' H', Inv X pins σ' H' s' ∧ W n σ' H') ?_ m0 ⟨σ, H, I, w0⟩)
  rintro n s1 ⟨σ1, H1, I1, w1⟩
  refine wpAny_passesOwn hp (thn (hc pins s1 σ1 H1 _ I1 (turn n σ1 H1 w1)) fun b s2 ⟨H2, I2, q2⟩ => ?_)
  cases b with
  | true =>
    obtain ⟨N, hN, q2⟩ := q2
    rw [if_pos rfl]
    refine wpAny_passesOwn hp (thn (hb pins s2 σ1 H2 _ I2 q2) fun f s3 q3 => ?_)
    cases f with
    | next =>
      obtain ⟨σ3, H3, I3, n3⟩ := q3
      obtain ⟨m', hm, w3⟩ := hN σ3 H3 n3
      exact ⟨m', hm, σ3, H3, I3, w3⟩
    | cont =>
      obtain ⟨σ3, H3, I3, n3⟩ := q3
      obtain ⟨m', hm, w3⟩ := hN σ3 H3 n3
      exact ⟨m', hm, σ3, H3, I3, w3⟩
    | brk => exact q3
    | ret v => exact q3
  | false =>
    rw [if_neg Bool.false_ne_true]
    exact wpAny_execs_nil ⟨σ1, H2, I2, q2⟩
end

/-! ### what a loop or a comprehension walks -/
/-- at turn i: it yields x (the heap may grow), or it stops -/
structure It where
  go : Nat → Hp → Prop
  yld : Nat → Hp → V → Hp → Prop
  stop : Nat → Hp → Prop
/-- the iterator's own objects may turn: they are not the frame's, not pinned, younger than the entry (or a comprehension's own) -/
def FpOk (X : Cx) (pins : List (Addr × Obj)) (H : Hp) (b : Addr) : Prop :=
  H b = none ∧ b ≠ X.env.locals ∧ b ∉ X.fs ∧ (b ∈ X.ex ∨ X.s₀.heap.objs.size ≤ b) ∧ (∀ x c, X.env.cells.lookup x = some c → c ≠ b) ∧ ∀ p ∈ X.pn ++ pins, p.1 ≠ b
theorem Inv.fpOk {X : Cx} {pins : List (Addr × Obj)} {σ : St} {H H' : Hp} {s : Shared} {b : Addr} (I : Inv X pins σ H s) (hb : s.heap.objs.size ≤ b) (hn : H' b = none) : FpOk X pins H' b := by
  refine ⟨hn, Nat.ne_of_gt (Nat.lt_of_lt_of_le I.lt hb), I.nofs hb, .inr (Nat.le_trans I.sz hb), fun x c e z => ?_, fun p hp z => ?_⟩
  · obtain ⟨v, q⟩ := I.cell x c e
    exact absurd (Nat.lt_of_lt_of_le q.lt (by rw [z]; exact hb)) (Nat.lt_irrefl _)
  · exact absurd (Nat.lt_of_lt_of_le (Heap.lt_size (I.pin p hp).1) (by rw [z]; exact hb)) (Nat.lt_irrefl _)
structure Turn (P : Program) (w : World) (K : PySem.W.Frag) (tg : Expr) (J : It) (fp : List Addr) (it : Addr) (tn : Nat → Heap → Prop) : Prop where
  mem : it ∈ fp
  obj : ∀ i h, tn i h → ∀ b ∈ fp, ∃ o, h.get? b = some o ∧ ∀ v, o.data ≠ .cell v
  keep : ∀ i h h', tn i h → (∀ b ∈ fp, ∀ o, h.get? b = some o → h'.get? b = some o) → tn i h'
  item : ∀ (X : Cx), X.prog = P → X.w = w → X.K = K → X.calm = true → ∀ (i : Nat) (pins : List (Addr × Obj)) (s : Shared) (σ : St) (H : Hp) (E : Value → Shared → Prop), Inv X pins σ H s → (∀ b ∈ fp, FpOk X pins H b) → tn i s.heap → J.go i H →
    wpAny (model P w) X.A (pyNext (.ref it)) (fun r s1 => ∃ u, r = some u ∧
      wpAny (model P w) X.A (letOwnedTupleGo tg (.ref it) u) (fun _ s2 => ∃ x H', Inv X pins σ H' s2 ∧ RelV x u ∧ J.yld i H x H' ∧ tn (i + 1) s2.heap ∧ ∀ b ∈ fp, H' b = none) E s1) E s
  done : ∀ (X : Cx), X.prog = P → X.w = w → X.K = K → X.calm = true → ∀ (i : Nat) (pins : List (Addr × Obj)) (s : Shared) (σ : St) (H : Hp) (E : Value → Shared → Prop), Inv X pins σ H s → (∀ b ∈ fp, FpOk X pins H b) → tn i s.heap → J.stop i H →
    wpAny (model P w) X.A (pyNext (.ref it)) (fun r s1 => r = none ∧ Inv X pins σ H s1) E s
  self : ∀ (A : Around) (i : Nat) (s : Shared) (Q : Value → Shared → Prop) (E : Value → Shared → Prop), tn i s.heap → Q (.ref it) s → wpAny (model P w) A (pyIter (.ref it)) Q E s
abbrev TI := St → Hp → (It → Hp → Prop) → Prop
/-- an iterator has come -/
def PIE (X : Cx) (pins : List (Addr × Obj)) (σ : St) (tg : Expr) (R : It → Hp → Prop) (itv : Value) (s2 : Shared) : Prop :=
  ∃ (it : Addr) (fp : List Addr) (tn : Nat → Heap → Prop) (J : It) (H' : Hp), itv = .ref it ∧ Inv X pins σ H' s2 ∧ Turn X.prog X.w X.K tg J fp it tn ∧ tn 0 s2.heap ∧ (∀ b ∈ fp, FpOk X pins H' b) ∧ R J H'
def PI (X : Cx) (tg iter : Expr) (wi : TI) : Prop :=
  ∀ (pins : List (Addr × Obj)) (s : Shared) (σ : St) (H : Hp) (R : It → Hp → Prop), Inv X pins σ H s → wi σ H R →
    wpAny (model X.prog X.w) X.A (eval iter X.env) (fun v s1 => wpAny (model X.prog X.w) X.A (pyIter v) (PIE X pins σ tg R) X.xe s1) X.xe s

/-- the step ahead of the store is nothing for an iterator that keeps no tuple -/
theorem go_of {M : Model} {A : Around} {E : Value → Shared → Prop} {s : Shared} {tg : Expr} {it : Addr} {u : Value} {o : Obj} {n : String} {vs : Array Value} {Q : Unit → Shared → Prop} (ho : s.heap.get? it = some o) (hc : o.cls = .type n) (hd : o.data = .fields vs)
    (hn : ["enumerate", "zip", "dict_itemiterator", "dict_reverseitemiterator", "odict_iterator", "itertools.zip_longest", "itertools.pairwise"].contains n = false) (hQ : Q () s) : wpAny M A (letOwnedTupleGo tg (.ref it) u) Q E s := by
  unfold letOwnedTupleGo
  cases tg <;> first
    | exact wpAny_pure hQ
    | (cases u <;> first
        | exact wpAny_pure hQ
        | (refine wpAny_bind (wpAny_load ho ?_)
           rw [hc, hd]
           show wpAny M A (if (["enumerate", "zip", "dict_itemiterator", "dict_reverseitemiterator", "odict_iterator", "itertools.zip_longest", "itertools.pairwise"].contains n && vs[0]? == some (rawInt _)) = true then _ else _) Q E s
           rw [if_neg (by intro h; rw [hn, Bool.false_and] at h; cases h)]
           exact wpAny_pure hQ))

/-- the list at a, as it stands at each turn (a loop may append to it) -/
def Itl (K : PySem.W.Frag) (a : Addr) : It :=
  ⟨fun i H => ∃ xs x, SqL K H a xs ∧ xs[i]? = some x, fun i H x H' => H' = H ∧ ∀ xs, SqL K H a xs → xs[i]? = some x, fun i H => ∃ xs, SqL K H a xs ∧ xs.length ≤ i⟩
def Itt (K : PySem.W.Frag) (a : Addr) : It :=
  ⟨fun i H => ∃ xs x, SqT K H a xs ∧ xs[i]? = some x, fun i H x H' => H' = H ∧ ∀ xs, SqT K H a xs → xs[i]? = some x, fun i H => ∃ xs, SqT K H a xs ∧ xs.length ≤ i⟩
/-- lo, lo + 1, .. (n of them) -/
def Itr (lo : Int) (n : Nat) : It := ⟨fun i _ => i < n, fun i H x H' => H' = H ∧ x = .int (lo + i), fun i _ => n ≤ i⟩
theorem turn_list {P : Program} {w : World} {K : PySem.W.Frag} {tg : Expr} (a it : Addr) : Turn P w K tg (Itl K a) [it] it (fun i h => h.IsListIter it a i) where
  mem := by simp
  obj := fun i h st b hb => by
    have e : b = it := by simpa using hb
    subst e
    obtain ⟨o, e, c, d⟩ := st
    exact ⟨o, e, fun v z => by rw [d] at z; cases z⟩
  keep := fun i h h' st k => st.at fun o e => k it (by simp) o e
  item := by
    intro X hP hw hK hc i pins s σ H E I hf st hg
    subst hP hw hK
    obtain ⟨xs, x, hq, hx⟩ := hg
    obtain ⟨its, rv, p, hz⟩ := I.list hq
    obtain ⟨u, hu, ru⟩ := rv.get hx
    obtain ⟨f0, f1, f2, f3, f4, f5⟩ := hf it (by simp)
    refine wpAny_pyNext_list_item st p.isList (x := u) (by simpa using hu) fun h' st' sb => ?_
    have I1 : Inv X pins σ H { s with heap := h' } := I.turned (t' := s.toks) (fun b o hb e => (sb.2 b hb).trans e) f0 f1 f3 f4 f5
    obtain ⟨o, e, c, d⟩ := id st'
    exact ⟨u, rfl, go_of (s := { s with heap := h' }) e c d (by decide) ⟨x, H, I1, ru, ⟨rfl, fun ys hy => by rw [I.list_inj hy hq]; exact hx⟩, st', fun b hb => (hf b hb).1⟩⟩
  done := by
    intro X hP hw hK hc i pins s σ H E I hf st hg
    subst hP hw hK
    obtain ⟨xs, hq, hx⟩ := hg
    obtain ⟨its, rv, p, hz⟩ := I.list hq
    obtain ⟨f0, f1, f2, f3, f4, f5⟩ := hf it (by simp)
    have hl := rv.length
    exact wpAny_pyNext_list_end (I.ok.hd hc) st p.isList (by simp; omega) fun h' eb => ⟨rfl, I.turned (t' := s.toks) (fun b o hb e => eb b o hb e) f0 f1 f3 f4 f5⟩
  self := fun _ _ _ _ _ st h => wpAny_pyIter_listiter st h
theorem turn_tuple {P : Program} {w : World} {K : PySem.W.Frag} {tg : Expr} (a it : Addr) : Turn P w K tg (Itt K a) [it] it (fun i h => h.IsTupleIter it a i) where
  mem := by simp
  obj := fun i h st b hb => by
    have e : b = it := by simpa using hb
    subst e
    obtain ⟨o, e, c, d⟩ := st
    exact ⟨o, e, fun v z => by rw [d] at z; cases z⟩
  keep := fun i h h' st k => st.at fun o e => k it (by simp) o e
  item := by
    intro X hP hw hK hc i pins s σ H E I hf st hg
    subst hP hw hK
    obtain ⟨xs, x, hq, hx⟩ := hg
    obtain ⟨its, rv, p, hz⟩ := I.tuple hq
    obtain ⟨u, hu, ru⟩ := rv.get hx
    obtain ⟨f0, f1, f2, f3, f4, f5⟩ := hf it (by simp)
    refine wpAny_pyNext_tuple_item st (show s.heap.IsTuple a its.toArray from p) (x := u) (by simpa using hu) fun h' st' sb => ?_
    have I1 : Inv X pins σ H { s with heap := h' } := I.turned (t' := s.toks) (fun b o hb e => (sb.2 b hb).trans e) f0 f1 f3 f4 f5
    obtain ⟨o, e, c, d⟩ := id st'
    exact ⟨u, rfl, go_of (s := { s with heap := h' }) e c d (by decide) ⟨x, H, I1, ru, ⟨rfl, fun ys hy => by rw [I.tuple_inj hy hq]; exact hx⟩, st', fun b hb => (hf b hb).1⟩⟩
  done := by
    intro X hP hw hK hc i pins s σ H E I hf st hg
    subst hP hw hK
    obtain ⟨xs, hq, hx⟩ := hg
    obtain ⟨its, rv, p, hz⟩ := I.tuple hq
    obtain ⟨f0, f1, f2, f3, f4, f5⟩ := hf it (by simp)
    have hl := rv.length
    exact wpAny_pyNext_tuple_end (I.ok.hd hc) st (show s.heap.IsTuple a its.toArray from p) (by simp; omega) fun h' eb => ⟨rfl, I.turned (t' := s.toks) (fun b o hb e => eb b o hb e) f0 f1 f3 f4 f5⟩
  self := fun _ _ _ _ _ st h => wpAny_pyIter_tupleiter st h
theorem turn_range {P : Program} {w : World} {K : PySem.W.Frag} {tg : Expr} (it : Addr) (lo : Int) (n : Nat) : Turn P w K tg (Itr lo n) [it] it (fun i h => IsRangeIter h it (lo + (i : Nat) * 1) ((n : Int) - (i : Nat)) 1) where
  mem := by simp
  obj := fun i h st b hb => by
    have e : b = it := by simpa using hb
    subst e
    exact ⟨_, st, fun v z => by
      have z' : Data.fields _ = Data.cell v := z
      cases z'⟩
  keep := fun i h h' st k => k it (by simp) _ st
  item := by
    intro X hP hw hK hc i pins s σ H E I hf st hg
    subst hP hw hK
    obtain ⟨f0, f1, f2, f3, f4, f5⟩ := hf it (by simp)
    have W := Walks.range (prog := X.prog) (w := X.w) (I.ok.hd hc) it lo 1 n
    refine W.item i s _ _ hg st fun v h' tk hv st' kk => ?_
    obtain ⟨t, rfl⟩ := hv
    have I1 : Inv X pins σ H { s with heap := h', toks := tk } := I.turned (fun b o hb e => kk b o (by simpa using hb) e) f0 f1 f3 f4 f5
    refine ⟨_, rfl, go_of (s := { s with heap := h', toks := tk }) (n := "range_iterator") st' rfl rfl (by decide) ⟨.int (lo + i), H, I1, ⟨t, ?_⟩, ⟨rfl, rfl⟩, st', fun b hb => (hf b hb).1⟩⟩
    rw [Int.mul_one]
  done := by
    intro X hP hw hK hc i pins s σ H E I hf st hg
    subst hP hw hK
    obtain ⟨f0, f1, f2, f3, f4, f5⟩ := hf it (by simp)
    exact wpAny_pyNext_range_end (I.ok.hd hc) st (by have : n ≤ i := hg; omega) fun h' eb => ⟨rfl, I.turned (t' := s.toks) (fun b o hb e => eb b o hb e) f0 f1 f3 f4 f5⟩
  self := fun _ _ _ _ _ st h => wpAny_pyIter_rangeiter st h
end L2

namespace L2
open PySem PySem.Spec PyProof.Rows
section
variable {X : Cx} {tg : Expr}
def iList (K : PySem.W.Frag) (tl : TE) : TI := fun σ H R => tl σ H fun x H1 => ∃ a, x = .ref a ∧ (∃ xs, SqL K H1 a xs) ∧ R (Itl K a) H1
def iTup (K : PySem.W.Frag) (tl : TE) : TI := fun σ H R => tl σ H fun x H1 => ∃ a, x = .ref a ∧ (∃ xs, SqT K H1 a xs) ∧ R (Itt K a) H1
theorem pi_list {l : Expr} {tl : TE} (hl : PE X l tl) : PI X tg l (iList X.K tl) := by
  intro pins s σ H R I h
  refine thn (hl pins s σ H _ I h) fun v s1 ⟨x, H1, I1, r1, q1⟩ => ?_
  obtain ⟨a, e, ⟨xs, hq⟩, q⟩ := q1
  subst e
  cases r1
  obtain ⟨its, rv, p, hz⟩ := I1.list hq
  refine wpAny_pyIter_list p.isList ?_
  refine ⟨s1.heap.objs.size, [s1.heap.objs.size], _, _, H1, rfl, I1.kept (t' := s1.toks) fun b o e => Heap.get?_push_of_some _ e, turn_list a _, ⟨_, Heap.get?_push_size _ rfl, rfl, rfl⟩, fun b hb => ?_, q⟩
  have e : b = s1.heap.objs.size := by simpa using hb
  subst e
  exact I1.fpOk (Nat.le_refl _) (I1.hok.fresh (Nat.le_refl _))
theorem pi_tup {l : Expr} {tl : TE} (hl : PE X l tl) : PI X tg l (iTup X.K tl) := by
  intro pins s σ H R I h
  refine thn (hl pins s σ H _ I h) fun v s1 ⟨x, H1, I1, r1, q1⟩ => ?_
  obtain ⟨a, e, ⟨xs, hq⟩, q⟩ := q1
  subst e
  cases r1
  obtain ⟨its, rv, p, hz⟩ := I1.tuple hq
  refine wpAny_pyIter_tuple (show s1.heap.IsTuple a its.toArray from p) ?_
  refine ⟨s1.heap.objs.size, [s1.heap.objs.size], _, _, H1, rfl, I1.kept (t' := s1.toks) fun b o e => Heap.get?_push_of_some _ e, turn_tuple a _, ⟨_, Heap.get?_push_size _ rfl, rfl, rfl⟩, fun b hb => ?_, q⟩
  have e : b = s1.heap.objs.size := by simpa using hb
  subst e
  exact I1.fpOk (Nat.le_refl _) (I1.hok.fresh (Nat.le_refl _))
/-- a range object just made, walked -/
theorem range_it {pins : List (Addr × Obj)} {σ : St} {H : Hp} {s : Shared} {R : It → Hp → Prop} {E : Value → Shared → Prop} {lo hi : Int} {t u v : Tok} {tk : Nat} (I : Inv X pins σ H s) (h1 : -(2 ^ 62) ≤ lo) (h2 : lo < 2 ^ 62) (h3 : -(2 ^ 62) ≤ hi) (h4 : hi < 2 ^ 62)
    (q : R (Itr lo (hi - lo).toNat) H) : wpAny (model X.prog X.w) X.A (pyIter (.ref s.heap.objs.size)) (PIE X pins σ tg R) E { s with heap := s.heap.push { cls := .type "range", data := .fields #[.int lo t, .int hi u, .int 1 v] }, toks := tk } := by
  refine wpAny_pyIter_range (IsRange.new ..) (small_one h1 h2 h3 h4) ?_
  have I1 : Inv X pins σ H { s with heap := s.heap.push { cls := .type "range", data := .fields #[.int lo t, .int hi u, .int 1 v] }, toks := tk } := I.kept fun b o e => Heap.get?_push_of_some _ e
  refine ⟨(s.heap.push { cls := .type "range", data := .fields #[.int lo t, .int hi u, .int 1 v] }).objs.size, [(s.heap.push { cls := .type "range", data := .fields #[.int lo t, .int hi u, .int 1 v] }).objs.size], _, _, H, rfl,
    I1.kept (t' := tk) fun b o e => Heap.get?_push_of_some _ e, turn_range _ lo (hi - lo).toNat, ?_, fun b hb => ?_, q⟩
  · have e1 : lo + ((0 : Nat) : Int) * 1 = lo := by simp
    have e2 : (((hi - lo).toNat : Nat) : Int) - ((0 : Nat) : Int) = Builtin.Range.rangeSize lo hi 1 := by rw [rangeSize_one]; split <;> omega
    show IsRangeIter _ _ (lo + ((0 : Nat) : Int) * 1) ((((hi - lo).toNat : Nat) : Int) - ((0 : Nat) : Int)) 1
    rw [e1, e2]
    exact Heap.get?_push_size _ rfl
  · have e : b = (s.heap.push { cls := .type "range", data := .fields #[.int lo t, .int hi u, .int 1 v] }).objs.size := by simpa using hb
    subst e
    exact I1.fpOk (Nat.le_refl _) (I1.hok.fresh (Nat.le_refl _))
def iRng1 (ta : TA) : TI := fun σ H R => ta σ H fun vs H1 => ∃ j : Int, vs = [.int j] ∧ -(2 ^ 62) ≤ j ∧ j < 2 ^ 62 ∧ R (Itr 0 j.toNat) H1
def iRng2 (ta : TA) : TI := fun σ H R => ta σ H fun vs H1 => ∃ i j : Int, vs = [.int i, .int j] ∧ (-(2 ^ 62) ≤ i ∧ i < 2 ^ 62 ∧ -(2 ^ 62) ≤ j ∧ j < 2 ^ 62) ∧ R (Itr i (j - i).toNat) H1
theorem pi_range1 {a : Expr} {ta : TA} {p pos : Pos} (hg : Gl X "range") (hm : X.mg "range" = none) (ha : PA X [a] ta) (hs : starEach [a] X.env = [(false, eval a X.env)] := by rfl) : PI X tg (.Call (.Name "range" p) [a] [] pos) (iRng1 ta) := by
  intro pins s σ H R I h
  refine Call_ (ld_blt I hg hm boot_range (PyProof.Rows.callWith_type1 (thn (ha pos pins s σ H _ I h) fun us s1 ⟨vs, H1, I1, r1, q1⟩ => ?_) hs rfl))
  obtain ⟨j, e, q1, q2, q⟩ := q1
  subst e
  cases r1 with
  | cons r rr =>
    cases rr
    obtain ⟨t, rfl⟩ := r
    exact call_range_1 (range_it I1 (by omega) (by omega) q1 q2 (by simpa using q))
theorem pi_range2 {a b : Expr} {ta : TA} {p pos : Pos} (hg : Gl X "range") (hm : X.mg "range" = none) (ha : PA X [a, b] ta) (hs : starEach [a, b] X.env = [(false, eval a X.env), (false, eval b X.env)] := by rfl) (hs2 : starEach [b] X.env = [(false, eval b X.env)] := by rfl) :
    PI X tg (.Call (.Name "range" p) [a, b] [] pos) (iRng2 ta) := by
  intro pins s σ H R I h
  refine Call_ (ld_blt I hg hm boot_range (PyProof.Rows.callWith_type1 (thn (ha pos pins s σ H _ I h) fun us s1 ⟨vs, H1, I1, r1, q1⟩ => ?_) (by rw [hs, hs2]) (by rw [hs2]; rfl)))
  obtain ⟨i, j, e, ⟨q1, q2, q3, q4⟩, q⟩ := q1
  subst e
  cases r1 with
  | cons r rr =>
    cases rr with
    | cons r' rr =>
      cases rr
      obtain ⟨t, rfl⟩ := r
      obtain ⟨t', rfl⟩ := r'
      exact call_range_2 (range_it I1 q1 q2 q3 q4 q)

/-! ### for -/
/-- W: the invariant by the turn and a measure; N: what the body is to reach -/
def tFor (wi : TI) (g : TG) (tb : TS) : TS := fun D σ H => wi σ H fun J H1 => ∃ W : Nat → Nat → St → Hp → Prop, (∃ m, W 0 m σ H1) ∧ ∀ i m σ H, W i m σ H →
  (J.stop i H ∧ D.nx σ H) ∨ (J.go i H ∧ ∃ N : St → Hp → Prop, (∀ σ' H', N σ' H' → ∃ m', m' < m ∧ W (i + 1) m' σ' H') ∧ ∀ x H', J.yld i H x H' → g x σ H' fun σ2 H2 => tb { D with nx := N, ct := N, bk := D.nx } σ2 H2)
/-- the records at fp as they stand -/
def pinsAt (fp : List Addr) (h : Heap) : List (Addr × Obj) := fp.filterMap fun b => (h.get? b).map fun o => (b, o)
theorem mem_pinsAt {fp : List Addr} {h : Heap} {b : Addr} {o : Obj} (hb : b ∈ fp) (e : h.get? b = some o) : (b, o) ∈ pinsAt fp h := List.mem_filterMap.mpr ⟨b, hb, by rw [e]; rfl⟩
theorem of_pinsAt {fp : List Addr} {h : Heap} {p : Addr × Obj} (hp : p ∈ pinsAt fp h) : p.1 ∈ fp ∧ h.get? p.1 = some p.2 := by
  obtain ⟨b, hb, e⟩ := List.mem_filterMap.mp hp
  cases q : h.get? b with
  | none => rw [q] at e; cases e
  | some o =>
    rw [q] at e
    have e' : (b, o) = p := Option.some.inj e
    subst e'
    exact ⟨hb, q⟩
theorem Inv.pinned {pins : List (Addr × Obj)} {σ : St} {H : Hp} {s : Shared} {fp : List Addr} (I : Inv X pins σ H s) (hf : ∀ b ∈ fp, FpOk X pins H b) (ho : ∀ b ∈ fp, ∃ o, s.heap.get? b = some o ∧ ∀ v, o.data ≠ .cell v) : Inv X (pins ++ pinsAt fp s.heap) σ H s :=
  I.pins_of fun p hp => (List.mem_append.mp hp).elim (fun z => I.pin p (List.mem_append_right _ z)) fun z => by
    obtain ⟨hb, e⟩ := of_pinsAt z
    obtain ⟨f0, f1, f2, _⟩ := hf p.1 hb
    obtain ⟨o, e', d⟩ := ho p.1 hb
    rw [e] at e'; cases e'
    exact ⟨e, f0, f1, f2, d⟩
theorem Inv.unpinned {pins pl : List (Addr × Obj)} {σ : St} {H : Hp} {s : Shared} (I : Inv X (pins ++ pl) σ H s) : Inv X pins σ H s := I.pins_of fun p hp => I.pin p (List.mem_append_right _ (List.mem_append_left _ hp))
theorem ps_for {iter : Expr} {body : List Stmt} {wi : TI} {g : TG} {tb : TS} {pos : Pos} (hp : PassesOwn (model X.prog X.w) X.A X.env X.xe) (hc : X.calm = true) (hi : PI X tg iter wi) (hg : PG X tg g) (hb : PSs X body tb)
    (hs : ∀ x, foldedSetIterable iter X.env x = pure x := by intro _; rfl) : PS X (.For tg iter body [] pos) (tFor wi g tb) := by
  refine ⟨?_⟩
  intro pins s σ H D I h
  refine wpAny_For (thn (hi pins s σ H _ I h) fun v s1 h1 => thn h1 fun itv s2 h2 => ?_) hs
  obtain ⟨it, fp, tn, J, H2, e, I2, T, st2, f2, W, ⟨m0, w0⟩, turn⟩ := h2
  subst e
  -- what stays true of the iterator's objects through the loop
  have stat : ∀ {H' : Hp}, (∀ b ∈ fp, H' b = none) → ∀ b ∈ fp, FpOk X pins H' b := fun hn b hb => ⟨hn b hb, (f2 b hb).2⟩
  refine codeAny_forLoop_any (fun n s' => ∃ i σ' H', Inv X pins σ' H' s' ∧ tn i s'.heap ∧ (∀ b ∈ fp, H' b = none) ∧ W i n σ' H') ?_ m0 ⟨0, σ, H2, I2, st2, fun b hb => (f2 b hb).1, w0⟩
  rintro n s3 ⟨i, σ3, H3, I3, st3, fr3, w3⟩
  rcases turn i n σ3 H3 w3 with ⟨stop, qn⟩ | ⟨go, N, hN, step⟩
  · refine wpAny_passesOwn hp (thn (T.done X rfl rfl rfl hc i pins s3 σ3 H3 X.xe I3 (stat fr3) st3 stop) fun r s4 ⟨hr, I4⟩ => ?_)
    subst hr
    exact wpAny_execs_nil ⟨σ3, H3, I4, qn⟩
  · refine wpAny_passesOwn hp (thn (T.item X rfl rfl rfl hc i pins s3 σ3 H3 X.xe I3 (stat fr3) st3 go) fun r s4 ⟨u, hr, h4⟩ => ?_)
    subst hr
    refine wpAny_passesOwn hp (thn h4 fun _ s5 ⟨x, H5, I5, r5, y5, st5, fr5⟩ => ?_)
    have I5' := I5.pinned (stat fr5) (T.obj _ _ st5)
    refine wpAny_passesOwn hp (thn (hg _ s5 σ3 H5 x u _ I5' r5 (step x H5 y5)) fun _ s6 ⟨σ6, H6, I6, q6⟩ => ?_)
    refine wpAny_passesOwn hp (thn (hb _ s6 σ6 H6 _ I6 q6) fun f s7 q7 => ?_)
    have again : ∀ {σ7 : St} {H7 : Hp}, Inv X (pins ++ pinsAt fp s5.heap) σ7 H7 s7 → N σ7 H7 → ∃ m, m < n ∧ ∃ i σ' H', Inv X pins σ' H' s7 ∧ tn i s7.heap ∧ (∀ b ∈ fp, H' b = none) ∧ W i m σ' H' := fun {σ7 H7} I7 n7 => by
      obtain ⟨m', hm, w7⟩ := hN σ7 H7 n7
      refine ⟨m', hm, i + 1, σ7, H7, I7.unpinned, T.keep _ _ _ st5 fun b hb o e => (I7.pin (b, o) (List.mem_append_right _ (List.mem_append_right _ (mem_pinsAt hb e)))).1, fun b hb => ?_, w7⟩
      obtain ⟨o, e, d⟩ := T.obj _ _ st5 b hb
      exact (I7.pin (b, o) (List.mem_append_right _ (List.mem_append_right _ (mem_pinsAt hb e)))).2.1
    cases f with
    | next => obtain ⟨σ7, H7, I7, n7⟩ := q7; exact again I7 n7
    | cont => obtain ⟨σ7, H7, I7, n7⟩ := q7; exact again I7 n7
    | brk => obtain ⟨σ7, H7, I7, q7⟩ := q7; exact ⟨σ7, H7, I7.unpinned, q7⟩
    | ret v => obtain ⟨x7, σ7, H7, I7, r7, q7⟩ := q7; exact ⟨x7, σ7, H7, I7.unpinned, r7, q7⟩
end

/-! ### the forms one uses -/
/-- over a list that the body leaves as it is -/
theorem for_list {K : PySem.W.Frag} {a : Addr} {xs : List V} {g : TG} {tb : TS} {D : Ends} {σ : St} {H : Hp} (Pv : Nat → St → Hp → Prop) (h0 : Pv 0 σ H) (hl : ∀ i σ H, i ≤ xs.length → Pv i σ H → SqL K H a xs)
    (hs : ∀ i x σ H, xs[i]? = some x → Pv i σ H → g x σ H fun σ2 H2 => tb { D with nx := Pv (i + 1), ct := Pv (i + 1), bk := D.nx } σ2 H2) (hd : ∀ σ H, Pv xs.length σ H → D.nx σ H) :
    ∃ W : Nat → Nat → St → Hp → Prop, (∃ m, W 0 m σ H) ∧ ∀ i m σ H, W i m σ H →
      ((Itl K a).stop i H ∧ D.nx σ H) ∨ ((Itl K a).go i H ∧ ∃ N : St → Hp → Prop, (∀ σ' H', N σ' H' → ∃ m', m' < m ∧ W (i + 1) m' σ' H') ∧ ∀ x H', (Itl K a).yld i H x H' → g x σ H' fun σ2 H2 => tb { D with nx := N, ct := N, bk := D.nx } σ2 H2) := by
  refine ⟨fun i m σ H => m = xs.length - i ∧ i ≤ xs.length ∧ Pv i σ H, ⟨xs.length, by simp, Nat.zero_le _, h0⟩, ?_⟩
  rintro i m σ H ⟨rfl, hi, p⟩
  have q := hl i σ H hi p
  by_cases hlt : i < xs.length
  · refine .inr ⟨⟨xs, xs[i], q, by simp [hlt]⟩, Pv (i + 1), fun σ' H' p' => ⟨xs.length - (i + 1), by omega, rfl, hlt, p'⟩, fun x H' y => ?_⟩
    obtain ⟨e, y⟩ := y
    subst e
    exact hs i x σ _ (y xs q) p
  · have e : i = xs.length := by omega
    subst e
    exact .inl ⟨⟨xs, q, Nat.le_refl _⟩, hd σ H p⟩
theorem for_tup {K : PySem.W.Frag} {a : Addr} {xs : List V} {g : TG} {tb : TS} {D : Ends} {σ : St} {H : Hp} (Pv : Nat → St → Hp → Prop) (h0 : Pv 0 σ H) (hl : ∀ i σ H, i ≤ xs.length → Pv i σ H → SqT K H a xs)
    (hs : ∀ i x σ H, xs[i]? = some x → Pv i σ H → g x σ H fun σ2 H2 => tb { D with nx := Pv (i + 1), ct := Pv (i + 1), bk := D.nx } σ2 H2) (hd : ∀ σ H, Pv xs.length σ H → D.nx σ H) :
    ∃ W : Nat → Nat → St → Hp → Prop, (∃ m, W 0 m σ H) ∧ ∀ i m σ H, W i m σ H →
      ((Itt K a).stop i H ∧ D.nx σ H) ∨ ((Itt K a).go i H ∧ ∃ N : St → Hp → Prop, (∀ σ' H', N σ' H' → ∃ m', m' < m ∧ W (i + 1) m' σ' H') ∧ ∀ x H', (Itt K a).yld i H x H' → g x σ H' fun σ2 H2 => tb { D with nx := N, ct := N, bk := D.nx } σ2 H2) := by
  refine ⟨fun i m σ H => m = xs.length - i ∧ i ≤ xs.length ∧ Pv i σ H, ⟨xs.length, by simp, Nat.zero_le _, h0⟩, ?_⟩
  rintro i m σ H ⟨rfl, hi, p⟩
  have q := hl i σ H hi p
  by_cases hlt : i < xs.length
  · refine .inr ⟨⟨xs, xs[i], q, by simp [hlt]⟩, Pv (i + 1), fun σ' H' p' => ⟨xs.length - (i + 1), by omega, rfl, hlt, p'⟩, fun x H' y => ?_⟩
    obtain ⟨e, y⟩ := y
    subst e
    exact hs i x σ _ (y xs q) p
  · have e : i = xs.length := by omega
    subst e
    exact .inl ⟨⟨xs, q, Nat.le_refl _⟩, hd σ H p⟩
theorem for_range {lo : Int} {n : Nat} {g : TG} {tb : TS} {D : Ends} {σ : St} {H : Hp} (Pv : Nat → St → Hp → Prop) (h0 : Pv 0 σ H)
    (hs : ∀ i σ H, i < n → Pv i σ H → g (.int (lo + i)) σ H fun σ2 H2 => tb { D with nx := Pv (i + 1), ct := Pv (i + 1), bk := D.nx } σ2 H2) (hd : ∀ σ H, Pv n σ H → D.nx σ H) :
    ∃ W : Nat → Nat → St → Hp → Prop, (∃ m, W 0 m σ H) ∧ ∀ i m σ H, W i m σ H →
      ((Itr lo n).stop i H ∧ D.nx σ H) ∨ ((Itr lo n).go i H ∧ ∃ N : St → Hp → Prop, (∀ σ' H', N σ' H' → ∃ m', m' < m ∧ W (i + 1) m' σ' H') ∧ ∀ x H', (Itr lo n).yld i H x H' → g x σ H' fun σ2 H2 => tb { D with nx := N, ct := N, bk := D.nx } σ2 H2) := by
  refine ⟨fun i m σ H => m = n - i ∧ i ≤ n ∧ Pv i σ H, ⟨n, by simp, Nat.zero_le _, h0⟩, ?_⟩
  rintro i m σ H ⟨rfl, hi, p⟩
  by_cases hlt : i < n
  · refine .inr ⟨hlt, Pv (i + 1), fun σ' H' p' => ⟨n - (i + 1), by omega, rfl, hlt, p'⟩, fun x H' y => ?_⟩
    obtain ⟨e, y⟩ := y
    subst e y
    exact hs i σ _ hlt p
  · have e : i = n := by omega
    subst e
    exact .inl ⟨Nat.le_refl _, hd σ H p⟩
/-- while, by a word and a measure of the state -/
theorem while_by {c : TT} {tb : TS} {D : Ends} {σ : St} {H : Hp} (Pv : St → Hp → Prop) (μ : St → Hp → Nat) (h0 : Pv σ H)
    (hs : ∀ σ H, Pv σ H → c σ H fun b H1 => if b = true then tb { D with nx := fun σ' H' => Pv σ' H' ∧ μ σ' H' < μ σ H, ct := fun σ' H' => Pv σ' H' ∧ μ σ' H' < μ σ H, bk := D.nx } σ H1 else D.nx σ H1)
    (mono : ∀ σ H Q Q', (∀ b H1, Q b H1 → Q' b H1) → c σ H Q → c σ H Q') : tWhile c tb D σ H := by
  refine ⟨fun m σ H => m = μ σ H ∧ Pv σ H, ⟨_, rfl, h0⟩, ?_⟩
  rintro m σ H ⟨rfl, p⟩
  refine mono σ H _ _ (fun b H1 q => ?_) (hs σ H p)
  cases b with
  | true => exact ⟨_, fun σ' H' ⟨p', l⟩ => ⟨_, l, rfl, p'⟩, q⟩
  | false => exact q
end L2

namespace L2
open PySem PySem.Spec PyProof.Rows

abbrev R2 := V → V → Hp → VK → Prop
/-- a two-place operation on values: f is binaryOp op, inplaceOp op or compareOp op -/
def OpR (X : Cx) (f : Value → Value → Sem Value) (r : R2) : Prop :=
  ∀ (pins : List (Addr × Obj)) (s : Shared) (σ : St) (H : Hp) (x y : V) (v u : Value) (Q : VK), Inv X pins σ H s → RelV x v → RelV y u → r x y H Q →
    wpAny (model X.prog X.w) X.A (f v u) (EP X pins σ Q) X.xe s
/-- a one-place operation -/
def UnR (X : Cx) (f : Value → Sem Value) (r : V → Hp → VK → Prop) : Prop :=
  ∀ (pins : List (Addr × Obj)) (s : Shared) (σ : St) (H : Hp) (x : V) (v : Value) (Q : VK), Inv X pins σ H s → RelV x v → r x H Q →
    wpAny (model X.prog X.w) X.A (f v) (EP X pins σ Q) X.xe s
/-- a call of a value that is known (a builtin, a type) with values -/
def CallR (X : Cx) (f : Value) (r : List V → Hp → VK → Prop) : Prop :=
  ∀ (pins : List (Addr × Obj)) (s : Shared) (σ : St) (H : Hp) (xs : List V) (us : List Value) (Q : VK), Inv X pins σ H s → Vals xs us → r xs H Q →
    wpAny (model X.prog X.w) X.A (call f us) (EP X pins σ Q) X.xe s
/-- a value's truth -/
def TruR (X : Cx) (r : V → Hp → (Bool → Hp → Prop) → Prop) : Prop :=
  ∀ (pins : List (Addr × Obj)) (s : Shared) (σ : St) (H : Hp) (x : V) (v : Value) (Q : Bool → Hp → Prop), Inv X pins σ H s → RelV x v → r x H Q →
    wpAny (model X.prog X.w) X.A (truthy v) (TP X pins σ Q) X.xe s

def tOp (r : R2) (ta tb : TE) : TE := fun σ H Q => ta σ H fun x H1 => tb σ H1 fun y H2 => r x y H2 Q
def tUn (r : V → Hp → VK → Prop) (ta : TE) : TE := fun σ H Q => ta σ H fun x H1 => r x H1 Q
/-- ints in, under C, and a value out -/
def rI (C : Int → Int → Prop) (g : Int → Int → V) : R2 := fun x y H Q => ∃ i j, x = .int i ∧ y = .int j ∧ C i j ∧ Q (g i j) H
def rI0 (g : Int → Int → V) : R2 := fun x y H Q => ∃ i j, x = .int i ∧ y = .int j ∧ Q (g i j) H
def rU (g : Int → V) : V → Hp → VK → Prop := fun x H Q => ∃ i, x = .int i ∧ Q (g i) H

section
variable {X : Cx} {a b c : Expr} {ta tb tc : TE} {pos : Pos}

theorem binT (ha : PE X a ta) (hb : PE X b tb) {pins : List (Addr × Obj)} {s : Shared} {σ : St} {H : Hp} {R : V → V → Hp → Prop} (I : Inv X pins σ H s)
    (h : ta σ H fun x H1 => tb σ H1 fun y H2 => R x y H2) {Q : Value → Shared → Prop} {f : Value → Value → Sem Value}
    (hf : ∀ v u s2 x y H2, Inv X pins σ H2 s2 → RelV x v → RelV y u → R x y H2 → wpAny (model X.prog X.w) X.A (f v u) Q X.xe s2) :
    wpAny (model X.prog X.w) X.A (eval a X.env) (fun v s₁ => wpAny (model X.prog X.w) X.A (eval b X.env) (fun u s₂ => wpAny (model X.prog X.w) X.A (f v u) Q X.xe s₂) X.xe s₁) X.xe s := by
  refine thn (ha pins s σ H _ I h) fun v s1 ⟨x, H1, I1, r1, q1⟩ => ?_
  refine thn (hb pins s1 σ H1 _ I1 q1) fun u s2 ⟨y, H2, I2, r2, q2⟩ => ?_
  exact hf v u s2 x y H2 I2 r1 r2 q2

theorem pe_op {op : Operator} {r : R2} (ho : OpR X (binaryOp op) r) (ha : PE X a ta) (hb : PE X b tb) : PE X (.BinOp a op b pos) (tOp r ta tb) := by
  refine ⟨?_⟩
  intro pins s σ H Q I h
  exact wpAny_BinOp (binT ha hb I h fun v u s2 x y H2 I2 rx ry q => ho pins s2 σ H2 x y v u Q I2 rx ry q)
theorem pe_un {op : UnaryOp} {r : V → Hp → VK → Prop} (ho : UnR X (unaryOp op) r) (ha : PE X a ta) : PE X (.UnaryOp op a pos) (tUn r ta) := by
  refine ⟨?_⟩
  intro pins s σ H Q I h
  exact UnaryOp_ (thn (ha pins s σ H _ I h) fun v s1 ⟨x, H1, I1, r1, q1⟩ => ho pins s1 σ H1 x v Q I1 r1 q1)
/-- a op= e at a name: the name's slot i -/
theorem augR {op : Operator} {r : R2} (ho : OpR X (inplaceOp op) r) {pins : List (Addr × Obj)} {s : Shared} {σ : St} {H : Hp} {x y : V} {v u : Value} {Q : VK} (I : Inv X pins σ H s)
    (rx : RelV x v) (ry : RelV y u) (q : r x y H Q) : wpAny (model X.prog X.w) X.A (inplaceOp op v u) (EP X pins σ Q) X.xe s := ho pins s σ H x y v u Q I rx ry q

/-! ### ints -/
theorem opI {f : Value → Value → Sem Value} {C : Int → Int → Prop} {g : Int → Int → Int}
    (rule : ∀ (i j : Int) (t u : Tok) (s : Shared) (Q : Value → Shared → Prop) (E : Value → Shared → Prop), C i j → Q (.int (g i j) s.toks) { s with toks := s.toks + 1 } → wpAny (model X.prog X.w) X.A (f (.int i t) (.int j u)) Q E s) :
    OpR X f (rI C fun i j => .int (g i j)) := by
  intro pins s σ H x y v u Q I rx ry h
  obtain ⟨i, j, rfl, rfl, hc, q⟩ := h
  obtain ⟨t, rfl⟩ := rx
  obtain ⟨t', rfl⟩ := ry
  exact rule i j t t' s _ _ hc ⟨.int (g i j), H, I.tok _, ⟨_, rfl⟩, q⟩
theorem opI0 {f : Value → Value → Sem Value} {g : Int → Int → Int}
    (rule : ∀ (i j : Int) (t u : Tok) (s : Shared) (Q : Value → Shared → Prop) (E : Value → Shared → Prop), Q (.int (g i j) s.toks) { s with toks := s.toks + 1 } → wpAny (model X.prog X.w) X.A (f (.int i t) (.int j u)) Q E s) :
    OpR X f (rI0 fun i j => .int (g i j)) := by
  intro pins s σ H x y v u Q I rx ry h
  obtain ⟨i, j, rfl, rfl, q⟩ := h
  obtain ⟨t, rfl⟩ := rx
  obtain ⟨t', rfl⟩ := ry
  exact rule i j t t' s _ _ ⟨.int (g i j), H, I.tok _, ⟨_, rfl⟩, q⟩
theorem opB0 {f : Value → Value → Sem Value} {g : Int → Int → Bool}
    (rule : ∀ (i j : Int) (t u : Tok) (s : Shared) (Q : Value → Shared → Prop) (E : Value → Shared → Prop), Q (.bool (g i j)) s → wpAny (model X.prog X.w) X.A (f (.int i t) (.int j u)) Q E s) :
    OpR X f (rI0 fun i j => .bl (g i j)) := by
  intro pins s σ H x y v u Q I rx ry h
  obtain ⟨i, j, rfl, rfl, q⟩ := h
  obtain ⟨t, rfl⟩ := rx
  obtain ⟨t', rfl⟩ := ry
  exact rule i j t t' s _ _ ⟨.bl (g i j), H, I, rfl, q⟩

def CDiv (i j : Int) : Prop := 0 < j ∧ j < 1073741824
def CDivN (i j : Int) : Prop := j ≠ 0 ∧ j.natAbs < 1073741824
def CPow (i j : Int) : Prop := 0 ≤ j ∧ j ≤ 1000000 ∧ i.natAbs < 2 ^ 64
def CMul (i j : Int) : Prop := (-(2 ^ 64) < i ∧ i < 2 ^ 64) ∨ (-(2 ^ 64) < j ∧ j < 2 ^ 64)
theorem CMul.ok {i j : Int} (h : CMul i j) : IntMulOk i j := by
  rcases h with ⟨h1, h2⟩ | ⟨h1, h2⟩
  · exact .of_left (intBits_le_64 h1 h2)
  · exact .of_right (intBits_le_64 h1 h2)
theorem two_pow_nn (k : Nat) : (0 : Int) ≤ 2 ^ k := by
  rw [two_pow_cast]
  exact Int.natCast_nonneg _

theorem op_add : OpR X (binaryOp .Add) (rI0 fun i j => .int (i + j)) := opI0 fun _ _ _ _ _ _ _ q => add_int q
theorem op_sub : OpR X (binaryOp .Sub) (rI0 fun i j => .int (i - j)) := opI0 fun _ _ _ _ _ _ _ q => sub_int q
theorem op_mul : OpR X (binaryOp .Mult) (rI CMul fun i j => .int (i * j)) := opI fun _ _ _ _ _ _ _ hc q => mul_int q hc.ok
/-- // by a positive divisor -/
theorem op_fdiv : OpR X (binaryOp .FloorDiv) (rI CDiv fun i j => .int (i / j)) := opI fun i j _ _ _ _ _ hc q => by
  have h1 : (0 : Int) < j := hc.1
  have h2 : j < 1073741824 := hc.2
  exact floordiv_int (by omega) (by rw [Int.fdiv_eq_ediv_of_nonneg i (by omega)]; exact q) (.inl (PyProof.noPylong_small (by omega)))
theorem op_fdivN : OpR X (binaryOp .FloorDiv) (rI CDivN fun i j => .int (i.fdiv j)) := opI fun _ _ _ _ _ _ _ hc q => floordiv_int hc.1 q (.inl (PyProof.noPylong_small hc.2))
/-- % by a positive divisor of any size -/
theorem op_mod : OpR X (binaryOp .Mod) (rI (fun _ j => 0 < j) fun i j => .int (i % j)) := opI fun i j _ _ _ _ _ hc q => by
  have h1 : (0 : Int) < j := hc
  exact mod_int' (by omega) (by rw [Int.fmod_eq_emod_of_nonneg i (by omega)]; exact q)
theorem op_modN : OpR X (binaryOp .Mod) (rI (fun _ j => j ≠ 0) fun i j => .int (i.fmod j)) := opI fun _ _ _ _ _ _ _ hc q => mod_int' hc q
theorem op_pow : OpR X (binaryOp .Pow) (rI CPow fun i j => .int (i ^ j.toNat)) := opI fun _ _ _ _ _ _ _ hc q => pow_int_small hc.1 hc.2.1 hc.2.2 q
theorem op_shl : OpR X (binaryOp .LShift) (rI CPow fun i j => .int (i * 2 ^ j.toNat)) := opI fun _ _ _ _ _ _ _ hc q => lshift_int_small hc.1 hc.2.1 hc.2.2 q
theorem op_shr : OpR X (binaryOp .RShift) (rI (fun _ j => 0 ≤ j) fun i j => .int (i / 2 ^ j.toNat)) := opI fun i j _ _ _ _ _ hc q =>
  rshift_int hc (by rw [Int.fdiv_eq_ediv_of_nonneg i (two_pow_nn _)]; exact q)
theorem op_and : OpR X (binaryOp .BitAnd) (rI0 fun i j => .int (Builtin.bitAnd i j)) := opI0 fun _ _ _ _ _ _ _ q => and_int q
theorem op_or : OpR X (binaryOp .BitOr) (rI0 fun i j => .int (Builtin.bitOr i j)) := opI0 fun _ _ _ _ _ _ _ q => or_int q
theorem op_xor : OpR X (binaryOp .BitXor) (rI0 fun i j => .int (Builtin.bitXor i j)) := opI0 fun _ _ _ _ _ _ _ q => xor_int q

theorem iop_add : OpR X (inplaceOp .Add) (rI0 fun i j => .int (i + j)) := opI0 fun _ _ _ _ _ _ _ q => iadd_int q
theorem iop_sub : OpR X (inplaceOp .Sub) (rI0 fun i j => .int (i - j)) := opI0 fun _ _ _ _ _ _ _ q => isub_int q
theorem iop_mul : OpR X (inplaceOp .Mult) (rI CMul fun i j => .int (i * j)) := opI fun _ _ _ _ _ _ _ hc q => imul_int q hc.ok
theorem iop_fdiv : OpR X (inplaceOp .FloorDiv) (rI CDiv fun i j => .int (i / j)) := opI fun i j _ _ _ _ _ hc q => by
  have h1 : (0 : Int) < j := hc.1
  have h2 : j < 1073741824 := hc.2
  exact ifloordiv_int (by omega) (by rw [Int.fdiv_eq_ediv_of_nonneg i (by omega)]; exact q) (.inl (PyProof.noPylong_small (by omega)))
theorem iop_mod : OpR X (inplaceOp .Mod) (rI (fun _ j => 0 < j) fun i j => .int (i % j)) := opI fun i j _ _ _ _ _ hc q => by
  have h1 : (0 : Int) < j := hc
  exact imod_int (by omega) (by rw [Int.fmod_eq_emod_of_nonneg i (by omega)]; exact q)
theorem iop_shl : OpR X (inplaceOp .LShift) (rI CPow fun i j => .int (i * 2 ^ j.toNat)) := opI fun _ _ _ _ _ _ _ hc q => ilshift_int_small hc.1 hc.2.1 hc.2.2 q
theorem iop_shr : OpR X (inplaceOp .RShift) (rI (fun _ j => 0 ≤ j) fun i j => .int (i / 2 ^ j.toNat)) := opI fun i j _ _ _ _ _ hc q =>
  irshift_int hc (by rw [Int.fdiv_eq_ediv_of_nonneg i (two_pow_nn _)]; exact q)
theorem iop_and : OpR X (inplaceOp .BitAnd) (rI0 fun i j => .int (Builtin.bitAnd i j)) := opI0 fun _ _ _ _ _ _ _ q => iand_int q
theorem iop_or : OpR X (inplaceOp .BitOr) (rI0 fun i j => .int (Builtin.bitOr i j)) := opI0 fun _ _ _ _ _ _ _ q => ior_int q
theorem iop_xor : OpR X (inplaceOp .BitXor) (rI0 fun i j => .int (Builtin.bitXor i j)) := opI0 fun _ _ _ _ _ _ _ q => ixor_int q

theorem unI {f : Value → Sem Value} {g : Int → Int}
    (rule : ∀ (i : Int) (t : Tok) (s : Shared) (Q : Value → Shared → Prop) (E : Value → Shared → Prop), Q (.int (g i) s.toks) { s with toks := s.toks + 1 } → wpAny (model X.prog X.w) X.A (f (.int i t)) Q E s) :
    UnR X f (rU fun i => .int (g i)) := by
  intro pins s σ H x v Q I rx h
  obtain ⟨i, rfl, q⟩ := h
  obtain ⟨t, rfl⟩ := rx
  exact rule i t s _ _ ⟨.int (g i), H, I.tok _, ⟨_, rfl⟩, q⟩
theorem un_neg : UnR X (unaryOp .USub) (rU fun i => .int (-i)) := unI fun _ _ _ _ _ q => neg_int q
theorem un_inv : UnR X (unaryOp .Invert) (rU fun i => .int (Builtin.bitNot i)) := unI fun _ _ _ _ _ q => invert_int q

/-! ### bools among ints: n += (a < b) -/
theorem op_add_ib : OpR X (binaryOp .Add) (fun x y H Q => ∃ i k, x = .int i ∧ y = .bl k ∧ Q (.int (i + b2i k)) H) := by
  intro pins s σ H x y v u Q I rx ry h
  obtain ⟨i, k, rfl, rfl, q⟩ := h
  obtain ⟨t, rfl⟩ := rx
  cases ry
  exact add_int_bool ⟨.int (i + b2i k), H, I.tok _, ⟨_, rfl⟩, q⟩
end

/-! ### comparisons -/
/-- the scalars that == tells apart as data does -/
def scal : V → V → Bool
  | .non, .non => true | .non, .int _ => true | .int _, .non => true | .non, .bl _ => true | .bl _, .non => true | .non, .str _ => true | .str _, .non => true
  | .int _, .int _ => true | .bl _, .bl _ => true | .str _, .str _ => true | .byt _, .byt _ => true
  | .int _, .str _ => true | .str _, .int _ => true | .bl _, .str _ => true | .str _, .bl _ => true
  | _, _ => false
def rEq : R2 := fun x y H Q => scal x y = true ∧ Q (.bl (decide (x = y))) H
def rNe : R2 := fun x y H Q => scal x y = true ∧ Q (.bl (!decide (x = y))) H

theorem dec_int {i j : Int} : decide (V.int i = V.int j) = (i == j) := by
  rw [Bool.eq_iff_iff]
  simp
theorem dec_bl {i j : Bool} : decide (V.bl i = V.bl j) = (i == j) := by
  rw [Bool.eq_iff_iff]
  simp
theorem dec_str {i j : Str} : decide (V.str i = V.str j) = (i == j) := by
  rw [Bool.eq_iff_iff]
  simp
theorem dec_byt {i j : Array UInt8} : decide (V.byt i = V.byt j) = (i.toList == j.toList) := by
  rw [Bool.eq_iff_iff]
  cases i
  cases j
  simp

section
variable {X : Cx} {a b c : Expr} {ta tb tc : TE} {pos : Pos}
theorem fin_bl {pins : List (Addr × Obj)} {σ : St} {H : Hp} {s : Shared} {Q : VK} {k k' : Bool} (I : Inv X pins σ H s) (q : Q (.bl k) H) (e : k = k') : EP X pins σ Q (.bool k') s := by
  subst e
  exact ⟨.bl k, H, I, rfl, q⟩
theorem op_eq : OpR X (compareOp .Eq) rEq := by
  intro pins s σ H x y v u Q I rx ry h
  obtain ⟨hs, q⟩ := h
  cases x with
  | non =>
    cases rx
    cases y with
    | non => cases ry; exact PySem.EqNone.eq_none_none (fin_bl I q (by simp))
    | bl j => cases ry; exact PySem.EqNone.eq_none_bool (fin_bl I q (by simp))
    | int j => obtain ⟨t', rfl⟩ := ry; exact PySem.EqNone.eq_none_int (fin_bl I q (by simp))
    | str j => obtain ⟨t', rfl⟩ := ry; exact PySem.EqNone.eq_none_str (fin_bl I q (by simp))
    | _ => exact absurd (show false = true from hs) Bool.false_ne_true
  | bl i =>
    cases rx
    cases y with
    | non => cases ry; exact PySem.EqNone.eq_bool_none (fin_bl I q (by simp))
    | bl j => cases ry; exact eq_bool (fin_bl I q dec_bl)
    | str j => obtain ⟨t', rfl⟩ := ry; exact PySem.EqMixed.eq_bool_str (fin_bl I q (by simp))
    | _ => exact absurd (show false = true from hs) Bool.false_ne_true
  | int i =>
    obtain ⟨t, rfl⟩ := rx
    cases y with
    | non => cases ry; exact PySem.EqNone.eq_int_none (fin_bl I q (by simp))
    | int j => obtain ⟨t', rfl⟩ := ry; exact eq_int (fin_bl I q dec_int)
    | str j => obtain ⟨t', rfl⟩ := ry; exact PySem.EqMixed.eq_int_str (fin_bl I q (by simp))
    | _ => exact absurd (show false = true from hs) Bool.false_ne_true
  | str i =>
    obtain ⟨t, rfl⟩ := rx
    cases y with
    | non => cases ry; exact PySem.EqNone.eq_str_none (fin_bl I q (by simp))
    | bl j => cases ry; exact PySem.EqMixed.eq_str_bool (fin_bl I q (by simp))
    | int j => obtain ⟨t', rfl⟩ := ry; exact PySem.EqMixed.eq_str_int (fin_bl I q (by simp))
    | str j => obtain ⟨t', rfl⟩ := ry; exact eq_str (fin_bl I q dec_str)
    | _ => exact absurd (show false = true from hs) Bool.false_ne_true
  | byt i =>
    obtain ⟨t, rfl⟩ := rx
    cases y with
    | byt j => obtain ⟨t', rfl⟩ := ry; exact PySem.W.eq_bytes (fin_bl I q dec_byt)
    | _ => exact absurd (show false = true from hs) Bool.false_ne_true
  | _ => cases y <;> exact absurd (show false = true from hs) Bool.false_ne_true
theorem op_ne : OpR X (compareOp .NotEq) rNe := by
  intro pins s σ H x y v u Q I rx ry h
  obtain ⟨hs, q⟩ := h
  cases x with
  | non =>
    cases rx
    cases y with
    | non => cases ry; exact PySem.EqNone.ne_none_none (fin_bl I q (by simp))
    | bl j => cases ry; exact PySem.EqNone.ne_none_bool (fin_bl I q (by simp))
    | int j => obtain ⟨t', rfl⟩ := ry; exact PySem.EqNone.ne_none_int (fin_bl I q (by simp))
    | str j => obtain ⟨t', rfl⟩ := ry; exact PySem.EqNone.ne_none_str (fin_bl I q (by simp))
    | _ => exact absurd (show false = true from hs) Bool.false_ne_true
  | bl i =>
    cases rx
    cases y with
    | non => cases ry; exact PySem.EqNone.ne_bool_none (fin_bl I q (by simp))
    | bl j => cases ry; exact ne_bool (fin_bl I q (congrArg not dec_bl))
    | str j => obtain ⟨t', rfl⟩ := ry; exact PySem.EqMixed.ne_bool_str (fin_bl I q (by simp))
    | _ => exact absurd (show false = true from hs) Bool.false_ne_true
  | int i =>
    obtain ⟨t, rfl⟩ := rx
    cases y with
    | non => cases ry; exact PySem.EqNone.ne_int_none (fin_bl I q (by simp))
    | int j => obtain ⟨t', rfl⟩ := ry; exact ne_int (fin_bl I q (congrArg not dec_int))
    | str j => obtain ⟨t', rfl⟩ := ry; exact PySem.EqMixed.ne_int_str (fin_bl I q (by simp))
    | _ => exact absurd (show false = true from hs) Bool.false_ne_true
  | str i =>
    obtain ⟨t, rfl⟩ := rx
    cases y with
    | non => cases ry; exact PySem.EqNone.ne_str_none (fin_bl I q (by simp))
    | bl j => cases ry; exact PySem.EqMixed.ne_str_bool (fin_bl I q (by simp))
    | int j => obtain ⟨t', rfl⟩ := ry; exact PySem.EqMixed.ne_str_int (fin_bl I q (by simp))
    | str j => obtain ⟨t', rfl⟩ := ry; exact ne_str (fin_bl I q (congrArg not dec_str))
    | _ => exact absurd (show false = true from hs) Bool.false_ne_true
  | byt i =>
    obtain ⟨t, rfl⟩ := rx
    cases y with
    | byt j => obtain ⟨t', rfl⟩ := ry; exact PySem.W.ne_bytes (fin_bl I q (congrArg not dec_byt))
    | _ => exact absurd (show false = true from hs) Bool.false_ne_true
  | _ => cases y <;> exact absurd (show false = true from hs) Bool.false_ne_true

theorem op_lt : OpR X (compareOp .Lt) (rI0 fun i j => .bl (decide (i < j))) := opB0 fun _ _ _ _ _ _ _ q => lt_int q
theorem op_le : OpR X (compareOp .LtE) (rI0 fun i j => .bl (decide (i ≤ j))) := opB0 fun _ _ _ _ _ _ _ q => le_int q
theorem op_gt : OpR X (compareOp .Gt) (rI0 fun i j => .bl (decide (j < i))) := opB0 fun _ _ _ _ _ _ _ q => gt_int q
theorem op_ge : OpR X (compareOp .GtE) (rI0 fun i j => .bl (decide (j ≤ i))) := opB0 fun _ _ _ _ _ _ _ q => ge_int q
theorem op_lt_str : OpR X (compareOp .Lt) (fun x y H Q => ∃ i j, x = .str i ∧ y = .str j ∧ Q (.bl (decide (i.cps.toList < j.cps.toList))) H) := by
  intro pins s σ H x y v u Q I rx ry h
  obtain ⟨i, j, rfl, rfl, q⟩ := h
  obtain ⟨t, rfl⟩ := rx
  obtain ⟨t', rfl⟩ := ry
  exact lt_str (fin_bl I q rfl)
/-- the one string within the other -/
theorem op_in_str : OpR X (compareOp .In) (fun x y H Q => ∃ i j, x = .str i ∧ y = .str j ∧ Q (.bl (!(Builtin.Str.occurrences j i 0 j.length 1).isEmpty)) H) := by
  intro pins s σ H x y v u Q I rx ry h
  obtain ⟨i, j, rfl, rfl, q⟩ := h
  obtain ⟨t, rfl⟩ := rx
  obtain ⟨t', rfl⟩ := ry
  exact in_str (fin_bl I q rfl)

/-- is None, is not None: the right side a value none -/
theorem op_isN : OpR X (compareOp .Is) (fun x y H Q => y = .non ∧ Q (.bl (decide (x = .non))) H) := by
  intro pins s σ H x y v u Q I rx ry h
  obtain ⟨rfl, q⟩ := h
  cases ry
  refine is_none_gen (fin_bl I q ?_)
  cases x <;> first
    | (cases rx; rfl)
    | (obtain ⟨t, rfl⟩ := rx; rfl)
theorem op_notN : OpR X (compareOp .IsNot) (fun x y H Q => y = .non ∧ Q (.bl (!decide (x = .non))) H) := by
  intro pins s σ H x y v u Q I rx ry h
  obtain ⟨rfl, q⟩ := h
  cases ry
  refine isnot_none_gen (fin_bl I q ?_)
  cases x <;> first
    | (cases rx; rfl)
    | (obtain ⟨t, rfl⟩ := rx; rfl)

theorem op_notin_str : OpR X (compareOp .NotIn) (fun x y H Q => ∃ i j, x = .str i ∧ y = .str j ∧ Q (.bl (!(!(Builtin.Str.occurrences j i 0 j.length 1).isEmpty))) H) := by
  intro pins s σ H x y v u Q I rx ry h
  obtain ⟨i, j, rfl, rfl, q⟩ := h
  obtain ⟨t, rfl⟩ := rx
  obtain ⟨t', rfl⟩ := ry
  exact notIn_str (fin_bl I q rfl)
/-- is, is not of two objects that are tracked lists or instances -/
def isObj : HO → Bool
  | .lst _ => true
  | .ins _ _ _ => true
  | _ => false
theorem obj_there {pins : List (Addr × Obj)} {s : Shared} {σ : St} {H : Hp} {a : Addr} {o : HO} (I : Inv X pins σ H s) (h : H a = some o) (p : isObj o = true) : ∃ ob, s.heap.get? a = some ob ∧ ob.cls ≠ .type "tuple" := by
  cases o with
  | lst xs =>
    obtain ⟨_, its, n, _, e⟩ : xs.length ≤ sizeLine ∧ ∃ (its : List Value) (n : Nat), Vals xs its ∧ s.heap.get? a = some { cls := .type "list", data := .seq its.toArray n } := I.hok a _ h
    exact ⟨_, e, (by show Value.type "list" ≠ .type "tuple"; decide +kernel)⟩
  | ins C dx fs =>
    have x := I.hok a _ h
    obtain ⟨_, _, _, e, _⟩ := x
    exact ⟨_, e, (by show Value.ref C ≠ .type "tuple"; exact fun z => by cases z)⟩
  | _ => exact absurd (show false = true from p) Bool.false_ne_true
theorem op_is_ref : OpR X (compareOp .Is) (fun x y H Q => ∃ a b oa ob, x = .ref a ∧ y = .ref b ∧ H a = some oa ∧ isObj oa = true ∧ H b = some ob ∧ isObj ob = true ∧ Q (.bl (decide (a = b))) H) := by
  intro pins s σ H x y v u Q I rx ry h
  obtain ⟨a, b, oa, ob, rfl, rfl, ha, pa, hb, pb, q⟩ := h
  cases rx
  cases ry
  obtain ⟨o1, e1, n1⟩ := obj_there I ha pa
  obtain ⟨o2, e2, _⟩ := obj_there I hb pb
  by_cases z : a = b
  · subst z
    exact wpAny_is_ref_self (fin_bl I q (by simp))
  · exact wpAny_is_ref_other z e1 e2 n1 (fin_bl I q (by simp [z]))
theorem op_isnot_ref : OpR X (compareOp .IsNot) (fun x y H Q => ∃ a b oa ob, x = .ref a ∧ y = .ref b ∧ H a = some oa ∧ isObj oa = true ∧ H b = some ob ∧ isObj ob = true ∧ Q (.bl (!decide (a = b))) H) := by
  intro pins s σ H x y v u Q I rx ry h
  obtain ⟨a, b, oa, ob, rfl, rfl, ha, pa, hb, pb, q⟩ := h
  cases rx
  cases ry
  obtain ⟨o1, e1, n1⟩ := obj_there I ha pa
  obtain ⟨o2, e2, _⟩ := obj_there I hb pb
  by_cases z : a = b
  · subst z
    exact wpAny_isNot_ref_self (fin_bl I q (by simp))
  · exact wpAny_isNot_ref_other z e1 e2 n1 (fin_bl I q (by simp [z]))

/-- two rules for one operation: by cases -/
theorem OpR.or {f : Value → Value → Sem Value} {r r' : R2} (h : OpR X f r) (h' : OpR X f r') : OpR X f (fun x y H Q => r x y H Q ∨ r' x y H Q) := by
  intro pins s σ H x y v u Q I rx ry q
  rcases q with q | q
  · exact h pins s σ H x y v u Q I rx ry q
  · exact h' pins s σ H x y v u Q I rx ry q

theorem nomark (b : Expr) {op : CmpOp} (h : op ≠ .In := by decide) (h2 : op ≠ .NotIn := by decide) : behindInMarks op b = false := by
  have e1 : (op == CmpOp.In) = false := by cases op <;> first | rfl | exact absurd rfl h
  have e2 : (op == CmpOp.NotIn) = false := by cases op <;> first | rfl | exact absurd rfl h2
  cases b <;> simp [behindInMarks, e1, e2]
/-- a comparison as a value; hm: nomark b, or (for in, not in) by with_unfolding_all rfl -/
theorem pe_cmpR {op : CmpOp} {r : R2} (ho : OpR X (compareOp op) r) (ha : PE X a ta) (hb : PE X b tb) (hm : behindInMarks op b = false) : PE X (.Compare a [op] [b] pos) (tOp r ta tb) := by
  refine ⟨?_⟩
  intro pins s σ H Q I h
  exact wpAny_Compare1 (binT ha hb I h fun v u s2 x y H2 I2 rx ry q => ho pins s2 σ H2 x y v u Q I2 rx ry q) hm
/-- a reading of a value as a test -/
def tTest (t : TE) : TT := fun σ H Q => t σ H fun x H' => ∃ k, x = .bl k ∧ Q k H'
theorem pt_cmpR {op : CmpOp} {r : R2} (ho : OpR X (compareOp op) r) (ha : PE X a ta) (hb : PE X b tb) (hm : behindInMarks op b = false) : PT X (.Compare a [op] [b] pos) (tTest (tOp r ta tb)) := by
  refine ⟨?_⟩
  intro pins s σ H Q I h
  refine wpAny_isTrue_Compare1 (thn (ha pins s σ H _ I h) fun v s1 ⟨x, H1, I1, r1, q1⟩ => thn (hb pins s1 σ H1 _ I1 q1) fun u s2 ⟨y, H2, I2, r2, q2⟩ =>
    thn (ho pins s2 σ H2 x y v u _ I2 r1 r2 q2) fun c s3 ⟨z, H3, I3, r3, k, e, q3⟩ => ?_) hm
  subst e
  cases r3
  exact wpAny_truthy_bool ⟨H3, I3, q3⟩
/-- a op1 b op2 c -/
def tChain (r r' : R2) (ta tb tc : TE) : TE := fun σ H Q => ta σ H fun x H1 => tb σ H1 fun y H2 => r x y H2 fun z H3 => ∃ k, z = .bl k ∧
  (if k = true then tc σ H3 fun w' H4 => r' y w' H4 Q else Q (.bl false) H3)
theorem pe_chain {op op' : CmpOp} {r r' : R2} (ho : OpR X (compareOp op) r) (ho' : OpR X (compareOp op') r') (ha : PE X a ta) (hb : PE X b tb) (hc : PE X c tc)
    (hm : lastMarks [op, op'] [b, c] = false := by with_unfolding_all rfl) : PE X (.Compare a [op, op'] [b, c] pos) (tChain r r' ta tb tc) := by
  refine ⟨?_⟩
  intro pins s σ H Q I h
  refine Compare_chain (thn (ha pins s σ H _ I h) fun v s1 ⟨x, H1, I1, r1, q1⟩ => chain_link (thn (hb pins s1 σ H1 _ I1 q1) fun u s2 ⟨y, H2, I2, r2, q2⟩ =>
    thn (ho pins s2 σ H2 x y v u _ I2 r1 r2 q2) fun d s3 ⟨z, H3, I3, r3, k, e, q3⟩ => ?_)) hm
  subst e
  cases r3
  refine wpAny_truthy_bool ?_
  cases k with
  | false => exact ite_ff ⟨.bl false, H3, I3, rfl, q3⟩
  | true => exact ite_tt (chain_last (thn (hc pins s3 σ H3 _ I3 q3) fun w' s4 ⟨z', H4, I4, r4, q4⟩ => ho' pins s4 σ H4 y z' u w' Q I4 r2 r4 q4))
theorem pt_chain {op op' : CmpOp} {r r' : R2} (ho : OpR X (compareOp op) r) (ho' : OpR X (compareOp op') r') (ha : PE X a ta) (hb : PE X b tb) (hc : PE X c tc)
    (hm : lastMarks [op, op'] [b, c] = false := by with_unfolding_all rfl) : PT X (.Compare a [op, op'] [b, c] pos) (tTest (tChain r r' ta tb tc)) := by
  refine ⟨?_⟩
  intro pins s σ H Q I h
  refine isTrue_chain (thn (ha pins s σ H _ I h) fun v s1 ⟨x, H1, I1, r1, q1⟩ => test_link (thn (hb pins s1 σ H1 _ I1 q1) fun u s2 ⟨y, H2, I2, r2, q2⟩ =>
    thn (ho pins s2 σ H2 x y v u _ I2 r1 r2 q2) fun d s3 ⟨z, H3, I3, r3, k, e, q3⟩ => ?_)) hm
  subst e
  cases r3
  refine wpAny_truthy_bool ?_
  cases k with
  | false =>
    obtain ⟨k', e', q'⟩ := q3
    cases e'
    exact ite_ff ⟨H3, I3, q'⟩
  | true =>
    refine ite_tt (test_last (thn (hc pins s3 σ H3 _ I3 q3) fun w' s4 ⟨z', H4, I4, r4, q4⟩ => thn (ho' pins s4 σ H4 y z' u w' _ I4 r2 r4 q4) fun d' s5 ⟨z2, H5, I5, r5, k2, e2, q5⟩ => ?_))
    subst e2
    cases r5
    exact wpAny_truthy_bool ⟨H5, I5, q5⟩

/-! ### truth -/
/-- a value's truth by the abstract heap -/
def TruV (K : PySem.W.Frag) (x : V) (H : Hp) (k : Bool) : Prop :=
  match x with
  | .non => k = false
  | .bl b => k = b
  | .int i => k = (i != 0)
  | .str y => y.length ≤ sizeLine ∧ k = ((y.length : Int) != 0)
  | .byt y => y.size ≤ sizeLine ∧ k = ((y.size : Int) != 0)
  | .ref p => (∃ xs, SqL K H p xs ∧ k = !xs.isEmpty) ∨ (∃ xs, SqT K H p xs ∧ k = !xs.isEmpty) ∨ ∃ kvs, H p = some (.dK kvs) ∧ k = !kvs.isEmpty
  | _ => False
theorem isEmpty_kv {κ : Type} {kvs : List (κ × V)} {vs : List (κ × Value)} (r : KV kvs vs) : (!vs.isEmpty) = !kvs.isEmpty := by
  cases r <;> rfl
theorem isEmpty_of {xs : List V} {its : List Value} (r : Vals xs its) : (!its.toArray.isEmpty) = !xs.isEmpty := by
  cases r <;> simp
theorem line63 : (sizeLine : Nat) < 2 ^ 63 := by rw [sizeLine_eq]; decide
theorem tru_ok : TruR X (fun x H Q => ∃ k, TruV X.K x H k ∧ Q k H) := by
  intro pins s σ H x v Q I rx h
  obtain ⟨k, e, q⟩ := h
  have hl := line63
  have hs : sizeLine = 16777216 := sizeLine_eq
  cases x with
  | non =>
    cases rx
    have e' : k = false := e
    subst e'
    exact truthy_none ⟨H, I, q⟩
  | bl b =>
    cases rx
    have e' : k = b := e
    subst e'
    exact wpAny_truthy_bool ⟨H, I, q⟩
  | int i =>
    obtain ⟨t, rfl⟩ := rx
    have e' : k = (i != 0) := e
    subst e'
    exact PySem.P.truthy_int ⟨H, I, q⟩
  | str y =>
    obtain ⟨t, rfl⟩ := rx
    obtain ⟨hy, e'⟩ : y.length ≤ sizeLine ∧ k = ((y.length : Int) != 0) := e
    subst e'
    exact PySem.P.truthy_str (by omega) ⟨H, I.tok _, q⟩
  | byt y =>
    obtain ⟨t, rfl⟩ := rx
    obtain ⟨hy, e'⟩ : y.size ≤ sizeLine ∧ k = ((y.size : Int) != 0) := e
    subst e'
    exact PySem.W.truthy_bytes (by omega) ⟨H, I.tok _, q⟩
  | ref p =>
    cases rx
    have e' : (∃ xs, SqL X.K H p xs ∧ k = !xs.isEmpty) ∨ (∃ xs, SqT X.K H p xs ∧ k = !xs.isEmpty) ∨ ∃ kvs, H p = some (.dK kvs) ∧ k = !kvs.isEmpty := e
    rcases e' with ⟨xs, hx, e'⟩ | ⟨xs, hx, e'⟩ | ⟨kvs, hx, e'⟩
    · subst e'
      obtain ⟨its, r, pl, hz⟩ := I.list hx
      have hlen := r.length
      exact wpAny_truthy_list pl.isList (by simp only [List.size_toArray]; omega) ⟨H, I.tok _, by rw [isEmpty_of r]; exact q⟩
    · subst e'
      obtain ⟨its, r, pl, hz⟩ := I.tuple hx
      have hlen := r.length
      exact truthy_tuple pl (by simp only [List.size_toArray]; omega) ⟨H, I.tok _, by rw [isEmpty_of r]; exact q⟩
    · subst e'
      obtain ⟨hz, hS, vs, r, m⟩ : kvs.length ≤ sizeLine ∧ (p == sysModules) = false ∧ ∃ vs, KV kvs vs ∧ s.heap.DictOf (mixKind X.prog X.w) p vs := I.hok p _ hx
      have hlen : kvs.length = vs.length := Paired.length r
      exact wpAny_truthy_dict hS m (by omega) ⟨H, I.tok _, by rw [isEmpty_kv r]; exact q⟩
  | _ => exact (show False from e).elim
/-- any expression whose test is its value's truth (a name, a call, a subscript, a field ..: he by fun _ => rfl) -/
theorem pt_truth (ha : PE X a ta) (he : ∀ whole, isTrue a X.env whole = (do let v ← whole; standAt a.pos; holding [v] (truthy v))) :
    PT X a (fun σ H Q => ta σ H fun x H' => ∃ k, TruV X.K x H' k ∧ Q k H') := by
  refine ⟨?_⟩
  intro pins s σ H Q I h
  exact isTrue_plain (thn (ha pins s σ H _ I h) fun v s1 ⟨x, H1, I1, r1, q1⟩ => tru_ok pins s1 σ H1 x v Q I1 r1 q1) (he _)

/-! ### strs and bytes -/
theorem pe_byt {x : List UInt8} {k : Nat} : PE X (.Constant (.bytes x) k pos) (fun _ H Q => Q (.byt x.toArray) H) := ⟨fun _ _ _ H _ I h => PySem.W.Constant_bytes ⟨.byt x.toArray, H, I.tok _, ⟨_, rfl⟩, h⟩⟩
theorem op_add_str : OpR X (binaryOp .Add) (fun x y H Q => ∃ i j, x = .str i ∧ y = .str j ∧ i.length + j.length ≤ sizeLine ∧ Q (.str (i ++ j)) H) := by
  intro pins s σ H x y v u Q I rx ry h
  obtain ⟨i, j, rfl, rfl, hz, q⟩ := h
  obtain ⟨t, rfl⟩ := rx
  obtain ⟨t', rfl⟩ := ry
  exact add_str (fun t' tk => ⟨.str (i ++ j), H, I.tok _, ⟨_, rfl⟩, q⟩) hz
theorem iop_add_str : OpR X (inplaceOp .Add) (fun x y H Q => ∃ i j, x = .str i ∧ y = .str j ∧ i.length + j.length ≤ sizeLine ∧ Q (.str (i ++ j)) H) := by
  intro pins s σ H x y v u Q I rx ry h
  obtain ⟨i, j, rfl, rfl, hz, q⟩ := h
  obtain ⟨t, rfl⟩ := rx
  obtain ⟨t', rfl⟩ := ry
  exact iadd_str (fun t' tk => ⟨.str (i ++ j), H, I.tok _, ⟨_, rfl⟩, q⟩) hz
theorem op_add_byt : OpR X (binaryOp .Add) (fun x y H Q => ∃ i j, x = .byt i ∧ y = .byt j ∧ i.size + j.size ≤ 16777216 ∧ Q (.byt (i ++ j)) H) := by
  intro pins s σ H x y v u Q I rx ry h
  obtain ⟨i, j, rfl, rfl, hz, q⟩ := h
  obtain ⟨t, rfl⟩ := rx
  obtain ⟨t', rfl⟩ := ry
  exact PySem.W.KBy.add_bytes hz (fun t' tk => ⟨.byt (i ++ j), H, I.tok _, ⟨_, rfl⟩, q⟩)

def PlainIxT (b : Expr) : Prop := ∀ o i, subscripted b false o i = operate [o, i] (getItem o i)
/-- s[i], 0 ≤ i < len -/
theorem pe_item_str (ha : PE X a ta) (hb : PE X b tb) (hs : PlainIxT b) :
    PE X (.Subscript a b pos) (tOp (fun x y H Q => ∃ z i c, x = .str z ∧ y = .int i ∧ 0 ≤ i ∧ i < 2 ^ 63 ∧ i < z.length ∧ z.cps[i.toNat]? = some c ∧ Q (.str ⟨#[c]⟩) H) ta tb) := by
  refine ⟨?_⟩
  intro pins s σ H Q I h
  refine Subscript_ (binT ha hb I h fun v u s2 x y H2 I2 rx ry q => ?_)
  obtain ⟨z, i, c, rfl, rfl, h0, h63, h1, hc, q⟩ := q
  obtain ⟨t, rfl⟩ := rx
  obtain ⟨t', rfl⟩ := ry
  have e : seqIndex? i z.length = some i.toNat := PySem.StrLaws.seqIndex_nonneg h0 h1
  exact tail_any (typeIs_str s2 z t) slot_str_getitem.lookup (getItem_str (c := c) (by
    have e1 : decide (i < -(2 ^ 63 : Int)) = false := decide_eq_false (by omega)
    have e2 : decide (i ≥ 2 ^ 63) = false := decide_eq_false (by omega)
    rw [e1, e2] <;> rfl) (by rw [e]; exact hc) ⟨.str ⟨#[c]⟩, H2, I2.tok _, ⟨_, rfl⟩, q⟩) (hs _ _)
/-- b[i], 0 ≤ i < len -/
theorem pe_item_byt (ha : PE X a ta) (hb : PE X b tb) (hs : PlainIxT b) :
    PE X (.Subscript a b pos) (tOp (fun x y H Q => ∃ (z : List UInt8) (i : Int), x = .byt z.toArray ∧ y = .int i ∧ z.length ≤ sizeLine ∧ 0 ≤ i ∧ i < z.length ∧ Q (.int ((z.getD i.toNat 0).toNat : Nat)) H) ta tb) := by
  refine ⟨?_⟩
  intro pins s σ H Q I h
  refine Subscript_ (binT ha hb I h fun v u s2 x y H2 I2 rx ry q => ?_)
  obtain ⟨z, i, rfl, rfl, hz, h0, h1, q⟩ := q
  obtain ⟨t, rfl⟩ := rx
  obtain ⟨t', rfl⟩ := ry
  have hl : sizeLine = 16777216 := sizeLine_eq
  exact tail_any (PySem.W.typeIs_bytes s2 z.toArray t) PySem.W.FB.slot_bytes_getitem.lookup (PySem.W.getItem_bytes (by omega) h0 h1 ⟨.int ((z.getD i.toNat 0).toNat : Nat), H2, I2.tok _, ⟨_, rfl⟩, q⟩) (hs _ _)

/-! ### scalar builtins, by CallR -/
theorem vals1 {x : V} {us : List Value} (r : Vals [x] us) : ∃ u, us = [u] ∧ RelV x u := by
  cases r with
  | cons r1 r2 => cases r2; exact ⟨_, rfl, r1⟩
theorem vals2 {x y : V} {us : List Value} (r : Vals [x, y] us) : ∃ u w', us = [u, w'] ∧ RelV x u ∧ RelV y w' := by
  cases r with
  | cons r1 r2 =>
    cases r2 with
    | cons r3 r4 => cases r4; exact ⟨_, _, rfl, r1, r3⟩
theorem call_abs : CallR X (.builtin "abs") (fun xs H Q => ∃ i, xs = [.int i] ∧ Q (.int (if i < 0 then -i else i)) H) := by
  intro pins s σ H xs us Q I r h
  obtain ⟨i, rfl, q⟩ := h
  obtain ⟨u, rfl, t, rfl⟩ := vals1 r
  exact call_abs_int fun u tk => ⟨.int (if i < 0 then -i else i), H, I.tok _, ⟨_, rfl⟩, q⟩
theorem call_max2 (hc : X.calm = true) : CallR X (.builtin "max") (fun xs H Q => ∃ i j, xs = [.int i, .int j] ∧ Q (.int (if j > i then j else i)) H) := by
  intro pins s σ H xs us Q I r h
  obtain ⟨i, j, rfl, q⟩ := h
  obtain ⟨u, w', rfl, ⟨t, rfl⟩, ⟨t', rfl⟩⟩ := vals2 r
  refine max_two_ints (I.ok.hd hc) fun h' tk k => ⟨_, H, I.kept k, ?_, q⟩
  by_cases hj : j > i
  · rw [if_pos hj, if_pos hj]; exact ⟨_, rfl⟩
  · rw [if_neg hj, if_neg hj]; exact ⟨_, rfl⟩
theorem call_min2 (hc : X.calm = true) : CallR X (.builtin "min") (fun xs H Q => ∃ i j, xs = [.int i, .int j] ∧ Q (.int (if j < i then j else i)) H) := by
  intro pins s σ H xs us Q I r h
  obtain ⟨i, j, rfl, q⟩ := h
  obtain ⟨u, w', rfl, ⟨t, rfl⟩, ⟨t', rfl⟩⟩ := vals2 r
  refine min_two_ints (I.ok.hd hc) fun h' tk k => ⟨_, H, I.kept k, ?_, q⟩
  by_cases hj : j < i
  · rw [if_pos hj, if_pos hj]; exact ⟨_, rfl⟩
  · rw [if_neg hj, if_neg hj]; exact ⟨_, rfl⟩
theorem call_int1 : CallR X (.type "int") (fun xs H Q => (∃ i, xs = [.int i] ∧ Q (.int i) H) ∨ ∃ k, xs = [.bl k] ∧ Q (.int (if k then 1 else 0)) H) := by
  intro pins s σ H xs us Q I r h
  rcases h with ⟨i, rfl, q⟩ | ⟨k, rfl, q⟩
  · obtain ⟨u, rfl, t, rfl⟩ := vals1 r
    exact call_int_int ⟨.int i, H, I, ⟨_, rfl⟩, q⟩
  · obtain ⟨u, rfl, r1⟩ := vals1 r
    cases r1
    exact call_int_bool ⟨.int (if k then 1 else 0), H, I.tok _, ⟨_, rfl⟩, q⟩
theorem call_bool1 : CallR X (.type "bool") (fun xs H Q => (∃ i, xs = [.int i] ∧ Q (.bl (i != 0)) H) ∨ ∃ k, xs = [.bl k] ∧ Q (.bl k) H) := by
  intro pins s σ H xs us Q I r h
  rcases h with ⟨i, rfl, q⟩ | ⟨k, rfl, q⟩
  · obtain ⟨u, rfl, t, rfl⟩ := vals1 r
    exact call_bool_int ⟨.bl (i != 0), H, I, rfl, q⟩
  · obtain ⟨u, rfl, r1⟩ := vals1 r
    cases r1
    exact call_bool_bool ⟨.bl k, H, I, rfl, q⟩
theorem call_str_int : CallR X (.type "str") (fun xs H Q => ∃ i, xs = [.int i] ∧ i.natAbs.log2 < 1920 ∧ Q (.str (toString i)) H) := by
  intro pins s σ H xs us Q I r h
  obtain ⟨i, rfl, hz, q⟩ := h
  obtain ⟨u, rfl, t, rfl⟩ := vals1 r
  exact PySem.P.str_of_int hz ⟨.str _, H, I.tok _, ⟨_, rfl⟩, q⟩
theorem call_ord : CallR X (.builtin "ord") (fun xs H Q => ∃ x, xs = [.str x] ∧ x.length = 1 ∧ Q (.int (x.cps.getD 0 0 : Nat)) H) := by
  intro pins s σ H xs us Q I r h
  obtain ⟨x, rfl, hz, q⟩ := h
  obtain ⟨u, rfl, t, rfl⟩ := vals1 r
  exact ord_of_one hz ⟨.int _, H, I.tok _, ⟨_, rfl⟩, q⟩
theorem call_chr : CallR X (.builtin "chr") (fun xs H Q => ∃ i, xs = [.int i] ∧ 0 ≤ i ∧ i ≤ 1114111 ∧ Q (.str ⟨#[i.toNat]⟩) H) := by
  intro pins s σ H xs us Q I r h
  obtain ⟨i, rfl, h0, h1, q⟩ := h
  obtain ⟨u, rfl, t, rfl⟩ := vals1 r
  exact chr_of_range h0 h1 ⟨.str _, H, I.tok _, ⟨_, rfl⟩, q⟩
/-- len of a str, a bytes, a list, a tuple -/
def LenV (K : PySem.W.Frag) (x : V) (H : Hp) (n : Nat) : Prop :=
  match x with
  | .str y => y.length ≤ sizeLine ∧ n = y.length
  | .byt y => y.size ≤ sizeLine ∧ n = y.size
  | .ref p => (∃ xs, SqL K H p xs ∧ n = xs.length) ∨ ∃ xs, SqT K H p xs ∧ n = xs.length
  | _ => False
theorem call_len : CallR X (.builtin "len") (fun xs H Q => ∃ x n, xs = [x] ∧ LenV X.K x H n ∧ Q (.int n) H) := by
  intro pins s σ H xs us Q I r h
  obtain ⟨x, n, rfl, e, q⟩ := h
  obtain ⟨u, rfl, rx⟩ := vals1 r
  have hl := line63
  have hs : sizeLine = 16777216 := sizeLine_eq
  cases x with
  | str y =>
    obtain ⟨t, rfl⟩ := rx
    obtain ⟨hy, e'⟩ : y.length ≤ sizeLine ∧ n = y.length := e
    subst e'
    exact len_str (by omega) ⟨.int _, H, I.tok _, ⟨_, rfl⟩, q⟩
  | byt y =>
    obtain ⟨t, rfl⟩ := rx
    obtain ⟨hy, e'⟩ : y.size ≤ sizeLine ∧ n = y.size := e
    subst e'
    exact PySem.W.len_bytes (by omega) ⟨.int _, H, I.tok _, ⟨_, rfl⟩, q⟩
  | ref p =>
    cases rx
    have e' : (∃ xs, SqL X.K H p xs ∧ n = xs.length) ∨ ∃ xs, SqT X.K H p xs ∧ n = xs.length := e
    rcases e' with ⟨xs, hx, e'⟩ | ⟨xs, hx, e'⟩
    · subst e'
      obtain ⟨its, r', pl, hz⟩ := I.list hx
      have hlen := r'.length
      exact Calls.call_len_list pl.isList (by simp only [List.size_toArray]; omega) ⟨.int xs.length, H, I.tok _, ⟨_, by simp only [List.size_toArray]; rw [hlen]⟩, q⟩
    · subst e'
      obtain ⟨its, r', pl, hz⟩ := I.tuple hx
      have hlen := r'.length
      exact len_tuple pl (by simp only [List.size_toArray]; omega) ⟨.int xs.length, H, I.tok _, ⟨_, by simp only [List.size_toArray]; rw [hlen]⟩, q⟩
  | _ => exact (show False from e).elim
/-- divmod: a new tuple -/
theorem call_divmod : CallR X (.builtin "divmod") (fun xs H Q => ∃ i j, xs = [.int i, .int j] ∧ CDiv i j ∧ ∀ p, H p = none → Q (.ref p) (upd H p (.tup [.int (i / j), .int (i % j)]))) := by
  intro pins s σ H xs us Q I r h
  obtain ⟨i, j, rfl, ⟨h1, h2⟩, q⟩ := h
  obtain ⟨u, w', rfl, ⟨t, rfl⟩, ⟨t', rfl⟩⟩ := vals2 r
  refine divmod_int (by omega) ?_ (.inl (PyProof.noPylong_small (by omega)))
  rw [Int.fdiv_eq_ediv_of_nonneg i (by omega), Int.fmod_eq_emod_of_nonneg i (by omega)]
  have hn : H s.heap.objs.size = none := I.hok.fresh (Nat.le_refl _)
  refine ⟨.ref s.heap.objs.size, _, ?_, rfl, q _ hn⟩
  refine I.laid (fun b o e => Heap.get?_push_of_some _ e) (Nat.le_refl _) ⟨by simp only [List.length_cons, List.length_nil]; rw [sizeLine_eq]; decide, [.int (i / j) s.toks, .int (i % j) (s.toks + 1)], .cons ⟨_, rfl⟩ (.cons ⟨_, rfl⟩ .nil), ?_⟩
  exact ⟨_, Heap.get?_push_size s.heap rfl, rfl, 0, rfl⟩
end
end L2

namespace L2
open PySem PySem.Spec PyProof.Rows

/-! ### an instance, its attributes a map -/
structure ObjM (h : Heap) (x dx C : Addr) (mA : Str → Option Value) : Prop where
  obj : h.get? x = some (PySem.W.instObj C dx)
  ns : h.Ns1 dx mA
  ne : dx ≠ x

theorem lookIn_ns {h : Heap} {dx : Addr} {mA : Str → Option Value} (n : h.Ns1 dx mA) : ∃ od, h.get? dx = some od ∧ ∀ name, PySem.W.lookIn name od = some (mA name) := by
  obtain ⟨o, es, ep, ho, hd, hk, _, hm⟩ := n
  refine ⟨o, ho, fun name => ?_⟩
  have e := hm name
  unfold nsFind findBy at e
  rw [← Array.find?_toList] at e
  unfold PySem.W.lookIn
  rw [hd]
  dsimp only
  split
  · rename_i y q
    rw [q] at e
    exact congrArg some e
  · rename_i q
    rw [q] at e
    have a : es.toList.any (·.refKey) = false := by
      rw [List.any_eq_false]
      intro y hy
      obtain ⟨z, t, hkey⟩ := hk y (Array.mem_toList_iff.mp hy)
      simp [DictEntry.refKey, hkey]
    have a' : ¬ es.toList.any (·.refKey) = true := by rw [a]; exact Bool.false_ne_true
    rw [if_neg a']
    exact congrArg some e

theorem ObjM.look {h : Heap} {x dx C : Addr} {mA : Str → Option Value} (I : ObjM h x dx C mA) : ∃ od, PySem.W.InstAt h x (PySem.W.instObj C dx) C (some od) ∧ ∀ name, PySem.W.lookIn name od = some (mA name) :=
  let ⟨od, ho, hl⟩ := lookIn_ns I.ns
  ⟨od, ⟨I.obj, rfl, rfl, ho⟩, hl⟩

section
variable {prog : Program} {w : World} {A : Around} {E : Value → Shared → Prop} {s : Shared} {K : PySem.W.Frag} {x dx C f : Addr} {mA : Str → Option Value} {name : Str} {v : Value}

theorem get_map {expr : Bool} {Q : Value → Shared → Prop} (X : K.In s.heap) (I : ObjM s.heap x dx C mA) (hg : PySem.W.plainGet K C name = true) (hh : PySem.W.hasDictIn K C = true)
    (ha : PySem.W.findIn K (.ref C) name = some none) (hv : mA name = some v) (hv' : PySem.W.handedIn v = true) (h : Q v { s with toks := s.toks + 1 }) :
    wpAny (model prog w) A (getAttr (.ref x) name expr) Q E s := by
  obtain ⟨od, J, hl⟩ := I.look
  exact PySem.W.get_value X J (PySem.W.plainGet_of hg).1 (PySem.W.findObj_own hh ha rfl (by rw [hl, hv])) hv' h

theorem get_const {expr : Bool} {a : Value} {Q : Value → Shared → Prop} (X : K.In s.heap) (I : ObjM s.heap x dx C mA) (hg : PySem.W.plainGet K C name = true) (hh : PySem.W.hasDictIn K C = true)
    (ha : PySem.W.findIn K (.ref C) name = some (some a)) (hn : PySem.W.specialIn K a "__get__" = some none) (hc : PySem.W.copiedNames.contains name = false) (hv : mA name = none) (hv' : PySem.W.handedIn a = true)
    (h : Q a { s with toks := s.toks + 1 }) : wpAny (model prog w) A (getAttr (.ref x) name expr) Q E s := by
  obtain ⟨od, J, hl⟩ := I.look
  exact PySem.W.get_value X J (PySem.W.plainGet_of hg).1 (PySem.W.findObj_cls hh ha hn hv' hc (by rw [hl, hv])) hv' h

theorem get_meth {pl : Sem Bool} {Q : Value × List Value → Shared → Prop} (X : K.In s.heap) (I : ObjM s.heap x dx C mA) (hg : PySem.W.plainGet K C name = true)
    (hf : PySem.W.findIn K (.ref C) name = some (some (.ref f))) (ht : PySem.W.isFn K (.ref f) = true) (hv : mA name = none) (h : Q (.ref f, [.ref x]) s) :
    wpAny (model prog w) A (getMethod (.ref x) name pl) Q E s := by
  obtain ⟨od, J, hl⟩ := I.look
  exact PySem.W.method_fn X J (PySem.W.plainGet_of hg).1 (PySem.W.plainGet_of hg).2 hf (beq_iff_eq.mp ht) (by show (PySem.W.lookIn name od).map (·.isSome) = some false; rw [hl, hv]; rfl) h

theorem set_map {ns : List Str} {Q : Unit → Shared → Prop} (X : K.In s.heap) (I : ObjM s.heap x dx C mA)
    (hs : PySem.W.findIn K (.ref C) "__setattr__" = some (some (.builtin "object.__setattr__"))) (hp : PySem.W.plainOver K C = true) (ht : PySem.W.takerIn K C name = some none) (hh : PySem.W.hasDictIn K C = true)
    (hw : PySem.Within mA ns) (hsz : ns.length ≤ sizeLine)
    (h : ∀ h', ObjM h' x dx C (fun y => if y = name then some v else mA y) → Heap.SameBut dx s.heap h' → Q () { s with heap := h', toks := s.toks + 2 }) :
    wpAny (model prog w) A (setAttr (.ref x) name v) Q E s := by
  obtain ⟨od, J, hl⟩ := I.look
  refine PySem.W.set_plain X J hs (PySem.W.osa_open (s := { s with toks := s.toks + 1 }) (r := none) X J hp ht fun b => ?_)
  obtain ⟨cd, hc, hd'⟩ := PySem.W.any_some hh
  have hx : s.heap.get? x = some ⟨.ref C, some dx, .plain, #[]⟩ := I.obj
  refine wpAny_bind (wpAny_pure (wpAny_bind (wpAny_bind (wpAny_loadPart hx (wpAny_bind (PySem.W.Looks.here (s := { s with toks := s.toks + 1 }) (PySem.W.looks_clsIn X hc) ?_))))))
  rw [hd']
  refine wpAny_pure (a := some dx) (wpAny_bind (wpAny_pure (wpAny_bind ?_)))
  refine wpAny_nsSet1 (s := { s with toks := s.toks + 1 }) I.ns fun h' hn2 hs2 => ?_
  obtain ⟨oD, esD, epD, hoD, hdD, hcD⟩ := hn2.count (PySem.Within.cons name v hw)
  refine wpAny_bind (wpAny_lookBehind hoD (by rw [hdD]; exact pastItsLine_dict (Nat.le_trans hcD (by rw [List.length_cons]; omega))) ?_)
  exact wpAny_pure (h _ ⟨(hs2.2 _ (Ne.symm I.ne)).trans I.obj, hn2, I.ne⟩ hs2)

/-- C(..): the dict at the heap's end, the instance behind it; then its __init__ -/
theorem make_map {R : Result → Shared → Prop} {vs : List Value} {kw : List (Str × Value)} (X : K.In s.heap) (hm : PySem.W.makesIn K C = true)
    (hi : PySem.W.findIn K (.ref C) "__init__" = some (some (.ref f))) (hf : PySem.W.typeIn K (.ref f) = some (.type "function"))
    (h : codeAny (model prog w) (A.under (.builtin "type.__call__" ⟨.ref C :: vs, kw⟩)) (.call (.ref f) ⟨.ref (s.heap.objs.size + 1) :: vs, kw⟩) (PySem.W.InitBack (s.heap.objs.size + 1) R)
      { s with heap := (s.heap.push PySem.W.emptyDict).push (PySem.W.instObj C s.heap.objs.size) }) :
    codeAny (model prog w) A (.call (.ref C) ⟨vs, kw⟩) R s := by
  obtain ⟨hh, g, d, t, os⟩ := s
  exact PySem.W.make_core (PySem.W.makes_of X hm) (PySem.W.looks_findIn X hi) (fun self => PySem.W.bind_fn X self hf) (.inl rfl) h
/-- C() where there is no __init__ but object's -/
theorem make_map0 {R : Result → Shared → Prop} (X : K.In s.heap) (hm : PySem.W.makesIn K C = true)
    (hi : PySem.W.findIn K (.ref C) "__init__" = some (some (.builtin "object.__init__")))
    (hb : ∀ self, PySem.W.Looks (model prog w) s.heap (bindSpecial (.builtin "object.__init__") self) (.builtin "object.__init__", [self]))
    (h : codeAny (model prog w) (A.under (.builtin "type.__call__" ⟨[.ref C], []⟩)) (.call (.builtin "object.__init__") ⟨[.ref (s.heap.objs.size + 1)], []⟩) (PySem.W.InitBack (s.heap.objs.size + 1) R)
      { s with heap := (s.heap.push PySem.W.emptyDict).push (PySem.W.instObj C s.heap.objs.size) }) :
    codeAny (model prog w) A (.call (.ref C) ⟨[], []⟩) R s := by
  obtain ⟨hh, g, d, t, os⟩ := s
  exact PySem.W.make_core (PySem.W.makes_of X hm) (PySem.W.looks_findIn X hi) hb (.inr ⟨rfl, rfl⟩) h
end

/-! ### the attributes as a list of pairs -/
def putF (f : Str) (v : V) : List (Str × V) → List (Str × V)
  | [] => [(f, v)]
  | (g, x) :: r => if g = f then (g, v) :: r else (g, x) :: putF f v r
theorem lookup_putF (f g : Str) (v : V) : ∀ fs : List (Str × V), (putF f v fs).lookup g = if g = f then some v else fs.lookup g
  | [] => by
    show List.lookup g [(f, v)] = _
    by_cases h : g = f
    · have hb : (g == f) = true := beq_iff_eq.mpr h
      simp only [List.lookup, hb, if_pos h]
    · have hb : (g == f) = false := beq_eq_false_iff_ne.mpr h
      simp only [List.lookup, hb, if_neg h]
  | (k, x) :: r => by
    have ih := lookup_putF f g v r
    rw [show putF f v ((k, x) :: r) = (if k = f then (k, v) :: r else (k, x) :: putF f v r) from rfl]
    by_cases hk : k = f
    · rw [if_pos hk]
      by_cases h : g = k
      · have hb : (g == k) = true := beq_iff_eq.mpr h
        simp only [List.lookup, hb, if_pos (h.trans hk)]
      · have hb : (g == k) = false := beq_eq_false_iff_ne.mpr h
        simp only [List.lookup, hb, if_neg (fun e : g = f => h (e.trans hk.symm))]
    · rw [if_neg hk]
      by_cases h : g = k
      · have hb : (g == k) = true := beq_iff_eq.mpr h
        simp only [List.lookup, hb, if_neg (fun e : g = f => hk (h.symm.trans e))]
      · have hb : (g == k) = false := beq_eq_false_iff_ne.mpr h
        simp only [List.lookup, hb]
        exact ih
theorem keys_putF (f : Str) (v : V) : ∀ fs : List (Str × V), f ∈ (putF f v fs).map (·.1) ∧ ∀ g, g ∈ fs.map (·.1) → g ∈ (putF f v fs).map (·.1)
  | [] => ⟨by simp [putF], fun g h => by simp at h⟩
  | (k, x) :: r => by
    obtain ⟨i1, i2⟩ := keys_putF f v r
    rw [show putF f v ((k, x) :: r) = (if k = f then (k, v) :: r else (k, x) :: putF f v r) from rfl]
    by_cases hk : k = f
    · rw [if_pos hk]
      subst hk
      exact ⟨by simp, fun g h => by simpa using h⟩
    · rw [if_neg hk]
      refine ⟨?_, fun g h => ?_⟩
      · rw [List.map_cons]
        exact List.mem_cons_of_mem _ i1
      · rw [List.map_cons] at h ⊢
        rcases List.mem_cons.mp h with e | e
        · exact List.mem_cons.mpr (.inl e)
        · exact List.mem_cons_of_mem _ (i2 g e)
theorem length_putF (f : Str) (v : V) : ∀ fs : List (Str × V), (putF f v fs).length ≤ fs.length + 1
  | [] => by simp [putF]
  | (k, x) :: r => by
    have ih := length_putF f v r
    rw [show putF f v ((k, x) :: r) = (if k = f then (k, v) :: r else (k, x) :: putF f v r) from rfl]
    by_cases hk : k = f
    · rw [if_pos hk, List.length_cons, List.length_cons]; omega
    · rw [if_neg hk, List.length_cons, List.length_cons]; omega

theorem RelO.some_of {v : V} {o : Option Value} (r : RelO (some v) o) : ∃ u, o = some u ∧ RelV v u := by
  cases o with
  | none => exact (show False from r).elim
  | some u => exact ⟨u, rfl, r⟩
theorem RelO.none_of {o : Option Value} (r : RelO none o) : o = none := by
  cases o with
  | none => rfl
  | some u => exact (show False from r).elim
theorem handed_of {v : V} {u : Value} (r : RelV v u) : PySem.W.handedIn u = true := by
  cases v with
  | non => cases (show u = Value.none from r); rfl
  | bl b => cases (show u = Value.bool b from r); rfl
  | int i => obtain ⟨t, e⟩ := (show ∃ t, u = Value.int i t from r); cases e; rfl
  | str x => obtain ⟨t, e⟩ := (show ∃ t, u = Value.str x t from r); cases e; rfl
  | byt b => obtain ⟨t, e⟩ := (show ∃ t, u = Value.bytes b t from r); cases e; rfl
  | flt b => obtain ⟨t, e⟩ := (show ∃ t, u = Value.float b t from r); cases e; rfl
  | ref a => cases (show u = Value.ref a from r); rfl
  | ty n => cases (show u = Value.type n from r); rfl

section
variable {P : Program} {w : World} {H H' : Hp} {h h' : Heap} {a C dx : Addr} {fs fs' : List (Str × V)}
theorem ins_get (hok : HOk P w H h) (e : H a = some (.ins C dx fs)) : ∃ mA, ObjM h a dx C mA ∧ (∀ f, RelO (fs.lookup f) (mA f)) ∧ PySem.Within mA (fs.map (·.1)) ∧ fs.length ≤ 1000 ∧ H dx = some (.own a) := by
  obtain ⟨d, z, ne, ob, mA, n, r, q⟩ := (show ObjOk P w H h a (.ins C dx fs) from hok a _ e)
  exact ⟨mA, ⟨ob, n, ne⟩, r, q, z, d⟩
end

/-! ### what of the text a class must have -/
structure Cls (K : PySem.W.Frag) (C : Addr) : Prop where
  pg : PySem.W.plainGet K C Str.empty = true
  hd : PySem.W.hasDictIn K C = true
  po : PySem.W.plainOver K C = true
  sa : PySem.W.findIn K (.ref C) "__setattr__" = some (some (.builtin "object.__setattr__"))
theorem Cls.get {K : PySem.W.Frag} {C : Addr} (c : Cls K C) (f : Str) : PySem.W.plainGet K C f = true := c.pg
/-- no class of it has the name -/
def NoAttr (K : PySem.W.Frag) (C : Addr) (f : Str) : Prop := PySem.W.findIn K (.ref C) f = some none
theorem NoAttr.taker {K : PySem.W.Frag} {C : Addr} {f : Str} (n : NoAttr K C f) : PySem.W.takerIn K C f = some none := by
  unfold PySem.W.takerIn
  rw [show PySem.W.findIn K (.ref C) f = some none from n]
  rfl
/-- a constant of the class -/
structure Con (K : PySem.W.Frag) (C : Addr) (f : Str) (v : V) (u : Value) : Prop where
  at_ : PySem.W.findIn K (.ref C) f = some (some u)
  rel : RelV v u
  get : PySem.W.specialIn K u "__get__" = some none
  cp : PySem.W.copiedNames.contains f = false
/-- a method: a plain def of the class or of one above it -/
structure Meth (K : PySem.W.Frag) (C : Addr) (m : Str) (f : Addr) : Prop where
  at_ : PySem.W.findIn K (.ref C) m = some (some (.ref f))
  fn : PySem.W.isFn K (.ref f) = true
  kp : PySem.W.keepIn K (.ref f) = true

section
variable {X : Cx} {pins : List (Addr × Obj)} {σ : St} {H : Hp} {s : Shared} {a C dx : Addr} {fs : List (Str × V)} {f : Str} {v : V} {A : Around} {E : Value → Shared → Prop}

theorem getattr_ok {b : Bool} {Q : Value → Shared → Prop} (I : Inv X pins σ H s) (e : H a = some (.ins C dx fs)) (c : Cls X.K C) (n : NoAttr X.K C f) (l : fs.lookup f = some v)
    (h : ∀ u s', Inv X pins σ H s' → RelV v u → Q u s') : wpAny (model X.prog X.w) A (getAttr (.ref a) f b) Q E s := by
  obtain ⟨mA, O, r, _, _, _⟩ := ins_get I.hok e
  obtain ⟨u, hu, ru⟩ := RelO.some_of (v := v) (o := mA f) (by rw [← l]; exact r f)
  exact get_map I.kIn O (c.get f) c.hd n hu (handed_of ru) (h u _ (I.tok _) ru)

theorem getcon_ok {b : Bool} {u : Value} {Q : Value → Shared → Prop} (I : Inv X pins σ H s) (e : H a = some (.ins C dx fs)) (c : Cls X.K C) (k : Con X.K C f v u) (l : fs.lookup f = none)
    (h : ∀ s', Inv X pins σ H s' → Q u s') : wpAny (model X.prog X.w) A (getAttr (.ref a) f b) Q E s := by
  obtain ⟨mA, O, r, _, _, _⟩ := ins_get I.hok e
  have hn : mA f = none := RelO.none_of (by rw [← l]; exact r f)
  exact get_const I.kIn O (c.get f) c.hd k.at_ k.get k.cp hn (handed_of k.rel) (h _ (I.tok _))

theorem getmeth_ok {m : Str} {g : Addr} {pl : Sem Bool} {Q : Value × List Value → Shared → Prop} (I : Inv X pins σ H s) (e : H a = some (.ins C dx fs)) (c : Cls X.K C) (k : Meth X.K C m g) (l : fs.lookup m = none)
    (h : Q (.ref g, [.ref a]) s) : wpAny (model X.prog X.w) A (getMethod (.ref a) m pl) Q E s := by
  obtain ⟨mA, O, r, _, _, _⟩ := ins_get I.hok e
  have hn : mA m = none := RelO.none_of (by rw [← l]; exact r m)
  exact get_meth I.kIn O (c.get m) k.at_ k.fn hn h

theorem setattr_ok {y : V} {u : Value} {Q : Unit → Shared → Prop} (I : Inv X pins σ H s) (e : H a = some (.ins C dx fs)) (c : Cls X.K C) (n : NoAttr X.K C f) (hl : fs.length < 1000) (ry : RelV y u)
    (h : ∀ s', Inv X pins σ (upd H a (.ins C dx (putF f y fs))) s' → Q () s') : wpAny (model X.prog X.w) A (setAttr (.ref a) f u) Q E s := by
  obtain ⟨mA, O, r, wi, _, ho⟩ := ins_get I.hok e
  have hz : (fs.map (·.1)).length ≤ sizeLine := by rw [List.length_map, sizeLine_eq]; omega
  refine set_map I.kIn O c.sa c.po n.taker c.hd wi hz fun h' O' sb => h _ ?_
  have hd : ∃ o, h'.get? dx = some o := let ⟨o, _, _, e', _⟩ := O'.ns; ⟨o, e'⟩
  refine I.write (x := a) (e := dx) (by rw [e]; exact True.intro) (.inr ho) (fun b q hb z => (sb.2 b hb).trans z) hd ?_
  refine ⟨by rw [upd_ne O.ne]; exact ho, ?_, O.ne, O'.obj, _, O'.ns, fun g => ?_, fun g hg => ?_⟩
  · have := length_putF f y fs; omega
  · show RelO ((putF f y fs).lookup g) (if g = f then some u else mA g)
    rw [lookup_putF]
    by_cases q : g = f
    · rw [if_pos q, if_pos q]; exact ry
    · rw [if_neg q, if_neg q]; exact r g
  · by_cases q : g = f
    · rw [q]; exact (keys_putF f y fs).1
    · refine (keys_putF f y fs).2 g (wi g fun z => hg ?_)
      show (if g = f then some u else mA g) = none
      rw [if_neg q]; exact z

/-- a new instance, tracked, without attributes -/
theorem Inv.made (I : Inv X pins σ H s) : Inv X pins σ (upd (upd H s.heap.objs.size (.own (s.heap.objs.size + 1))) (s.heap.objs.size + 1) (.ins C s.heap.objs.size []))
    { s with heap := (s.heap.push PySem.W.emptyDict).push (PySem.W.instObj C s.heap.objs.size) } := by
  have e1 : (s.heap.push PySem.W.emptyDict).get? s.heap.objs.size = some PySem.W.emptyDict := Heap.get?_push_size s.heap rfl
  have e2 : ((s.heap.push PySem.W.emptyDict).push (PySem.W.instObj C s.heap.objs.size)).get? (s.heap.objs.size + 1) = some (PySem.W.instObj C s.heap.objs.size) := by
    have := Heap.get?_push_size (s.heap.push PySem.W.emptyDict) (o := PySem.W.instObj C s.heap.objs.size) rfl
    rwa [Heap.size_push] at this
  have e3 : (s.heap.push PySem.W.emptyDict).Ns s.heap.objs.size (fun _ => none) := ⟨PySem.W.emptyDict, #[], _, e1, rfl, (fun e he => absurd he (by simp)), fun _ => rfl⟩
  have I1 := I.laid (a := s.heap.objs.size) (o := .own (s.heap.objs.size + 1)) (h' := s.heap.push PySem.W.emptyDict) (t' := s.toks) (fun b u q => Heap.get?_push_of_some _ q) (Nat.le_refl _) ⟨_, e1⟩
  refine I1.laid (a := s.heap.objs.size + 1) (o := .ins C s.heap.objs.size []) (t' := s.toks) (fun b u q => Heap.get?_push_of_some _ q) (Nat.le_of_eq (Heap.size_push _ _)) ?_
  have ne : s.heap.objs.size ≠ s.heap.objs.size + 1 := Nat.ne_of_lt (Nat.lt_succ_self _)
  refine ⟨by rw [upd_ne ne, upd_same], Nat.zero_le _, ne, e2, fun _ => none, (Heap.Ns1.of_empty e3).at fun o q => Heap.get?_push_of_some _ q, fun _ => True.intro, fun y hy => absurd rfl hy⟩

/-- e.f where nothing but the object is asked: through attributeBase (super) and the last hold -/
theorem attr_of {prog : Program} {w : World} {env : Env} {e : Expr} {f : Str} {pos : Pos} {s : Shared} {Q : Value → Shared → Prop} (hb : attributeBase e f env (eval e env) = eval e env)
    (h : wpAny (model prog w) A (eval e env) (fun o s₁ => wpAny (model prog w) A (getAttr o f true) Q E s₁) E s) : wpAny (model prog w) A (eval (.Attribute e f pos) env) Q E s :=
  Attribute_any_ h (by rw [arm_eval_Attribute, hb])
end

/-! ### readings and rules -/
/-- e.f, an attribute of the instance -/
def tFld (K : PySem.W.Frag) (ta : TE) (f : Str) : TE := fun σ H Q => ta σ H fun x H1 => ∃ a C dx fs v, x = .ref a ∧ H1 a = some (.ins C dx fs) ∧ Cls K C ∧ NoAttr K C f ∧ fs.lookup f = some v ∧ Q v H1
/-- e.f, a constant of the class -/
def tCon (K : PySem.W.Frag) (ta : TE) (f : Str) : TE := fun σ H Q => ta σ H fun x H1 => ∃ a C dx fs v u, x = .ref a ∧ H1 a = some (.ins C dx fs) ∧ Cls K C ∧ Con K C f v u ∧ fs.lookup f = none ∧ Q v H1
/-- e.f = value -/
def sFld (K : PySem.W.Frag) (ta tv : TE) (f : Str) : TS := fun D σ H => tv σ H fun y H1 => ta σ H1 fun x H2 => ∃ a C dx fs, x = .ref a ∧ H2 a = some (.ins C dx fs) ∧ Cls K C ∧ NoAttr K C f ∧ fs.length < 1000 ∧
  D.nx σ (upd H2 a (.ins C dx (putF f y fs)))
/-- an augmented operator on two values -/
def InOp (X : Cx) (op : Operator) (rd : V → V → Hp → VK → Prop) : Prop :=
  ∀ (pins : List (Addr × Obj)) (s : Shared) (σ : St) (H : Hp) (x y : V) (u v : Value) (Q : VK), Inv X pins σ H s → RelV x u → RelV y v → rd x y H Q → wpAny (model X.prog X.w) X.A (inplaceOp op u v) (EP X pins σ Q) X.xe s
/-- e.f op= value -/
def sFldAug (K : PySem.W.Frag) (ta tv : TE) (rd : V → V → Hp → VK → Prop) (f : Str) : TS := fun D σ H => ta σ H fun x H1 => ∃ a C dx fs v, x = .ref a ∧ H1 a = some (.ins C dx fs) ∧ Cls K C ∧ NoAttr K C f ∧ fs.lookup f = some v ∧
  tv σ H1 fun y H2 => rd v y H2 fun z H3 => ∃ dx' fs', H3 a = some (.ins C dx' fs') ∧ fs'.length < 1000 ∧ D.nx σ (upd H3 a (.ins C dx' (putF f z fs')))

section
variable {X : Cx} {o e value : Expr} {f : Str} {pos pos' tpos : Pos} {ta tv : TE}
theorem pe_fld (he : PE X e ta) (hb : attributeBase e f X.env (eval e X.env) = eval e X.env) : PE X (.Attribute e f pos) (tFld X.K ta f) := by
  refine ⟨?_⟩
  intro pins s σ H Q I h
  refine attr_of hb (thn (he pins s σ H _ I h) fun u s1 ⟨x, H1, I1, rx, a, C, dx, fs, v, ex, ea, c, n, l, q⟩ => ?_)
  subst ex
  obtain rfl : u = Value.ref a := rx
  exact getattr_ok I1 ea c n l fun u' s2 I2 ru => ⟨v, H1, I2, ru, q⟩
theorem pe_con (he : PE X e ta) (hb : attributeBase e f X.env (eval e X.env) = eval e X.env) : PE X (.Attribute e f pos) (tCon X.K ta f) := by
  refine ⟨?_⟩
  intro pins s σ H Q I h
  refine attr_of hb (thn (he pins s σ H _ I h) fun u s1 ⟨x, H1, I1, rx, a, C, dx, fs, v, u0, ex, ea, c, k, l, q⟩ => ?_)
  subst ex
  obtain rfl : u = Value.ref a := rx
  exact getcon_ok I1 ea c k l fun s2 I2 => ⟨v, H1, I2, k.rel, q⟩
theorem ps_fld (ha : PE X o ta) (hv : PE X value tv) (hs : swapsWith value (some (.Attribute o f pos')) pos.line X.env = pure false) : PS X (.Assign [.Attribute o f pos'] value pos) (sFld X.K ta tv f) := by
  refine ⟨?_⟩
  intro pins s σ H D I h
  refine plainObj_wpAny_Assign_Attribute (thn (hv pins s σ H _ I h) fun u s1 ⟨y, H1, I1, ry, q⟩ => thn (ha pins s1 σ H1 _ I1 q) fun ov s2 ⟨x, H2, I2, rx, a, C, dx, fs, ex, ea, c, n, l, q2⟩ => ?_) hs
  subst ex
  obtain rfl : ov = Value.ref a := rx
  exact setattr_ok I2 ea c n l ry fun s3 I3 => ⟨σ, _, I3, q2⟩
theorem ps_fldaug {op : Operator} {rd : V → V → Hp → VK → Prop} (ha : PE X o ta) (hv : PE X value tv) (hop : InOp X op rd) : PS X (.AugAssign (.Attribute o f tpos) op value pos) (sFldAug X.K ta tv rd f) := by
  refine ⟨?_⟩
  intro pins s σ H D I h
  refine wpAny_AugAssign_AttributeAny (thn (ha pins s σ H _ I h) fun ov s1 ⟨x, H1, I1, rx, a, C, dx, fs, v, ex, ea, c, n, l, q⟩ => ?_)
  subst ex
  obtain rfl : ov = Value.ref a := rx
  refine getattr_ok I1 ea c n l fun u s2 I2 ru => thn (hv pins s2 σ H1 _ I2 q) fun w3 s3 ⟨y, H2, I3, ry, q3⟩ => thn (hop pins s3 σ H2 v y u w3 _ I3 ru ry q3) fun w4 s4 ⟨z, H3, I4, rz, dx', fs', ea', l', q4⟩ => ?_
  exact setattr_ok I4 ea' c n l' rz fun s5 I5 => ⟨σ, _, I5, q4⟩
def rAdd : V → V → Hp → VK → Prop := fun x y H Q => ∃ i j, x = .int i ∧ y = .int j ∧ Q (.int (i + j)) H
def rSub : V → V → Hp → VK → Prop := fun x y H Q => ∃ i j, x = .int i ∧ y = .int j ∧ Q (.int (i - j)) H
theorem in_add : InOp X .Add rAdd := by
  rintro pins s σ H x y u v Q I rx ry ⟨i, j, rfl, rfl, q⟩
  obtain ⟨t, rfl⟩ := (show ∃ t, u = Value.int i t from rx)
  obtain ⟨t', rfl⟩ := (show ∃ t', v = Value.int j t' from ry)
  exact PyProof.Rows.iadd_int ⟨.int (i + j), H, I.tok _, ⟨_, rfl⟩, q⟩
theorem in_sub : InOp X .Sub rSub := by
  rintro pins s σ H x y u v Q I rx ry ⟨i, j, rfl, rfl, q⟩
  obtain ⟨t, rfl⟩ := (show ∃ t, u = Value.int i t from rx)
  obtain ⟨t', rfl⟩ := (show ∃ t', v = Value.int j t' from ry)
  exact PyProof.Rows.isub_int ⟨.int (i - j), H, I.tok _, ⟨_, rfl⟩, q⟩

/-- what is between an instance and its method: the tree of a method call -/
theorem methcall_of {pl : Sem Bool} {m : Str} {apos : Pos} {args : List Expr} {pins : List (Addr × Obj)} {s : Shared} {σ : St} {H : Hp} {Q : Value → Shared → Prop} {te : TE} (he : PE X e te) (I : Inv X pins σ H s)
    (h : te σ H fun x H1 => ∃ a C dx fs g, x = .ref a ∧ H1 a = some (.ins C dx fs) ∧ Cls X.K C ∧ Meth X.K C m g ∧ fs.lookup m = none ∧
      ∀ s1, Inv X pins σ H1 s1 → wpAny (model X.prog X.w) X.A (callWith pos (.ref g) [.ref a] (backTo pos (starEach args X.env)) (backToKw pos (keywordEach [] X.env))) Q X.xe s1)
    (ht : eval (.Call (.Attribute e m apos) args [] pos) X.env = (do
      let ov ← eval e X.env
      standAt apos.atName
      let (f, first) ← holding [ov] (getMethod ov m pl)
      callWith pos f first (backTo pos (starEach args X.env)) (backToKw pos (keywordEach [] X.env)))) :
    wpAny (model X.prog X.w) X.A (eval (.Call (.Attribute e m apos) args [] pos) X.env) Q X.xe s := by
  refine PySem.W.methodCall_KW (pl := pl) (thn (he pins s σ H _ I h) fun u s1 ⟨x, H1, I1, rx, a, C, dx, fs, g, ex, ea, c, k, l, q⟩ => ?_) ht
  subst ex
  obtain rfl : u = Value.ref a := rx
  exact getmeth_ok I1 ea c k l (q s1 I1)
end

/-! ### isinstance -/
section
variable {X : Cx} {pins : List (Addr × Obj)} {σ : St} {H : Hp} {s : Shared} {A : Around} {E : Value → Shared → Prop} {Q : Value → Shared → Prop} {c : Value} {b : Bool}
/-- the type of a value, as the fragment's deciders take it; for an instance its class -/
inductive TyOf (K : PySem.W.Frag) (H : Hp) : V → Value → Prop where
  | non : TyOf K H .non (.type "NoneType")
  | bl (x : Bool) : TyOf K H (.bl x) (.type "bool")
  | int (i : Int) : TyOf K H (.int i) (.type "int")
  | str (x : Str) : TyOf K H (.str x) (.type "str")
  | flt (x : UInt64) : TyOf K H (.flt x) (.type "float")
  | lst {a : Addr} {xs : List V} (e : H a = some (.lst xs)) : TyOf K H (.ref a) (.type "list")
  | frz {a : Addr} {o : Obj} {xs : List V} (e : H a = some (.frz o (.lst xs))) : TyOf K H (.ref a) (.type "list")
  | tup {a : Addr} {xs : List V} (e : H a = some (.tup xs)) : TyOf K H (.ref a) (.type "tuple")
  | dK {a : Addr} {kvs : List (Key × V)} (e : H a = some (.dK kvs)) : TyOf K H (.ref a) (.type "dict")
  | dT {a : Addr} {kvs : List (List Key × V)} (e : H a = some (.dT kvs)) : TyOf K H (.ref a) (.type "dict")
  | ins {a C dx : Addr} {fs : List (Str × V)} (e : H a = some (.ins C dx fs)) (cl : Cls K C) (ha : PySem.W.findIn K (.ref C) "__class__" = some (some (.builtin "object.__class__")))
      (hn : PySem.W.specialIn K (.builtin "object.__class__") "__get__" = some (some (.builtin "getset_descriptor.__get__"))) (htk : PySem.W.takesIn K (.builtin "object.__class__") = some true)
      (hm : PySem.W.mroIn K C (.type "object") = some true) : TyOf K H (.ref a) (.ref C)
/-- isinstance(x, c) for one class c, a built-in or an own one: kitOne's answer -/
theorem isinst_ok {x : V} {u t : Value} (I : Inv X pins σ H s) (rx : RelV x u) (ty : TyOf X.K H x t) (e : PySem.W.kitOne X.K t c = some b) (h : ∀ tk, Q (.bool b) { s with toks := tk }) :
    wpAny (model X.prog X.w) A (call (.builtin "isinstance") [u, c]) Q E s := by
  cases ty with
  | non => cases (show u = Value.none from rx); exact PySem.W.kia_one PySem.W.kitx_none I.kIn True.intro e (fun z => nomatch z) h
  | bl y => cases (show u = Value.bool y from rx); exact PySem.W.kia_one PySem.W.kitx_bool I.kIn True.intro e (fun z => nomatch z) h
  | int i => obtain ⟨t, q⟩ := (show ∃ t, u = Value.int i t from rx); cases q; exact PySem.W.kia_one PySem.W.kitx_int I.kIn True.intro e (fun z => nomatch z) h
  | str y => obtain ⟨t, q⟩ := (show ∃ t, u = Value.str y t from rx); cases q; exact PySem.W.kia_one PySem.W.kitx_str I.kIn True.intro e (fun z => nomatch z) h
  | flt y => obtain ⟨t, q⟩ := (show ∃ t, u = Value.float y t from rx); cases q; exact PySem.W.kia_one PySem.W.kitx_float I.kIn True.intro e (fun z => nomatch z) h
  | @lst a xs ea =>
    cases (show u = Value.ref a from rx)
    obtain ⟨_, _, n, _, h1⟩ := (show ObjOk X.prog X.w H s.heap a (.lst xs) from I.hok a _ ea)
    exact PySem.W.kia_one PySem.W.kitx_list I.kIn ⟨_, h1, rfl⟩ e (fun z => nomatch z) h
  | @frz a ob xs ea =>
    cases (show u = Value.ref a from rx)
    obtain ⟨_, _, _, n, _, h1⟩ := (show ObjOk X.prog X.w H s.heap a (.frz ob (.lst xs)) from I.hok a _ ea)
    exact PySem.W.kia_one PySem.W.kitx_list I.kIn ⟨_, h1, rfl⟩ e (fun z => nomatch z) h
  | @tup a xs ea =>
    cases (show u = Value.ref a from rx)
    obtain ⟨_, _, _, p⟩ := (show ObjOk X.prog X.w H s.heap a (.tup xs) from I.hok a _ ea)
    obtain ⟨o, h1, h2, _⟩ := p
    exact PySem.W.kia_one PySem.W.kitx_tuple I.kIn ⟨o, h1, h2⟩ e (fun z => nomatch z) h
  | @dK a kvs ea =>
    cases (show u = Value.ref a from rx)
    obtain ⟨_, _, vs, _, p⟩ := (show ObjOk X.prog X.w H s.heap a (.dK kvs) from I.hok a _ ea)
    obtain ⟨o, es, ep, h1, h2, _⟩ := p
    exact PySem.W.kia_one PySem.W.kitx_dict I.kIn ⟨o, h1, h2.1⟩ e (fun z => nomatch z) h
  | @dT a kvs ea =>
    cases (show u = Value.ref a from rx)
    obtain ⟨_, _, xs, _, o, es, ep, h1, h2, _⟩ := (show ObjOk X.prog X.w H s.heap a (.dT kvs) from I.hok a _ ea)
    exact PySem.W.kia_one PySem.W.kitx_dict I.kIn ⟨o, h1, h2.1⟩ e (fun z => nomatch z) h
  | @ins a C dx fs ea cl ha hn htk hm =>
    cases (show u = Value.ref a from rx)
    obtain ⟨mA, O, _⟩ := ins_get I.hok ea
    obtain ⟨od, J, _⟩ := O.look
    exact PySem.W.kia_one (PySem.W.kitx_own (cl.get _) cl.hd ha hn htk hm) I.kIn J e (fun z => nomatch z) h
end
end L2

namespace L2
open PySem PySem.Spec PyProof.Rows

/-! ### room -/
structure Room (k : Nat) (A : Around) : Prop where
  hd : A.handled = none
  dp : A.depth + 3 * k + 5 < recursionLimit
  un : A.units + 16 * k + 200 < cLine
theorem Room.mono {j k : Nat} {A : Around} (r : Room k A) (h : j ≤ k) : Room j A := ⟨r.hd, by have := r.dp; omega, by have := r.un; omega⟩
theorem Room.deeper {k : Nat} {A : Around} (r : Room (k + 1) A) (env : Env) : Room k (A.deeper env) :=
  ⟨r.hd, by have := r.dp; show A.depth + 1 + 3 * k + 5 < _; omega, by have := r.un; show A.units + 3 + 16 * k + 200 < _; omega⟩
theorem Room.in1 {k : Nat} {A : Around} (r : Room (k + 1) A) : Room k A.in1 :=
  ⟨r.hd, by have := r.dp; show A.depth + 3 * k + 5 < _; omega, by have := r.un; show A.units + 1 + 16 * k + 200 < _; omega⟩
theorem make_depth {A : Around} {C : Addr} {us : List Value} {kw : List (Str × Value)} : (A.under (.builtin "type.__call__" ⟨.ref C :: us, kw⟩)).depth = A.depth + 1 := by
  first | rfl | simp [Around.under, Code.weight, Code.isCreation, Code.isGuard, Code.isCaller, Code.frames, Code.isFrame, guardIds]
theorem make_units {A : Around} {C : Addr} {us : List Value} {kw : List (Str × Value)} : (A.under (.builtin "type.__call__" ⟨.ref C :: us, kw⟩)).units = A.units + 1 := by
  first | rfl | simp [Around.under, Code.cUnits, Code.frames, Code.isFrame]
theorem Room.make {k : Nat} {A : Around} (r : Room (k + 1) A) (C : Addr) (us : List Value) (kw : List (Str × Value)) : Room k (A.under (.builtin "type.__call__" ⟨.ref C :: us, kw⟩)) :=
  ⟨r.hd, by have := r.dp; rw [make_depth]; omega, by have := r.un; rw [make_units]; omega⟩
theorem Room.depth {k : Nat} {A : Around} (r : Room k A) : A.depth < recursionLimit := by have := r.dp; omega
theorem Room.units {k : Nat} {A : Around} (r : Room k A) : A.units + 64 < cLine := by have := r.un; omega
theorem Room.units0 {k : Nat} {A : Around} (r : Room k A) : A.units < cLine := by have := r.un; omega

/-! ### argument lists and displays -/
def tNil : TA := fun _ H Q => Q [] H
def tCons (ta : TE) (tr : TA) : TA := fun σ H Q => ta σ H fun x H1 => tr σ H1 fun xs H2 => Q (x :: xs) H2
section
variable {X : Cx} {e : Expr} {es : List Expr} {te : TE} {t : TA} {pos : Pos}
theorem pa_nil : PA X [] tNil := ⟨fun _ _ _ _ H Q I h => Calls.spliced_nil ⟨[], H, I, .nil, h⟩⟩
theorem pa_cons (ha : PE X e te) (hr : PA X es t) (hs : starEach (e :: es) X.env = (false, eval e X.env) :: starEach es X.env := by rfl) : PA X (e :: es) (tCons te t) := by
  refine ⟨?_⟩
  intro pos pins s σ H Q I h
  rw [hs]
  show wpAny _ _ (spliced ((false, eval e X.env) :: backTo pos (starEach es X.env))) _ _ s
  refine Calls.spliced_cons (thn (ha pins s σ H _ I h) fun u s1 ⟨x, H1, I1, r1, q1⟩ => ?_)
  exact thn (hr pos pins s1 σ H1 _ I1 q1) fun us s2 ⟨xs, H2, I2, r2, q2⟩ => ⟨x :: xs, H2, I2, .cons r1 r2, q2⟩

/-- a tuple, a list of written items -/
def tTup (t : TA) : TE := fun σ H Q => t σ H fun xs H1 => xs.length ≤ sizeLine ∧ ∀ p, H1 p = none → Q (.ref p) (upd H1 p (.tup xs))
def tLst (t : TA) : TE := fun σ H Q => t σ H fun xs H1 => xs.length ≤ sizeLine ∧ ∀ p, H1 p = none → Q (.ref p) (upd H1 p (.lst xs))
theorem pe_tup {x1} (h : PA X es t) : PE X (.Tuple es x1 pos) (tTup t) := by
  refine ⟨?_⟩
  intro pins s σ H Q I hq
  refine wpAny_Tuple_spliced (thn (h pos pins s σ H _ I hq) fun us s1 ⟨xs, H1, I1, r, z, q⟩ => ⟨by rw [← r.length]; exact z, ?_⟩)
  have hf : H1 s1.heap.objs.size = none := I1.hok.fresh (Nat.le_refl _)
  refine ⟨.ref s1.heap.objs.size, upd H1 s1.heap.objs.size (.tup xs), I1.laid (t' := s1.toks) (fun b u e => Heap.get?_push_of_some _ e) (Nat.le_refl _) ?_, rfl, q _ hf⟩
  exact ⟨z, us, r, ⟨_, Heap.get?_push_size _ rfl, rfl, _, rfl⟩⟩
theorem pe_lst (h : PA X es t) : PE X (.List es pos) (tLst t) := by
  refine ⟨?_⟩
  intro pins s σ H Q I hq
  refine wpAny_List_spliced (thn (h pos pins s σ H _ I hq) fun us s1 ⟨xs, H1, I1, r, z, q⟩ => ⟨by rw [← r.length]; exact z, ?_⟩)
  have hf : H1 s1.heap.objs.size = none := I1.hok.fresh (Nat.le_refl _)
  refine ⟨.ref s1.heap.objs.size, upd H1 s1.heap.objs.size (.lst xs), I1.laid (t' := s1.toks) (fun b u e => Heap.get?_push_of_some _ e) (Nat.le_refl _) ?_, rfl, q _ hf⟩
  exact ⟨z, us, 0, r, Heap.get?_push_size _ rfl⟩
end

/-! ### what a def promises -/
/-- a def's promise: the bound arguments in the parameters' order, the heap, the wanted end, the wanted exception -/
abbrev Sp := List V → Hp → VK → XK → Prop
/-- how an exception lies behind a call (file 08 gives it): the callers' frames, abstract heap and state ahead of the call, the wish, the exception, the state -/
abbrev CXT := List Env → Hp → Shared → XK → Value → Shared → Prop

/-- the state at a call -/
structure Env0 (P : Program) (w : World) (K : PySem.W.Frag) (mg : Str → Option Value) (base : Heap) (A : Around) (outer : List Env) (s : Shared) (H : Hp) : Prop where
  frames : A.frames = some outer
  mod : Mod K mg base
  bs : ∀ b o, base.get? b = some o → s.heap.get? b = some o ∧ H b = none
  bsz : base.objs.size ≤ s.heap.objs.size
  funs : s.heap.FunFrames base outer
  frf : ∀ b ∈ frs outer, H b = none
  hok : HOk P w H s.heap
  bare : AllBare s.gens
/-- a call's end -/
def CE (outer : List Env) (P : Program) (w : World) (H : Hp) (s : Shared) (Q : VK) (u : Value) (s' : Shared) : Prop :=
  ∃ v H', s'.os = s.os ∧ AllBare s'.gens ∧ Un (frs outer) [] H H' s.heap s'.heap ∧ HOk P w H' s'.heap ∧ RelV v u ∧ Q v H'
def CR (CX : CXT) (outer : List Env) (P : Program) (w : World) (H : Hp) (s : Shared) (Q : VK) (E : XK) (r : Result) (s' : Shared) : Prop :=
  match r with
  | .ok (.ret u) => CE outer P w H s Q u s'
  | .ok _ => False
  | .error e => CX outer H s E e s'
structure FnOk (P : Program) (w : World) (K : PySem.W.Frag) (mg : Str → Option Value) (base : Heap) (CX : CXT) (k : Nat) (f : Addr) (fd : FuncData) (ps : List Str) (sp : Sp) : Prop where
  len : ∀ vs H Q E, sp vs H Q E → vs.length = ps.length
  run : ∀ (A : Around) (outer : List Env) (s : Shared) (H : Hp) (args : Args) (us : List Value) (vs : List V) (Q : VK) (E : XK), Room k A → Env0 P w K mg base A outer s H → BindsTo s fd args (ps.zip us) → Vals vs us → sp vs H Q E →
    codeAny (model P w) A (.call (.ref f) args) (CR CX outer P w H s Q E) s
theorem FnOk.mono {P : Program} {w : World} {K : PySem.W.Frag} {mg : Str → Option Value} {base : Heap} {CX : CXT} {j k : Nat} {f : Addr} {fd : FuncData} {ps : List Str} {sp : Sp} (F : FnOk P w K mg base CX j f fd ps sp) (h : j ≤ k) :
    FnOk P w K mg base CX k f fd ps sp := ⟨F.len, fun A outer s H args us vs Q E hr => F.run A outer s H args us vs Q E (hr.mono h)⟩
/-- a weaker promise -/
theorem FnOk.imp {P : Program} {w : World} {K : PySem.W.Frag} {mg : Str → Option Value} {base : Heap} {CX : CXT} {k : Nat} {f : Addr} {fd : FuncData} {ps : List Str} {sp sp' : Sp} (F : FnOk P w K mg base CX k f fd ps sp)
    (h : ∀ vs H Q E, sp' vs H Q E → sp vs H Q E) : FnOk P w K mg base CX k f fd ps sp' :=
  ⟨fun vs H Q E q => F.len vs H Q E (h _ _ _ _ q), fun A outer s H args us vs Q E hr he hb hv hs => F.run A outer s H args us vs Q E hr he hb hv (h _ _ _ _ hs)⟩

theorem Env0.make {P : Program} {w : World} {K : PySem.W.Frag} {mg : Str → Option Value} {base : Heap} {A : Around} {outer : List Env} {s : Shared} {H : Hp} (e : Env0 P w K mg base A outer s H) (C : Addr) (us : List Value) (kw : List (Str × Value)) :
    Env0 P w K mg base (A.under (.builtin "type.__call__" ⟨.ref C :: us, kw⟩)) outer s H := ⟨by first | exact e.frames | (simpa [Around.under, Code.envs, Code.isFrame, pushEnvs] using e.frames), e.mod, e.bs, e.bsz, e.funs, e.frf, e.hok, e.bare⟩
theorem Env0.in1 {P : Program} {w : World} {K : PySem.W.Frag} {mg : Str → Option Value} {base : Heap} {A : Around} {outer : List Env} {s : Shared} {H : Hp} (e : Env0 P w K mg base A outer s H) :
    Env0 P w K mg base A.in1 outer s H := ⟨e.frames, e.mod, e.bs, e.bsz, e.funs, e.frf, e.hok, e.bare⟩

section
variable {X : Cx} {pins : List (Addr × Obj)} {σ : St} {H : Hp} {s s' : Shared}
/-- from a body: what a callee wants -/
theorem Inv.env0 (I : Inv X pins σ H s) : Env0 X.prog X.w X.K X.mg X.base X.A X.stack s H :=
  ⟨I.ok.frames, I.ok.mod, I.bs, Nat.le_trans I.ok.bsz I.sz, I.stack, I.stkFree, I.hok, I.bare⟩
/-- behind a call -/
theorem Inv.after {Q : VK} {u : Value} (I : Inv X pins σ H s) (h : CE X.stack X.prog X.w H s Q u s') : EP X pins σ Q u s' := by
  obtain ⟨v, H', os, bare, un, hok, r, q⟩ := h
  obtain ⟨hh, g, d, t, os'⟩ := s'
  obtain rfl : os' = s.os := os
  exact ⟨v, H', I.call (h' := hh) (g' := g) (d' := d) (t' := t) (ch := []) un hok bare (fun b z => absurd z (by simp)), r, q⟩
end

/-! ### calls -/
/-- f(..): the written arguments, then the defaults dvs; E: what is wanted of an exception -/
def tCall (sp : Sp) (dvs : List V) (E : XK) (t : TA) : TE := fun σ H Q => t σ H fun vs H1 => sp (vs ++ dvs) H1 Q E
/-- o.m(..) of an instance of the class at C -/
def tMeth (C : Addr) (m : Str) (sp : Sp) (dvs : List V) (E : XK) (ta : TE) (t : TA) : TE := fun σ H Q => ta σ H fun x H1 => ∃ a dx fs, x = .ref a ∧ H1 a = some (.ins C dx fs) ∧ fs.lookup m = none ∧
  t σ H1 fun vs H2 => sp (x :: (vs ++ dvs)) H2 Q E
/-- C(..): a new instance and its dict, then __init__ -/
def tMake (C : Addr) (sp : Sp) (dvs : List V) (E : XK) (t : TA) : TE := fun σ H Q => t σ H fun vs H1 => ∀ x dx, H1 x = none → H1 dx = none → dx ≠ x →
  sp (.ref x :: (vs ++ dvs)) (upd (upd H1 dx (.own x)) x (.ins C dx [])) (fun v H2 => v = .non ∧ Q (.ref x) H2) E

/-- how the parameters are bound: us the positional arguments, kw the keywords' values by name, ds the defaults that fill up -/
def Binds (K : PySem.W.Frag) (fd : FuncData) (ps : List Str) (ds : List Value) : Prop :=
  ∀ (s : Shared) (us : List Value), K.In s.heap → (us ++ ds).length = ps.length → BindsTo s fd ⟨us, []⟩ (ps.zip (us ++ ds))
/-- every parameter is given -/
theorem Binds.all {K : PySem.W.Frag} {fd : FuncData} {ps : List Str} (h : ∀ us : List Value, us.length = ps.length → bindArgs fd ⟨us, []⟩ = pure (ps.zip us)) : Binds K fd ps [] := fun s us _ hl => by
  rw [List.append_nil] at hl ⊢
  exact .of_eq (h us hl)

/-- an exception of a callee reaches what this body wants of exceptions -/
def Passes (CX : CXT) (X : Cx) (E : XK) : Prop := ∀ (pins : List (Addr × Obj)) (σ : St) (H : Hp) (s : Shared) (e : Value) (s' : Shared), Inv X pins σ H s → CX X.stack H s E e s' → X.xe e s'

section
variable {X : Cx} {CX : CXT} {k : Nat} {f C : Addr} {fd : FuncData} {ps : List Str} {sp : Sp} {dvs : List V} {ds : List Value} {E : XK} {x m : Str} {p pos apos : Pos} {e o : Expr} {es : List Expr} {ta : TE} {t : TA}

/-- the callee runs -/
theorem run_fn {pins : List (Addr × Obj)} {σ : St} {H : Hp} {s : Shared} {Q : VK} {us : List Value} {vs : List V} (F : FnOk X.prog X.w X.K X.mg X.base CX k f fd ps sp) (hr : Room k X.A) (hb : Binds X.K fd ps ds) (hd : Vals dvs ds) (hx : Passes CX X E)
    (I : Inv X pins σ H s) (r : Vals vs us) (h : sp (vs ++ dvs) H Q E) : wpAny (model X.prog X.w) X.A (call (.ref f) us) (EP X pins σ Q) X.xe s := by
  have r2 : Vals (vs ++ dvs) (us ++ ds) := r.append hd
  have hl : (us ++ ds).length = ps.length := by rw [← r2.length]; exact F.len _ _ _ _ h
  refine wpAny_call (codeAny_mono (F.run X.A X.stack s H ⟨us, []⟩ (us ++ ds) (vs ++ dvs) Q E hr I.env0 (hb s us I.kIn hl) r2 h) fun r s' hq => ?_)
  cases r with
  | error e => exact hx pins σ H s e s' I hq
  | ok fl =>
    cases fl with
    | ret u => exact I.after hq
    | next => exact False.elim hq
    | brk => exact False.elim hq
    | cont => exact False.elim hq

theorem pe_call (F : FnOk X.prog X.w X.K X.mg X.base CX k f fd ps sp) (hr : Room k X.A) (hg : Gl X x) (hm : X.mg x = some (.ref f)) (hk : PySem.W.keepIn X.K (.ref f) = true) (hb : Binds X.K fd ps ds) (hd : Vals dvs ds) (hx : Passes CX X E)
    (ha : PA X (e :: es) t) (hdb : (x == ("__debug__" : Str)) = false := by decide) (he : starEach (e :: es) X.env = (false, eval e X.env) :: starEach es X.env := by rfl) (hpl : (backTo pos (starEach es X.env)).any (·.1) = false := by rfl) :
    PE X (.Call (.Name x p) (e :: es) [] pos) (tCall sp dvs E t) := by
  refine ⟨?_⟩
  intro pins s σ H Q I h
  refine wpAny_Call_Name_kw (ld_glob I hg hm ?_ hdb)
  refine PySem.W.callWith_K (h₀ := X.base) I.ok.mod.kin hk (thn (ha pos pins s σ H _ I h) fun us s1 ⟨vs, H1, I1, r, q⟩ => ⟨I1.kIn, ?_⟩) he hpl
  exact run_fn F hr hb hd hx I1 r q
theorem pe_call0 (F : FnOk X.prog X.w X.K X.mg X.base CX k f fd ps sp) (hr : Room k X.A) (hg : Gl X x) (hm : X.mg x = some (.ref f)) (hk : PySem.W.keepIn X.K (.ref f) = true) (hb : Binds X.K fd ps ds) (hd : Vals dvs ds) (hx : Passes CX X E)
    (hdb : (x == ("__debug__" : Str)) = false := by decide) : PE X (.Call (.Name x p) [] [] pos) (tCall sp dvs E tNil) := by
  refine ⟨?_⟩
  intro pins s σ H Q I h
  refine wpAny_Call_Name_kw (ld_glob I hg hm ?_ hdb)
  exact PySem.W.callWith_K0 I.kIn hk (run_fn (us := []) F hr hb hd hx I .nil h)

/-- o.m(e, ..) -/
theorem pe_meth {pl : Sem Bool} (he : PE X o ta) (c : Cls X.K C) (hm : Meth X.K C m f) (F : FnOk X.prog X.w X.K X.mg X.base CX k f fd ps sp) (hr : Room k X.A) (hb : Binds X.K fd ps ds) (hd : Vals dvs ds) (hx : Passes CX X E) (ha : PA X (e :: es) t)
    (hst : starEach (e :: es) X.env = (false, eval e X.env) :: starEach es X.env := by rfl) (hpl : (backTo pos (starEach es X.env)).any (·.1) = false := by rfl)
    (ht : eval (.Call (.Attribute o m apos) (e :: es) [] pos) X.env = (do
      let ov ← eval o X.env
      standAt apos.atName
      let (f, first) ← holding [ov] (getMethod ov m pl)
      callWith pos f first (backTo pos (starEach (e :: es) X.env)) (backToKw pos (keywordEach [] X.env))) := by rfl) :
    PE X (.Call (.Attribute o m apos) (e :: es) [] pos) (tMeth C m sp dvs E ta t) := by
  refine ⟨?_⟩
  intro pins s σ H Q I h
  refine PySem.W.methodCall_KW (pl := pl) (thn (he pins s σ H _ I h) fun u s1 ⟨x, H1, I1, rx, a, dx, fs, ex, ea, l, q⟩ => ?_) ht
  subst ex
  obtain rfl : u = Value.ref a := rx
  refine getmeth_ok I1 ea c hm l ?_
  refine PySem.W.callWith_K (first := [.ref a]) (h₀ := X.base) I.ok.mod.kin hm.kp (thn (ha pos pins s1 σ H1 _ I1 q) fun us s2 ⟨vs, H2, I2, r, q2⟩ => ⟨I2.kIn, ?_⟩) hst hpl
  exact run_fn (us := .ref a :: us) (vs := .ref a :: vs) F hr hb hd hx I2 (.cons rfl r) q2
/-- o.m() -/
theorem pe_meth0 {pl : Sem Bool} (he : PE X o ta) (c : Cls X.K C) (hm : Meth X.K C m f) (F : FnOk X.prog X.w X.K X.mg X.base CX k f fd ps sp) (hr : Room k X.A) (hb : Binds X.K fd ps ds) (hd : Vals dvs ds) (hx : Passes CX X E)
    (ht : eval (.Call (.Attribute o m apos) [] [] pos) X.env = (do
      let ov ← eval o X.env
      standAt apos.atName
      let (f, first) ← holding [ov] (getMethod ov m pl)
      callWith pos f first (backTo pos (starEach [] X.env)) (backToKw pos (keywordEach [] X.env))) := by rfl) :
    PE X (.Call (.Attribute o m apos) [] [] pos) (tMeth C m sp dvs E ta tNil) := by
  refine ⟨?_⟩
  intro pins s σ H Q I h
  refine PySem.W.methodCall_KW (pl := pl) (thn (he pins s σ H _ I h) fun u s1 ⟨x, H1, I1, rx, a, dx, fs, ex, ea, l, q⟩ => ?_) ht
  subst ex
  obtain rfl : u = Value.ref a := rx
  refine getmeth_ok I1 ea c hm l ?_
  exact PySem.W.callWith_K0 (first := [.ref a]) I1.kIn hm.kp (run_fn (us := [.ref a]) (vs := [.ref a]) F hr hb hd hx I1 (.cons rfl .nil) q)

/-- what a class must have to be made -/
structure Mk (K : PySem.W.Frag) (C f : Addr) : Prop where
  makes : PySem.W.makesIn K C = true
  init : PySem.W.findIn K (.ref C) "__init__" = some (some (.ref f))
  fn : PySem.W.isFn K (.ref f) = true
  kp : PySem.W.keepIn K (.ref C) = true

theorem run_make {pins : List (Addr × Obj)} {σ : St} {H : Hp} {s : Shared} {Q : VK} {us : List Value} {vs : List V} (M : Mk X.K C f) (F : FnOk X.prog X.w X.K X.mg X.base CX k f fd ps sp) (hr : Room (k + 1) X.A) (hb : Binds X.K fd ps ds) (hd : Vals dvs ds)
    (hx : Passes CX X E) (I : Inv X pins σ H s) (r : Vals vs us)
    (h : ∀ x dx, H x = none → H dx = none → dx ≠ x → sp (.ref x :: (vs ++ dvs)) (upd (upd H dx (.own x)) x (.ins C dx [])) (fun v H2 => v = .non ∧ Q (.ref x) H2) E) :
    wpAny (model X.prog X.w) X.A (call (.ref C) us) (EP X pins σ Q) X.xe s := by
  have hq := h (s.heap.objs.size + 1) s.heap.objs.size (I.hok.fresh (Nat.le_succ _)) (I.hok.fresh (Nat.le_refl _)) (Nat.ne_of_lt (Nat.lt_succ_self _))
  have I2 := Inv.made (C := C) I
  have r2 : Vals (V.ref (s.heap.objs.size + 1) :: (vs ++ dvs)) (Value.ref (s.heap.objs.size + 1) :: (us ++ ds)) := .cons rfl (r.append hd)
  have hl : (Value.ref (s.heap.objs.size + 1) :: us ++ ds).length = ps.length := by
    have e := r2.length
    rw [F.len _ _ _ _ hq] at e
    exact e.symm
  refine wpAny_call (make_map (f := f) I.kIn M.makes M.init (beq_iff_eq.mp M.fn) (codeAny_mono (F.run _ X.stack _ _ ⟨Value.ref (s.heap.objs.size + 1) :: us, []⟩ (Value.ref (s.heap.objs.size + 1) :: (us ++ ds)) _ _ E (hr.make C us [])
    (I2.env0.make C us []) (hb _ (Value.ref (s.heap.objs.size + 1) :: us) I2.kIn hl) r2 hq) fun r s' hq' => ?_))
  cases r with
  | error e => exact hx pins σ _ _ e s' I2 hq'
  | ok fl =>
    cases fl with
    | ret u =>
      obtain ⟨v, H', I3, rv, ev, q3⟩ := I2.after hq'
      subst ev
      exact ⟨rv, ⟨V.ref (s.heap.objs.size + 1), H', I3, rfl, q3⟩⟩
    | next => exact False.elim hq'
    | brk => exact False.elim hq'
    | cont => exact False.elim hq'
theorem pe_make (M : Mk X.K C f) (F : FnOk X.prog X.w X.K X.mg X.base CX k f fd ps sp) (hr : Room (k + 1) X.A) (hg : Gl X x) (hm : X.mg x = some (.ref C)) (hb : Binds X.K fd ps ds) (hd : Vals dvs ds) (hx : Passes CX X E)
    (ha : PA X (e :: es) t) (hdb : (x == ("__debug__" : Str)) = false := by decide) (he : starEach (e :: es) X.env = (false, eval e X.env) :: starEach es X.env := by rfl) (hpl : (backTo pos (starEach es X.env)).any (·.1) = false := by rfl) :
    PE X (.Call (.Name x p) (e :: es) [] pos) (tMake C sp dvs E t) := by
  refine ⟨?_⟩
  intro pins s σ H Q I h
  refine wpAny_Call_Name_kw (ld_glob I hg hm ?_ hdb)
  refine PySem.W.callWith_K (h₀ := X.base) I.ok.mod.kin M.kp (thn (ha pos pins s σ H _ I h) fun us s1 ⟨vs, H1, I1, r, q⟩ => ⟨I1.kIn, ?_⟩) he hpl
  exact run_make M F hr hb hd hx I1 r q
theorem pe_make0 (M : Mk X.K C f) (F : FnOk X.prog X.w X.K X.mg X.base CX k f fd ps sp) (hr : Room (k + 1) X.A) (hg : Gl X x) (hm : X.mg x = some (.ref C)) (hb : Binds X.K fd ps ds) (hd : Vals dvs ds) (hx : Passes CX X E)
    (hdb : (x == ("__debug__" : Str)) = false := by decide) : PE X (.Call (.Name x p) [] [] pos) (tMake C sp dvs E tNil) := by
  refine ⟨?_⟩
  intro pins s σ H Q I h
  refine wpAny_Call_Name_kw (ld_glob I hg hm ?_ hdb)
  exact PySem.W.callWith_K0 I.kIn M.kp (run_make (us := []) M F hr hb hd hx I .nil h)
end

/-! ### keywords -/
/-- the values of the keywords, from the left -/
def PK (X : Cx) (kws : List Keyword) (t : TA) : Prop :=
  ∀ (pos : Pos) (pins : List (Addr × Obj)) (s : Shared) (σ : St) (H : Hp) (Q : List V → Hp → Prop), Inv X pins σ H s → t σ H Q → wpAny (model X.prog X.w) X.A (evalAll ((backToKw pos (keywordEach kws X.env)).map (·.2))) (AP X pins σ Q) X.xe s
section
variable {X : Cx} {CX : CXT} {k : Nat} {f C : Addr} {fd : FuncData} {ps ks : List Str} {sp : Sp} {E : XK} {x m : Str} {p pos apos kpos : Pos} {e o : Expr} {es : List Expr} {kws : List Keyword} {te ta : TE} {t tk : TA} {nm : Option Str}
theorem pk_nil : PK X [] tNil := fun _ _ _ _ H Q I h => wpAny_evalAll_nil ⟨[], H, I, .nil, h⟩
theorem pk_cons (ha : PE X e te) (hr : PK X kws t) : PK X (⟨nm, e, kpos⟩ :: kws) (tCons te t) := by
  intro pos pins s σ H Q I h
  show wpAny _ _ (evalAll ((do let v ← eval e X.env; standAt pos; pure v) :: (backToKw pos (keywordEach kws X.env)).map (·.2))) _ _ s
  refine wpAny_evalAll_cons (wpAny_bind (thn (ha pins s σ H _ I h) fun u s1 ⟨x, H1, I1, r1, q1⟩ => wpAny_bind (wpAny_standAt (wpAny_pure ?_))))
  exact thn (hr pos pins s1 σ H1 _ I1 q1) fun us s2 ⟨xs, H2, I2, r2, q2⟩ => ⟨x :: xs, H2, I2, .cons r1 r2, q2⟩

/-- how a call with keywords binds: g puts the positional values us and the keywords' values ws (names ks) in the parameters' order, defaults among them -/
structure KBinds (K : PySem.W.Frag) (fd : FuncData) (ps ks : List Str) (g : List Value → List Value → List Value) (gV : List V → List V → List V) : Prop where
  to : ∀ (s : Shared) (us ws : List Value), K.In s.heap → (g us ws).length = ps.length → BindsTo s fd ⟨us, ks.zip ws⟩ (ps.zip (g us ws))
  rel : ∀ {vs : List V} {us : List Value} {zs : List V} {ws : List Value}, Vals vs us → Vals zs ws → Vals (gV vs zs) (g us ws)
def tCallK (sp : Sp) (gV : List V → List V → List V) (E : XK) (t tk : TA) : TE := fun σ H Q => t σ H fun vs H1 => tk σ H1 fun zs H2 => sp (gV vs zs) H2 Q E
variable {g : List Value → List Value → List Value} {gV : List V → List V → List V}
theorem run_fnk {pins : List (Addr × Obj)} {σ : St} {H : Hp} {s : Shared} {Q : VK} {us ws : List Value} {vs zs : List V} (F : FnOk X.prog X.w X.K X.mg X.base CX k f fd ps sp) (hr : Room k X.A) (hb : KBinds X.K fd ps ks g gV) (hx : Passes CX X E)
    (I : Inv X pins σ H s) (r : Vals vs us) (rz : Vals zs ws) (h : sp (gV vs zs) H Q E) : wpAny (model X.prog X.w) X.A (call (.ref f) us (ks.zip ws)) (EP X pins σ Q) X.xe s := by
  have r2 := hb.rel r rz
  have hl : (g us ws).length = ps.length := by rw [← r2.length]; exact F.len _ _ _ _ h
  refine wpAny_call (codeAny_mono (F.run X.A X.stack s H ⟨us, ks.zip ws⟩ (g us ws) (gV vs zs) Q E hr I.env0 (hb.to s us ws I.kIn hl) r2 h) fun r s' hq => ?_)
  cases r with
  | error e => exact hx pins σ H s e s' I hq
  | ok fl =>
    cases fl with
    | ret u => exact I.after hq
    | next => exact False.elim hq
    | brk => exact False.elim hq
    | cont => exact False.elim hq
/-- f(e, .., k = v, ..) -/
theorem pe_callK (F : FnOk X.prog X.w X.K X.mg X.base CX k f fd ps sp) (hr : Room k X.A) (hg : Gl X x) (hm : X.mg x = some (.ref f)) (hk : PySem.W.keepIn X.K (.ref f) = true) (hb : KBinds X.K fd ps ks g gV) (hx : Passes CX X E)
    (ha : PA X (e :: es) t) (hkw : PK X kws tk) (hall : (backToKw pos (keywordEach kws X.env)).all (·.1.isSome) = true := by rfl) (hks : (backToKw pos (keywordEach kws X.env)).filterMap (·.1) = ks := by rfl)
    (hdb : (x == ("__debug__" : Str)) = false := by decide) (he : starEach (e :: es) X.env = (false, eval e X.env) :: starEach es X.env := by rfl)
    (hpl : ((backTo pos (starEach (e :: es) X.env)).any (·.1) || (backToKw pos (keywordEach kws X.env)).any (·.1.isNone)) = false := by rfl) :
    PE X (.Call (.Name x p) (e :: es) kws pos) (tCallK sp gV E t tk) := by
  refine ⟨?_⟩
  intro pins s σ H Q I h
  refine wpAny_Call_Name_kw (ld_glob I hg hm ?_ hdb)
  refine PySem.W.callWith_KW (h₀ := X.base) I.ok.mod.kin hk hall (thn (ha pos pins s σ H _ I h) fun us s1 ⟨vs, H1, I1, r, q⟩ => ?_) hpl he
  refine thn (hkw pos pins s1 σ H1 _ I1 q) fun ws s2 ⟨zs, H2, I2, rz, q2⟩ => ⟨I2.kIn, ?_⟩
  rw [hks]
  exact run_fnk F hr hb hx I2 r rz q2
end

/-! ### a def's body keeps its promise -/
/-- names: the parameters first -/
structure FnScope (N P : List Str) (sc : Scope) : Prop where
  kind : sc.kind = .function
  co : sc.isCoroutine = false
  gen : sc.isGenerator = false
  nd : N.Nodup
  pre : N.take P.length = P
  par : ∀ x ∈ P, sc.names.lookup x = some .local ∨ sc.names.lookup x = some .cell
  nofree : ∀ y ∈ sc.names, y.2 ≠ .free

theorem bindL_out {kindOf : Str → Option NameKind} {x : Str} : ∀ {binds : List (Str × Value)} {m : Str → Option Value}, (∀ v, (x, v) ∉ binds) → bindL kindOf binds m x = m x
  | [], _, _ => rfl
  | (n, v) :: r, m, h => by
    unfold bindL
    rw [bindL_out fun w hw => h w (List.mem_cons_of_mem _ hw)]
    split
    · have : x ≠ n := by rintro rfl; exact h v List.mem_cons_self
      simp [this]
    · rfl
theorem bindC_out {kindOf : Str → Option NameKind} {x : Str} : ∀ {binds : List (Str × Value)} {m : Str → Option Value}, (∀ v, (x, v) ∉ binds) → bindC kindOf binds m x = m x
  | [], _, _ => rfl
  | (n, v) :: r, m, h => by
    unfold bindC
    rw [bindC_out fun w hw => h w (List.mem_cons_of_mem _ hw)]
    split
    · rfl
    · have : x ≠ n := by rintro rfl; exact h v List.mem_cons_self
      simp [this]
theorem bindL_get {kindOf : Str → Option NameKind} {x : Str} {v : Value} : ∀ {P : List Str} {vs : List Value} {i : Nat} {m : Str → Option Value}, P.Nodup → P[i]? = some x → vs[i]? = some v → kindOf x = some .local →
    bindL kindOf (P.zip vs) m x = some v
  | [], _, _, _, _, h, _, _ => by simp at h
  | _ :: _, [], _, _, _, _, h, _ => by simp at h
  | p :: P, w :: vs, 0, m, nd, h1, h2, hk => by
    simp at h1 h2; subst h1; subst h2
    show bindL kindOf ((p, w) :: P.zip vs) m p = _
    unfold bindL
    rw [bindL_out fun v hv => (List.nodup_cons.mp nd).1 (List.of_mem_zip hv).1, if_pos hk]
    simp
  | p :: P, w :: vs, i + 1, m, nd, h1, h2, hk => by
    show bindL kindOf ((p, w) :: P.zip vs) m x = _
    unfold bindL
    exact bindL_get (i := i) (List.nodup_cons.mp nd).2 (by simpa using h1) (by simpa using h2) hk
theorem bindC_get {kindOf : Str → Option NameKind} {x : Str} {v : Value} : ∀ {P : List Str} {vs : List Value} {i : Nat} {m : Str → Option Value}, P.Nodup → P[i]? = some x → vs[i]? = some v → kindOf x ≠ some .local →
    bindC kindOf (P.zip vs) m x = some v
  | [], _, _, _, _, h, _, _ => by simp at h
  | _ :: _, [], _, _, _, _, h, _ => by simp at h
  | p :: P, w :: vs, 0, m, nd, h1, h2, hk => by
    simp at h1 h2; subst h1; subst h2
    show bindC kindOf ((p, w) :: P.zip vs) m p = _
    unfold bindC
    rw [bindC_out fun v hv => (List.nodup_cons.mp nd).1 (List.of_mem_zip hv).1, if_neg hk]
    simp
  | p :: P, w :: vs, i + 1, m, nd, h1, h2, hk => by
    show bindC kindOf ((p, w) :: P.zip vs) m x = _
    unfold bindC
    exact bindC_get (i := i) (List.nodup_cons.mp nd).2 (by simpa using h1) (by simpa using h2) hk

/-- the names' values at the entry -/
def start (N : List Str) (vs : List V) : St := vs.map some ++ List.replicate (N.length - vs.length) none

/-- the context of a def's body, at its entry; an exception leaves the frame, then lies as CX says -/
def cxOf (CX : CXT) (P : Program) (w : World) (K : PySem.W.Frag) (mg : Str → Option Value) (base : Heap) (N : List Str) (qual : Str) (scope : Scope) (f : Addr) (cd : Value) (A : Around) (outer : List Env) (s : Shared) (H : Hp) (E : XK) : Cx where
  prog := P
  w := w
  K := K
  mg := mg
  base := base
  A := A.deeper (envOfC qual scope s.heap.objs.size f cd)
  N := N
  s₀ := s
  H₀ := H
  env := envOfC qual scope s.heap.objs.size f cd
  outer := outer
  stack := envOfC qual scope s.heap.objs.size f cd :: outer
  ex := []
  calm := true
  fn := fun _ => true
  pn := []
  xe := fun e s' => wpAny (model P w) (A.deeper (envOfC qual scope s.heap.objs.size f cd)) (leaving (envOfC qual scope s.heap.objs.size f cd) e) (fun _ s'' => CX outer H s E e s'') (fun e' s'' => CX outer H s E e' s'') s'

theorem cell_has {sc : Scope} {n : Nat} {x : Str} (h : sc.names.lookup x = some .cell) : ∃ c, (cellsFrom n sc.names []).lookup x = some c := by
  have q := PySem.W.cellsFrom_some sc.names n [] (.inl h)
  exact Option.isSome_iff_exists.mp q

theorem inv_start {CX : CXT} {P : Program} {w : World} {K : PySem.W.Frag} {mg : Str → Option Value} {base : Heap} {N ps : List Str} {qual : Str} {scope : Scope} {f : Addr} {cd : Value} {A : Around} {outer : List Env} {s s1 : Shared} {H : Hp} {E : XK} {us : List Value} {vs : List V}
    (S : FnScope N ps scope) (hd : A.handled = none) (e0 : Env0 P w K mg base A outer s H) (hl : vs.length = ps.length) (r : Vals vs us)
    (x : InCallC s s.heap.objs.size (bindL (envOfC qual scope s.heap.objs.size f cd).kindOf (ps.zip us) fun _ => none) (cellsFrom (s.heap.objs.size + 1) scope.names []) (bindC (envOfC qual scope s.heap.objs.size f cd).kindOf (ps.zip us) fun _ => none) s1) :
    Inv (cxOf CX P w K mg base N qual scope f cd A outer s H E) [] (start N vs) H s1 := by
  have hpl : ps.length ≤ N.length := by have := congrArg List.length S.pre; rw [List.length_take] at this; omega
  obtain ⟨h1, tk, rfl, hk⟩ := x.done
  have noA : ∀ b : Addr, b ∉ (cxOf CX P w K mg base N qual scope f cd A outer s H E).ex := fun b z => absurd (show b ∈ ([] : List Addr) from z) (by simp)
  refine ⟨⟨e0.mod, S.kind, rfl, rfl, Nat.le_refl _, fun y z c h1 h2 => ?_, fun y hy => ?_, fun y c _ h => ?_, fun _ => hd, Around.frames_deeper e0.frames, .inr ⟨rfl, rfl⟩, fun b z => absurd z (noA b), e0.bs, e0.bsz, fun b _ _ => noA b, fun b z => absurd z (noA b), e0.funs, e0.frf⟩,
    rfl, e0.bare, Un.kept hk, ⟨_, x.toInCall.ns, fun i y v h1 h2 h3 => ?_⟩, fun y c h => ⟨_, x.cell y c h⟩, e0.hok.fresh (Nat.le_refl _), fun y c h => ?_, fun p hp => absurd (show p ∈ ([] : List (Addr × Obj)) from hp) (by simp), e0.hok.kept hk, ?_⟩
  · exact name_of_addr x.apart (PySem.mem_of_lookup h1) (PySem.mem_of_lookup h2)
  · have hy : scope.names.lookup y = some .cell ∨ scope.names.lookup y = some .free := hy
    rcases hy with hy | hy
    · exact cell_has hy
    · exact absurd rfl (S.nofree _ (PySem.mem_of_lookup hy))
  · exact Nat.le_of_lt (x.above y c (PySem.mem_of_lookup h))
  · have hi : i < vs.length := by
      unfold start at h2
      by_cases hi : i < vs.length
      · exact hi
      · rw [List.getElem?_append_right (by simpa using hi)] at h2
        rw [List.getElem?_replicate] at h2
        split at h2 <;> cases h2
    have ha : vs[i]? = some v := by
      unfold start at h2
      rw [List.getElem?_append_left (by simpa using hi), List.getElem?_map] at h2
      cases e : vs[i]? with
      | none => rw [e] at h2; cases h2
      | some a => rw [e] at h2; cases h2; rfl
    obtain ⟨u, hu, rv⟩ := r.get ha
    have hp : ps[i]? = some y := by
      rw [← S.pre, List.getElem?_take_of_lt (by omega)]; exact h1
    have ndP : ps.Nodup := by rw [← S.pre]; exact S.nd.sublist (List.take_sublist _ _)
    refine ⟨u, rv, ?_⟩
    rcases S.par y (List.mem_of_getElem? hp) with k | k
    · exact .inl ⟨k, bindL_get ndP hp hu k⟩
    · obtain ⟨c, e⟩ := cell_has (n := s.heap.objs.size + 1) k
      refine .inr ⟨.inl k, c, e, ?_⟩
      have q := x.cell y c e
      rw [bindC_get ndP hp hu (by show scope.names.lookup y ≠ _; rw [k]; decide)] at q
      exact q
  · exact e0.hok.fresh (Nat.le_of_lt (x.above y c (PySem.mem_of_lookup h)))
  · unfold start
    show _ = N.length
    rw [List.length_append, List.length_map, List.length_replicate]
    omega

/-- THE RULE: a def (or a method) of the text, by its body. The body's reading t is chosen for each entry; it is run at the parameters' values -/
theorem fn_of {CX : CXT} {P : Program} {w : World} {K : PySem.W.Frag} {mg : Str → Option Value} {base : Heap} {k : Nat} {f : Addr} {name qual : Str} {params : Arguments} {body : List Stmt} {scope : Scope} {dV kV doc pm cdv ct oc : Value} {an od : Option Addr}
    {osl : Array (Option Value)} {N ps : List Str} {sp : Sp} (lk : K.lookup f = some ⟨oc, od, .func (PySem.W.fnOf name qual params body scope dV kV doc pm an cdv ct), osl⟩) (hcd : PySem.W.codeIn K cdv qual = true) (S : FnScope N ps scope)
    (len : ∀ vs H Q E, sp vs H Q E → vs.length = ps.length)
    (hbody : ∀ (A : Around) (outer : List Env) (s : Shared) (H : Hp) (vs : List V) (Q : VK) (E : XK), Room k (A.deeper (envOfC qual scope s.heap.objs.size f cdv)) → sp vs H Q E →
      ∃ t, PSs (cxOf CX P w K mg base N qual scope f cdv A outer s H E) body t ∧ t { nx := fun _ H' => Q .non H', rt := Q } (start N vs) H) :
    FnOk P w K mg base CX (k + 1) f (PySem.W.fnOf name qual params body scope dV kV doc pm an cdv ct) ps sp := by
  refine ⟨len, fun A outer s H args us vs Q E hr e0 hb r hsp => ?_⟩
  have hl := len _ _ _ _ hsp
  have KX : K.In s.heap := e0.mod.kin.keeps fun b o e => (e0.bs b o e).1
  have lim : s.heap.NoLimit := e0.mod.nolimit.keeps fun b o e => (e0.bs b o e).1
  have hkind : ∀ y ∈ ps.zip us, scope.names.lookup y.1 = some .local ∨ (scope.names.lookup y.1 = some .cell ∧ ((cellsFrom (s.heap.objs.size + 1) scope.names []).lookup y.1).isSome = true) := fun ⟨n, v⟩ hy => by
    rcases S.par n (List.of_mem_zip hy).1 with q | q
    · exact .inl q
    · exact .inr ⟨q, PySem.W.cellsFrom_some _ _ _ (.inl q)⟩
  refine codeAny_call_function hr.depth (KX _ _ lk) rfl S.co S.gen rfl (PySem.W.codeRec_of KX hcd) (hb _ _ _ _ ?_)
  refine wpAny_newFunctionEnv_cells S.kind hkind fun env he s1 x => ?_
  subst he
  refine ⟨lim.keeps x.toInCall.keep, codeAny_func ?_⟩
  obtain ⟨t, ht, hq⟩ := hbody A outer s H vs Q E (hr.deeper _) hsp
  have I : Inv (cxOf CX P w K mg base N qual scope f cdv A outer s H E) [] (start N vs) H s1 := inv_start S hr.hd e0 hl r x
  refine wpAny_mono (ht [] s1 (start N vs) H _ I hq) (fun fl s' hs => ?_) fun e s' hs => hs
  have fin : ∀ {σ' : St} {H' : Hp} {v : V} {u : Value}, Inv (cxOf CX P w K mg base N qual scope f cdv A outer s H E) [] σ' H' s' → RelV v u → Q v H' → CE outer P w H s Q u s' :=
    fun {σ' H' v u} J rv q => ⟨v, H', J.os, J.bare, J.base, J.hok, rv, q⟩
  cases fl with
  | ret u =>
    obtain ⟨v, σ', H', J, rv, q⟩ := hs
    exact fin J rv q
  | next =>
    obtain ⟨σ', H', J, q⟩ := hs
    exact fin (v := V.non) (u := Value.none) J rfl q
  | brk =>
    obtain ⟨_, _, _, q⟩ := hs
    exact False.elim q
  | cont =>
    obtain ⟨_, _, _, q⟩ := hs
    exact False.elim q
end L2

namespace L2
open PySem PySem.Spec PyProof.Rows
section
variable {X : Cx} {x : Str} {p pos : Pos} {e : Expr} {es : List Expr} {t : TA} {id T : String} {r : List V → Hp → VK → Prop}

def tCB (r : List V → Hp → VK → Prop) (t : TA) : TE := fun σ H Q => t σ H fun vs H1 => r vs H1 Q
/-- f(e, ..), f a built-in function -/
theorem pe_callB (hc : CallR X (.builtin id) r) (hg : Gl X x) (hm : X.mg x = none) (hv : bootBuiltins x = some (.builtin id)) (ha : PA X (e :: es) t) (hn : x ≠ "__name__" := by decide) (hdb : (x == ("__debug__" : Str)) = false := by decide)
    (he : starEach (e :: es) X.env = (false, eval e X.env) :: starEach es X.env := by rfl) (hpl : (backTo pos (starEach es X.env)).any (·.1) = false := by rfl) : PE X (.Call (.Name x p) (e :: es) [] pos) (tCB r t) := by
  refine ⟨?_⟩
  intro pins s σ H Q I h
  refine wpAny_Call_Name_kw (ld_blt I hg hm hv ?_ hn hdb)
  exact PyProof.Rows.callWith_builtin1 (thn (ha pos pins s σ H _ I h) fun us s1 ⟨vs, H1, I1, r1, q1⟩ => hc pins s1 σ H1 vs us Q I1 r1 q1) he hpl
/-- T(e, ..), T a built-in type -/
theorem pe_callTy (hc : CallR X (.type T) r) (hg : Gl X x) (hm : X.mg x = none) (hv : bootBuiltins x = some (.type T)) (ha : PA X (e :: es) t) (hn : x ≠ "__name__" := by decide) (hdb : (x == ("__debug__" : Str)) = false := by decide)
    (he : starEach (e :: es) X.env = (false, eval e X.env) :: starEach es X.env := by rfl) (hpl : (backTo pos (starEach es X.env)).any (·.1) = false := by rfl) : PE X (.Call (.Name x p) (e :: es) [] pos) (tCB r t) := by
  refine ⟨?_⟩
  intro pins s σ H Q I h
  refine wpAny_Call_Name_kw (ld_blt I hg hm hv ?_ hn hdb)
  exact PyProof.Rows.callWith_type1 (thn (ha pos pins s σ H _ I h) fun us s1 ⟨vs, H1, I1, r1, q1⟩ => hc pins s1 σ H1 vs us Q I1 r1 q1) he hpl
/-- T() -/
theorem pe_callTy0 (hc : CallR X (.type T) r) (hg : Gl X x) (hm : X.mg x = none) (hv : bootBuiltins x = some (.type T)) (hn : x ≠ "__name__" := by decide) (hdb : (x == ("__debug__" : Str)) = false := by decide) :
    PE X (.Call (.Name x p) [] [] pos) (tCB r tNil) := by
  refine ⟨?_⟩
  intro pins s σ H Q I h
  refine wpAny_Call_Name_kw (ld_blt I hg hm hv ?_ hn hdb)
  exact PyProof.Rows.callWith_type0 (hc pins s σ H [] [] Q I .nil h)
end
end L2

namespace HT
open PySem PyProof.Rows

/-- t < u of tuples of ints -/
def lexLt : List Int → List Int → Bool
  | [], [] => false
  | [], _ :: _ => true
  | _ :: _, [] => false
  | x :: xs, y :: ys => if x = y then lexLt xs ys else decide (x < y)
theorem lexLt_cons (x y : Int) (xs ys : List Int) : lexLt (x :: xs) (y :: ys) = if x = y then lexLt xs ys else decide (x < y) := rfl
theorem lexLt_nil_nil : lexLt [] [] = false := rfl
theorem lexLt_nil_cons (y : Int) (ys : List Int) : lexLt [] (y :: ys) = true := rfl
theorem lexLt_cons_nil (x : Int) (xs : List Int) : lexLt (x :: xs) [] = false := rfl

theorem eqAt_int (A : Around) (s : Shared) (a : Int) (t : Tok) (c : Int) (u : Tok) : ∃ e, SeqAt.EqAt A s (.int a t) (.int c u) e ∧ (e = true ↔ a = c) :=
  ⟨(a == c), SeqAt.EqAt.int_int a t c u, by simp⟩
theorem rcLt_int (A : Around) (s : Shared) (a : Int) (t : Tok) (c : Int) (u : Tok) (prog : Program) (w : World) (E : Value → Shared → Prop) (Q : Value → Shared → Prop) (h : Q (.bool (decide (a < c))) s) :
    wpAny (model prog w) A (richCompare .Lt (.int a t) (.int c u)) Q E s :=
  (PyProof.Rows.lt_int h : wpAny (model prog w) A (compareOp .Lt (.int a t) (.int c u)) Q E s)

section
open PySem.SeqAt
open PySem.AutoSeq1 (wpAny_loadPart')
open PySem.MeetsSeq PySem.MeetsSeq2 PySem.MeetsSeq3

theorem tuple_lt_ints (l b : Addr) (items items2 : Array Value) (n n2 : Nat) (dd dd2 : Option Addr) (sl sl2 : Array (Option Value)) (ns ms : List Int) (hi : IntsAre items.toList ns) (hj : IntsAre items2.toList ms) :
    Meets (Builtin.«tuple.__lt__» ⟨[.ref l, .ref b], []⟩)
      (fun _ R s => s.heap.get? l = some { cls := .type "tuple", dict := dd, data := .seq items n, slots := sl } ∧ s.heap.get? b = some { cls := .type "tuple", dict := dd2, data := .seq items2 n2, slots := sl2 } ∧
        R (.ok (.ret (.bool (lexLt ns ms)))) s) :=
  .of_wp fun prog w A R s h => by
    obtain ⟨hp, g, d, tk, os⟩ := s; obtain ⟨hl, hb, h⟩ := h
    have f2 := AutoSeq1.sub_tuple_tuple
    have z1 : items.size = ns.length := by rw [← hi.length]; simp
    have z2 : items2.size = ms.length := by rw [← hj.length]; simp
    wp_walk using wpAny_loadPart' hl, wpAny_loadPart' hb, wpAny_forIn_list _ (fun rest b s' => b.1 = none ∧ s' = ⟨hp, g, d, tk, os⟩ ∧ ∃ (vs ws : List Value) (ns' ms' : List Int), rest = vs.zip ws ∧
      IntsAre vs ns' ∧ IntsAre ws ms' ∧ ns'.length + items2.size = ms'.length + items.size ∧ R (.ok (.ret (.bool (lexLt ns' ms')))) ⟨hp, g, d, tk, os⟩) _
    case turn =>
      rintro ⟨y, x⟩ rest b s' ⟨hb', rfl, vs, ws, ns', ms', hz, hvi, hwi, hlen, hR⟩
      cases hvi with
      | nil => rw [List.zip_nil_left] at hz; cases hz
      | cons a t hvi' =>
        cases hwi with
        | nil => rw [List.zip_nil_right] at hz; cases hz
        | cons c u hwi' =>
          rw [List.zip_cons_cons] at hz
          injection hz with hyx hrest
          injection hyx with hy hx
          subst hy hx
          rw [lexLt_cons] at hR
          simp only [List.length_cons] at hlen
          obtain ⟨e, he, hiff⟩ := eqAt_int A.in1 ⟨hp, g, d, tk, os⟩ a t c u
          refine wpAny_bind (he prog w _ _ ?_)
          cases e with
          | true =>
            rw [if_pos (hiff.mp rfl)] at hR
            wp_walk
            exact ⟨rfl, rfl, _, _, _, _, hrest, hvi', hwi', by omega, hR⟩
          | false =>
            rw [if_neg (fun q => absurd (hiff.mpr q) Bool.false_ne_true)] at hR
            have hri := rcLt_int A.in1 ⟨hp, g, d, tk, os⟩ a t c u prog w
            wp_walk using hri
            exact ⟨_, rfl, by simpa using hR⟩
    case fin =>
      rintro ⟨b1, b2⟩ s' ⟨hb', rfl, vs, ws, ns', ms', hz, hvi, hwi, hlen, hR⟩
      simp only at hb'
      subst hb'
      have hv : lexLt ns' ms' = decide (items.size < items2.size) := by
        cases hvi with
        | nil =>
          cases hwi with
          | nil =>
            simp only [List.length_nil] at hlen
            rw [lexLt_nil_nil]
            exact (decide_eq_false (by omega)).symm
          | cons c u hw =>
            simp only [List.length_nil, List.length_cons] at hlen
            rw [lexLt_nil_cons]
            exact (decide_eq_true (by omega)).symm
        | cons a t hv =>
          cases hwi with
          | nil =>
            simp only [List.length_nil, List.length_cons] at hlen
            rw [lexLt_cons_nil]
            exact (decide_eq_false (by omega)).symm
          | cons c u hw =>
            rw [List.zip_cons_cons] at hz
            cases hz
      rw [hv] at hR
      wp_walk
      exact ⟨_, rfl, by simpa [Builtin.Tuple.tupleCompareSizes] using hR⟩
    case h =>
      exact ⟨rfl, rfl, items.toList, items2.toList, ns, ms, rfl, hi, hj, by omega, h⟩
end

section
variable {prog : Program} {w : World} {A : Around} {E : Value → Shared → Prop} {s : Shared}

theorem lt_tupInts {l b : Addr} {items items2 : Array Value} {ns ms : List Int} {Q : Value → Shared → Prop} (hl : IsTup s.heap l items) (hb : IsTup s.heap b items2) (hi : IntsAre items.toList ns) (hj : IntsAre items2.toList ms)
    (hu : A.units < cLine) (h : Q (.bool (lexLt ns ms)) s) : wpAny (model prog w) A (compareOp .Lt (.ref l) (.ref b)) Q E s := by
  obtain ⟨⟨cls, dd, data, sl⟩, ho, hc, n, hd⟩ := id hl
  obtain ⟨⟨cls2, dd2, data2, sl2⟩, ho2, hc2, n2, hd2⟩ := id hb
  simp only at hc hd hc2 hd2
  subst hc hd hc2 hd2
  exact richCompare_meets_room (op := .Lt) ⟨_, ho, rfl⟩ ⟨_, ho2, rfl⟩ PySem.F.slot_tuple_lt PySem.F.entry_tuple_lt (PySem.F.args_tuple_lt_2 _ _) (tuple_lt_ints l b items items2 n n2 dd dd2 sl sl2 ns ms hi hj)
    ⟨ho, ho2, show Value.bool (lexLt ns ms) ≠ Value.notImplemented ∧ Q (.bool (lexLt ns ms)) s from ⟨(fun x => nomatch x), h⟩⟩ hu

/-- t + u, t not empty -/
theorem cat_tup {t b : Addr} {vs ws : List Value} {Q : Value → Shared → Prop} (ht : IsTup s.heap t vs.toArray) (hb : IsTup s.heap b ws.toArray) (hv : vs ≠ [])
    (h1 : ws = [] → Q (.ref t) s) (h2 : ws ≠ [] → Q (.ref s.heap.objs.size) { s with heap := s.heap.push { cls := .type "tuple", data := .seq (vs ++ ws).toArray } })
    (hsz : vs.length + ws.length ≤ sizeLine) : wpAny (model prog w) A (binaryOp .Add (.ref t) (.ref b)) Q E s := by
  obtain ⟨⟨cls, dd, data, sl⟩, ho, hc, n, hd⟩ := id ht
  obtain ⟨⟨cls2, dd2, data2, sl2⟩, ho2, hc2, n2, hd2⟩ := id hb
  simp only at hc hd hc2 hd2
  subst hc hd hc2 hd2
  have e : vs.toArray ++ ws.toArray = (vs ++ ws).toArray := by simp
  by_cases hw : ws = []
  · exact concat_meets ⟨_, ho, rfl⟩ ⟨_, ho2, rfl⟩ noFill_tuple_add seq_tuple_add PySem.F.slot_tuple_add PySem.F.entry_tuple_add (PySem.F.args_tuple_add_2 _ _)
      (tuple_addW1 t b vs.toArray ws.toArray n n2 dd dd2 sl sl2 (by simpa using hv) (by simp [hw])) ⟨ho, ho2, h1 hw⟩
  · refine concat_meets ⟨_, ho, rfl⟩ ⟨_, ho2, rfl⟩ noFill_tuple_add seq_tuple_add PySem.F.slot_tuple_add PySem.F.entry_tuple_add (PySem.F.args_tuple_add_2 _ _)
      (tuple_addW2 t b vs.toArray ws.toArray n n2 dd dd2 sl sl2 (by simpa using hv) (by simpa using hw) (by rw [List.size_toArray, List.size_toArray]; exact hsz)) ⟨ho, ho2, ?_⟩
    rw [e]
    exact h2 hw

/-! ### t[a:b], not the whole -/
/-- a slice's bound as a place among n (d where it is left out) -/
def sIx (n d : Nat) : Option Int → Nat
  | none => d
  | some v => if v < 0 then (v + (n : Int)).toNat else min v.toNat n
theorem sIx_none (n d : Nat) : sIx n d none = d := rfl
theorem sIx_nat (n d k : Nat) : sIx n d (some (k : Int)) = min k n := by
  show (if (k : Int) < 0 then ((k : Int) + (n : Int)).toNat else min (k : Int).toNat n) = min k n
  rw [if_neg (by omega), Int.toNat_natCast]
theorem sIx_le (n d : Nat) (hd : d ≤ n) (o : Option Int) : sIx n d o ≤ n := by
  cases o with
  | none => exact hd
  | some v =>
    show (if v < 0 then (v + (n : Int)).toNat else min v.toNat n) ≤ n
    by_cases hv : v < 0
    · rw [if_pos hv]; omega
    · rw [if_neg hv]; exact Nat.min_le_right _ _
theorem clip_eq (v : Int) (n d : Nat) : (if v < 0 then max (v + (n : Int)) 0 else min v (n : Int)) = ((sIx n d (some v) : Nat) : Int) := by
  show (if v < 0 then max (v + (n : Int)) 0 else min v (n : Int)) = (((if v < 0 then (v + (n : Int)).toNat else min v.toNat n) : Nat) : Int)
  by_cases hv : v < 0
  · simp only [if_pos hv]; omega
  · simp only [if_neg hv]; omega
theorem adjust_gen (lo hi : Option Int) (n : Nat) : Builtin.Slice.sliceAdjust lo hi 1 (n : Int) = (((sIx n 0 lo : Nat) : Int), ((sIx n n hi : Nat) : Int)) := by
  have h1 : ¬ ((1 : Int) < 0) := by omega
  unfold Builtin.Slice.sliceAdjust
  simp only [h1, if_false]
  refine Prod.ext ?_ ?_
  · cases lo with
    | none => rfl
    | some v => exact clip_eq v n 0
  · cases hi with
    | none => rfl
    | some v => exact clip_eq v n n
theorem places_gen (i j : Nat) : Builtin.Slice.slicePlaces (i : Int) (j : Int) 1 = j - i := by
  unfold Builtin.Slice.slicePlaces
  have h1 : (1 : Int) > 0 := by omega
  simp only [h1, if_true, Int.ediv_one]
  split <;> omega
theorem slicePart_ {v : Value} {o : Option Int} {Q : Option Int → Shared → Prop} (p : IsPart v o) (h : Q o s) : wpAny (model prog w) A (Builtin.Slice.slicePartIndex v) Q E s := by
  cases p with
  | none => exact slicePart_none h
  | int i t => exact slicePart_int h
theorem sliceApplied_gen {sl : Addr} {vl vu : Value} {lo hi : Option Int} {n : Nat} {Q : Int × Int × Nat → Shared → Prop} (hs : s.heap.IsSliceOf sl vl vu .none) (pl : IsPart vl lo) (pu : IsPart vu hi)
    (h : Q (((sIx n 0 lo : Nat) : Int), 1, sIx n n hi - sIx n 0 lo) s) : wpAny (model prog w) A (Builtin.Slice.sliceApplied (.ref sl) (pure (n : Int))) Q E s := by
  obtain ⟨os, hos, hcs, hds⟩ := id hs
  unfold Builtin.Slice.sliceApplied Builtin.Slice.sliceFields
  refine wpAny_bind (wpAny_bind (wpAny_field hos hds (x := vl) rfl (wpAny_bind (wpAny_field hos hds (x := vu) rfl (wpAny_bind (wpAny_field hos hds (x := .none) rfl (wpAny_pure ?_)))))))
  refine wpAny_bind (slicePart_none ?_)
  show wpAny _ _ (if ((1 : Int) == 0) = true then _ else _) _ _ s
  rw [if_neg (by decide)]
  refine wpAny_bind (slicePart_ pl (wpAny_bind (slicePart_ pu (wpAny_bind (wpAny_pure ?_)))))
  show wpAny _ _ (match Builtin.Slice.sliceAdjust lo hi 1 (n : Int) with | (lo, hi) => pure (lo, (1 : Int), Builtin.Slice.slicePlaces lo hi 1)) _ _ s
  rw [adjust_gen lo hi n]
  show wpAny _ _ (pure (((sIx n 0 lo : Nat) : Int), (1 : Int), Builtin.Slice.slicePlaces ((sIx n 0 lo : Nat) : Int) ((sIx n n hi : Nat) : Int) 1)) _ _ s
  rw [places_gen]
  exact wpAny_pure h
theorem pick_gen (xs : Array Value) (i k : Nat) : ((List.range k).filterMap fun (m : Nat) => xs[((i : Int) + (m : Int) * 1).toNat]?).toArray = ((xs.toList.drop i).take k).toArray := by
  have e : (fun (m : Nat) => xs[((i : Int) + (m : Int) * 1).toNat]?) = fun m => xs[i + m]? := by
    funext m
    have : ((i : Int) + (m : Int) * 1).toNat = i + m := by omega
    rw [this]
  rw [e]
  have := pick_run xs i k
  rw [List.filterMap_map] at this
  have e2 : ((fun x => xs[x]?) ∘ fun x => i + x) = fun m => xs[i + m]? := rfl
  rw [e2] at this
  rw [this]

theorem getItem_tuple_cut {t sl : Addr} {items : Array Value} {vl vu : Value} {lo hi : Option Int} {Q : Value → Shared → Prop} (ht : IsTup s.heap t items) (hs : s.heap.IsSliceOf sl vl vu .none) (pl : IsPart vl lo) (pu : IsPart vu hi)
    (hw : ¬ (sIx items.size 0 lo = 0 ∧ sIx items.size items.size hi = items.size))
    (h : Q (.ref s.heap.objs.size) { s with heap := s.heap.push { cls := .type "tuple", data := .seq ((items.toList.drop (sIx items.size 0 lo)).take (sIx items.size items.size hi - sIx items.size 0 lo)).toArray } })
    (hsz : items.size ≤ sizeLine) : wpAny (model prog w) A (getItem (.ref t) (.ref sl)) Q E s := by
  have htake : sizeOk (.seq ((items.toList.drop (sIx items.size 0 lo)).take (sIx items.size items.size hi - sIx items.size 0 lo)).toArray) := by
    show ((items.toList.drop (sIx items.size 0 lo)).take (sIx items.size items.size hi - sIx items.size 0 lo)).toArray.size ≤ sizeLine
    rw [List.size_toArray, List.length_take, List.length_drop, Array.length_toList]
    omega
  have hj : sIx items.size items.size hi ≤ items.size := sIx_le _ _ (Nat.le_refl _) hi
  obtain ⟨os, hos, hcs, hds⟩ := id hs
  have hTs : s.TypeIs (.ref sl) "slice" := ⟨os, hos, hcs⟩
  unfold getItem
  try with_reducible refine wpAny_holding ?_
  first | refine wpAny_bind (wpAny_pure ?_) | skip
  refine wpAny_bind (wpAny_sequenceKey ht.typeIs (by decide) ?_)
  refine wpAny_bind (wpAny_callSpecial?_slot (name := Str.ofString "__getitem__") ht.typeIs PyProof.Rows.slot_tuple_getitem
    (wpAny_call_entry PyProof.Rows.slot_tuple_getitem ht.typeIs entry_tuple_getitem ?_ (args_tuple_getitem _ _)))
  show wpAny _ _ (Builtin.Tuple.tupleItemsOf (.ref t) >>= _) _ _ s
  refine wpAny_bind (tupleItemsOf_ ht ?_)
  refine wpAny_bind (wpAny_typeOf hTs ?_)
  rw [if_pos (by decide)]
  refine wpAny_bind (sliceApplied_gen hs pl pu ?_)
  have hno : ¬ ((((sIx items.size 0 lo : Nat) : Int) == 0 && (1 : Int) == 1 && (sIx items.size items.size hi - sIx items.size 0 lo) == items.size) = true) := by
    intro q
    rw [Bool.and_eq_true, Bool.and_eq_true] at q
    have q1 : ((sIx items.size 0 lo : Nat) : Int) = 0 := eq_of_beq q.1.1
    have q2 : sIx items.size items.size hi - sIx items.size 0 lo = items.size := eq_of_beq q.2
    exact hw ⟨by omega, by omega⟩
  show wpAny _ _ (if (((sIx items.size 0 lo : Nat) : Int) == 0 && (1 : Int) == 1 && (sIx items.size items.size hi - sIx items.size 0 lo) == items.size) = true then _ else _) _ _ s
  rw [if_neg hno, pick_gen]
  first
    | exact wpAny_bind (m := Builtin.Tuple.tupleExact _) (wpAny_newObj_type (wpAny_pure ⟨_, rfl, wpAny_pure h⟩) htake)
    | exact wpAny_bind (m := Builtin.Tuple.tupleExact _) (wpAny_newObj_type (wpAny_bind (wpAny_pure (wpAny_pure ⟨_, rfl, wpAny_pure h⟩))) htake)
    | exact wpAny_bind (wpAny_bind (m := Builtin.Tuple.tupleExact _) (wpAny_newObj_type (wpAny_pure (wpAny_pure ⟨_, rfl, wpAny_pure h⟩)) htake))
    | exact wpAny_bind (wpAny_bind (m := Builtin.Tuple.tupleExact _) (wpAny_newObj_type (wpAny_pure ⟨_, rfl, wpAny_pure h⟩) htake))
end
end HT

namespace L2
open PySem PySem.Spec PyProof.Rows

/-! ### the parts of a slice -/
abbrev TO := St → Hp → (Option Int → Hp → Prop) → Prop
/-- a slice's part (left out, or an int) -/
def PO (X : Cx) (e : Option Expr) (t : TO) : Prop :=
  ∀ (pins : List (Addr × Obj)) (s : Shared) (σ : St) (H : Hp) (Q : Option Int → Hp → Prop), Inv X pins σ H s → t σ H Q →
    wpAny (model X.prog X.w) X.A (evalPart e X.env) (fun u s' => ∃ o H', Inv X pins σ H' s' ∧ IsPart u o ∧ Q o H') X.xe s
def tNoPart : TO := fun _ H Q => Q none H
def tPart (t : TE) : TO := fun σ H Q => t σ H fun x H1 => ∃ i, x = .int i ∧ Q (some i) H1

theorem intsAre_of {ns : List Int} : ∀ {us : List Value}, Vals (ns.map V.int) us → IntsAre us ns := by
  induction ns with
  | nil => intro us r; rw [List.map_nil] at r; cases r; exact .nil
  | cons n ns ih =>
    intro us r
    rw [List.map_cons] at r
    cases r with
    | cons r1 r2 =>
      obtain ⟨t, e⟩ := r1
      subst e
      exact .cons n t (ih r2)

section
variable {X : Cx} {e : Expr} {te : TE} {lo hi : Option Expr} {tl th : TO} {pos p2 : Pos}

theorem po_none : PO X none tNoPart := by
  intro pins s σ H Q I h
  rw [evalPart_none]
  exact wpAny_pure ⟨none, H, I, .none, h⟩
theorem po_some (h : PE X e te) : PO X (some e) (tPart te) := by
  intro pins s σ H Q I hw
  rw [evalPart_some]
  refine thn (h pins s σ H _ I hw) fun u s1 ⟨x, H1, I1, r1, q1⟩ => ?_
  obtain ⟨i, rfl, q⟩ := q1
  obtain ⟨t, rfl⟩ := r1
  exact ⟨some i, H1, I1, .int i t, q⟩

/-- what a slice of a value is, by values: the slice object stands at sl -/
def SlR (X : Cx) (r : V → Option Int → Option Int → Hp → VK → Prop) : Prop :=
  ∀ (pins : List (Addr × Obj)) (s : Shared) (σ : St) (H : Hp) (x : V) (v vl vu : Value) (lo hi : Option Int) (sl : Addr) (Q : VK), Inv X pins σ H s → RelV x v → s.heap.IsSliceOf sl vl vu .none → IsPart vl lo → IsPart vu hi → r x lo hi H Q →
    ∃ T id, typeLookup (.type T) "__getitem__" = pure (some (.builtin id)) ∧ s.TypeIs v T ∧ wpAny (model X.prog X.w) X.A (getItem v (.ref sl)) (EP X pins σ Q) X.xe s
theorem SlR.or {r r' : V → Option Int → Option Int → Hp → VK → Prop} (h : SlR X r) (h' : SlR X r') : SlR X (fun x lo hi H Q => r x lo hi H Q ∨ r' x lo hi H Q) := by
  intro pins s σ H x v vl vu lo hi sl Q I rx hs pl pu q
  rcases q with q | q
  · exact h pins s σ H x v vl vu lo hi sl Q I rx hs pl pu q
  · exact h' pins s σ H x v vl vu lo hi sl Q I rx hs pl pu q
def tSl (r : V → Option Int → Option Int → Hp → VK → Prop) (te : TE) (tl th : TO) : TE := fun σ H Q => te σ H fun x H1 => tl σ H1 fun l H2 => th σ H2 fun u H3 => r x l u H3 Q
/-- a[lo:hi], any a -/
theorem pe_slice {r : V → Option Int → Option Int → Hp → VK → Prop} (hr : SlR X r) (he : PE X e te) (hl : PO X lo tl) (hu : PO X hi th) : PE X (.Subscript e (.Slice lo hi none p2) pos) (tSl r te tl th) := by
  refine ⟨?_⟩
  intro pins s σ H Q I h
  refine Subscript_ (thn (he pins s σ H _ I h) fun v s1 ⟨x, H1, I1, r1, q1⟩ => ?_)
  refine wpAny_Slice (thn (hl pins s1 σ H1 _ I1 q1) fun vl s2 ⟨l, H2, I2, pl, q2⟩ => thn (hu pins s2 σ H2 _ I2 q2) fun vu s3 ⟨u, H3, I3, pu, q3⟩ => ?_)
  rw [evalPart_none]
  refine wpAny_pure ?_
  have I4 : Inv X pins σ H3 { s3 with heap := s3.heap.push { cls := .type "slice", data := .fields #[vl, vu, .none] } } := I3.kept (t' := s3.toks) fun b ob q => Heap.get?_push_of_some _ q
  obtain ⟨T, id, hT, ht, hg⟩ := hr pins { s3 with heap := s3.heap.push { cls := .type "slice", data := .fields #[vl, vu, .none] } } σ H3 x v vl vu l u s3.heap.objs.size Q I4 r1 (Heap.IsSliceOf.new ..) pl pu q3
  show wpAny (model X.prog X.w) X.A (subscriptTail e (.Slice lo hi none p2) v (.ref s3.heap.objs.size)) (EP X pins σ Q) X.xe { s3 with heap := s3.heap.push { cls := .type "slice", data := .fields #[vl, vu, .none] } }
  exact tail_any (ops := [.ref s3.heap.objs.size, v]) ht hT hg (by with_unfolding_all rfl)

/-- the items of xs[lo:hi] -/
def cutV (xs : List V) (lo hi : Option Int) : List V := (xs.drop (HT.sIx xs.length 0 lo)).take (HT.sIx xs.length xs.length hi - HT.sIx xs.length 0 lo)
theorem cutV_length (xs : List V) (lo hi : Option Int) : (cutV xs lo hi).length ≤ xs.length := by
  unfold cutV
  rw [List.length_take, List.length_drop]
  omega
/-- t[lo:hi], not the whole of it (the whole would be t itself) -/
def rSlT (K : PySem.W.Frag) : V → Option Int → Option Int → Hp → VK → Prop := fun x lo hi H Q => ∃ a xs, x = .ref a ∧ SqT K H a xs ∧
  ¬ (HT.sIx xs.length 0 lo = 0 ∧ HT.sIx xs.length xs.length hi = xs.length) ∧ ∀ p, H p = none → Q (.ref p) (upd H p (.tup (cutV xs lo hi)))
theorem sl_tup : SlR X (rSlT X.K) := by
  intro pins s σ H x v vl vu lo hi sl Q I rx hs pl pu h
  obtain ⟨a, xs, rfl, hx, hw, q⟩ := h
  cases rx
  obtain ⟨its, r, ht, hz⟩ := I.tuple hx
  have hlen : its.toArray.size = xs.length := by rw [List.size_toArray]; exact r.length.symm
  refine ⟨"tuple", _, PyProof.Rows.slot_tuple_getitem.lookup, ht.typeIs, ?_⟩
  refine HT.getItem_tuple_cut ht hs pl pu (by rw [hlen]; exact hw) ?_ (by rw [hlen]; exact hz)
  rw [hlen]
  refine ⟨.ref s.heap.objs.size, _, I.laid (t' := s.toks) (o := .tup (cutV xs lo hi)) (fun b ob q => Heap.get?_push_of_some _ q) (Nat.le_refl _) ?_, rfl, q _ (I.hok.fresh (Nat.le_refl _))⟩
  exact ⟨Nat.le_trans (cutV_length xs lo hi) hz, _, (r.drop (HT.sIx xs.length 0 lo)).take (HT.sIx xs.length xs.length hi - HT.sIx xs.length 0 lo), IsTup.new _ _⟩

/-! ### t < u, t + u -/
def rLtT (K : PySem.W.Frag) : R2 := fun x y H Q => ∃ a b ns ms, x = .ref a ∧ y = .ref b ∧ SqT K H a (ns.map V.int) ∧ SqT K H b (ms.map V.int) ∧ Q (.bl (HT.lexLt ns ms)) H
theorem op_ltT (hu : X.A.units < cLine) : OpR X (compareOp .Lt) (rLtT X.K) := by
  intro pins s σ H x y v u Q I rx ry h
  obtain ⟨a, b, ns, ms, rfl, rfl, ha, hb, q⟩ := h
  cases rx
  cases ry
  obtain ⟨its, r1, p1, _⟩ := I.tuple ha
  obtain ⟨its2, r2, p2, _⟩ := I.tuple hb
  have i1 : IntsAre its.toArray.toList ns := intsAre_of r1
  have i2 : IntsAre its2.toArray.toList ms := intsAre_of r2
  exact HT.lt_tupInts p1 p2 i1 i2 hu ⟨.bl (HT.lexLt ns ms), H, I, rfl, q⟩
/-- t + u, t not empty: u empty gives t itself -/
def rCatT (K : PySem.W.Frag) : R2 := fun x y H Q => ∃ a b xs ys, x = .ref a ∧ y = .ref b ∧ SqT K H a xs ∧ SqT K H b ys ∧ xs ≠ [] ∧ xs.length + ys.length ≤ sizeLine ∧
  (ys = [] → Q (.ref a) H) ∧ (ys ≠ [] → ∀ p, H p = none → Q (.ref p) (upd H p (.tup (xs ++ ys))))
theorem Vals.nil_iff {xs : List V} {us : List Value} (r : Vals xs us) : us = [] ↔ xs = [] := by
  cases r with
  | nil => simp
  | cons _ _ => simp
theorem op_catT : OpR X (binaryOp .Add) (rCatT X.K) := by
  intro pins s σ H x y v u Q I rx ry h
  obtain ⟨a, b, xs, ys, rfl, rfl, ha, hb, hx, hz, q1, q2⟩ := h
  cases rx
  cases ry
  obtain ⟨its, r1, p1, _⟩ := I.tuple ha
  obtain ⟨its2, r2, p2, _⟩ := I.tuple hb
  refine HT.cat_tup p1 p2 (fun z => hx (r1.nil_iff.mp z)) (fun z => ⟨.ref a, H, I, rfl, q1 (r2.nil_iff.mp z)⟩) (fun z => ?_) (by rw [← r1.length, ← r2.length]; exact hz)
  refine ⟨.ref s.heap.objs.size, _, I.laid (t' := s.toks) (o := .tup (xs ++ ys)) (fun b ob q => Heap.get?_push_of_some _ q) (Nat.le_refl _) ?_, rfl, q2 (fun w => z (r2.nil_iff.mpr w)) _ (I.hok.fresh (Nat.le_refl _))⟩
  exact ⟨by rw [List.length_append]; exact hz, _, r1.append r2, IsTup.new _ _⟩
/-- tuple(t) -/
theorem call_tupleT : CallR X (.type "tuple") (fun xs H Q => ∃ a ys, xs = [.ref a] ∧ SqT X.K H a ys ∧ Q (.ref a) H) := by
  intro pins s σ H xs us Q I r h
  obtain ⟨a, ys, rfl, ha, q⟩ := h
  obtain ⟨u, rfl, ru⟩ := vals1 r
  cases ru
  obtain ⟨its, _, p1, _⟩ := I.tuple ha
  exact call_tuple_same (items := its.toArray) p1 ⟨.ref a, H, I, rfl, q⟩
end
end L2

namespace L2
open PySem PySem.Spec PyProof.Rows

/-! ### places -/
/-- the place that an index of any sign means -/
def ixN (n : Nat) (i : Int) : Option Nat := if 0 ≤ i then (if i < n then some i.toNat else none) else if -(n : Int) ≤ i then some (i + n).toNat else none
def atI {α : Type} (xs : List α) (i : Int) : Option α := (ixN xs.length i).bind fun j => xs[j]?
theorem ixN_seq {n : Nat} {i : Int} {j : Nat} (h : ixN n i = some j) : seqIndex? i n = some j ∧ j < n ∧ -(n : Int) ≤ i ∧ i < n := by
  unfold ixN at h
  by_cases h0 : 0 ≤ i
  · rw [if_pos h0] at h
    by_cases h1 : i < n
    · rw [if_pos h1] at h
      have e : i.toNat = j := Option.some.inj h
      exact ⟨by rw [seqIndex_of h0 h1, e], by omega, by omega, h1⟩
    · rw [if_neg h1] at h; cases h
  · rw [if_neg h0] at h
    by_cases h1 : -(n : Int) ≤ i
    · rw [if_pos h1] at h
      have e : (i + n).toNat = j := Option.some.inj h
      exact ⟨by rw [seqIndex_neg (by omega) h1, e], by omega, h1, by omega⟩
    · rw [if_neg h1] at h; cases h
theorem atI_get {α : Type} {xs : List α} {i : Int} {v : α} (h : atI xs i = some v) : ∃ j, seqIndex? i xs.length = some j ∧ xs[j]? = some v ∧ j < xs.length ∧ -(xs.length : Int) ≤ i ∧ i < xs.length := by
  unfold atI at h
  cases e : ixN xs.length i with
  | none => rw [e] at h; cases h
  | some j =>
    rw [e] at h
    obtain ⟨h1, h2, h3, h4⟩ := ixN_seq e
    exact ⟨j, h1, h, h2, h3, h4⟩
theorem atI_nat {α : Type} {xs : List α} {j : Nat} {v : α} (h : xs[j]? = some v) : atI xs (j : Int) = some v := by
  have hj : j < xs.length := (List.getElem?_eq_some_iff.mp h).1
  have e : ixN xs.length (j : Int) = some j := by
    unfold ixN
    rw [if_pos (by omega), if_pos (by omega)]; simp
  unfold atI; rw [e]; exact h
theorem atI_last {α : Type} (xs : List α) (v : α) : atI (xs ++ [v]) (-1) = some v := by
  have hl : (xs ++ [v]).length = xs.length + 1 := by simp
  have e : ixN (xs ++ [v]).length (-1) = some xs.length := by
    unfold ixN
    rw [hl, if_neg (by decide), if_pos (by omega)]
    congr 1
    omega
  unfold atI
  rw [e]
  show (xs ++ [v])[xs.length]? = some v
  simp

/-! ### what may be subscripted -/
/-- what stands as an index of a plain subscript -/
def PlainIx (b : Expr) : Prop := ∀ o i, subscripted b false o i = operate [o, i] (getItem o i)
/-- a subscript by values -/
def IxR (X : Cx) (r : R2) : Prop :=
  ∀ (value slice : Expr) (pins : List (Addr × Obj)) (s : Shared) (σ : St) (H : Hp) (x y : V) (v u : Value) (Q : VK), Inv X pins σ H s → RelV x v → RelV y u → r x y H Q →
    subscripted slice false v u = operate [v, u] (getItem v u) → wpAny (model X.prog X.w) X.A (subscriptTail value slice v u) (EP X pins σ Q) X.xe s
/-- a call of a builtin's method by values: the receiver, the arguments -/
def MtR (X : Cx) (id : String) (r : V → List V → Hp → VK → Prop) : Prop :=
  ∀ (pins : List (Addr × Obj)) (s : Shared) (σ : St) (H : Hp) (x : V) (xs : List V) (v : Value) (us : List Value) (Q : VK), Inv X pins σ H s → RelV x v → Vals xs us → r x xs H Q →
    wpAny (model X.prog X.w) X.A (call (.builtin id) (v :: us)) (EP X pins σ Q) X.xe s
section
variable {X : Cx} {a b : Expr} {ta tb : TE} {pos : Pos}
theorem IxR.or {r r' : R2} (h : IxR X r) (h' : IxR X r') : IxR X (fun x y H Q => r x y H Q ∨ r' x y H Q) := by
  intro value slice pins s σ H x y v u Q I rx ry q hs
  rcases q with q | q
  · exact h value slice pins s σ H x y v u Q I rx ry q hs
  · exact h' value slice pins s σ H x y v u Q I rx ry q hs
theorem MtR.or {id : String} {r r' : V → List V → Hp → VK → Prop} (h : MtR X id r) (h' : MtR X id r') : MtR X id (fun x xs H Q => r x xs H Q ∨ r' x xs H Q) := by
  intro pins s σ H x xs v us Q I rx rs q
  rcases q with q | q
  · exact h pins s σ H x xs v us Q I rx rs q
  · exact h' pins s σ H x xs v us Q I rx rs q
/-- a[b] -/
theorem pe_ix {r : R2} (hr : IxR X r) (ha : PE X a ta) (hb : PE X b tb) (hs : PlainIx b) : PE X (.Subscript a b pos) (tOp r ta tb) := by
  refine ⟨?_⟩
  intro pins s σ H Q I h
  exact Subscript_ (binT ha hb I h fun v u s2 x y H2 I2 rx ry q => hr a b pins s2 σ H2 x y v u Q I2 rx ry q (hs _ _))

def rIxL (K : PySem.W.Frag) : R2 := fun x y H Q => ∃ p xs i v, x = .ref p ∧ y = .int i ∧ SqL K H p xs ∧ atI xs i = some v ∧ Q v H
def rIxT (K : PySem.W.Frag) : R2 := fun x y H Q => ∃ p xs i v, x = .ref p ∧ y = .int i ∧ SqT K H p xs ∧ atI xs i = some v ∧ Q v H
def rIxS : R2 := fun x y H Q => ∃ z i c, x = .str z ∧ y = .int i ∧ z.length ≤ sizeLine ∧ atI z.cps.toList i = some c ∧ Q (.str ⟨#[c]⟩) H
theorem ix_list : IxR X (rIxL X.K) := by
  intro value slice pins s σ H x y v u Q I rx ry h hs
  obtain ⟨p, xs, i, z, rfl, rfl, hq, he, q⟩ := h
  cases rx
  obtain ⟨t, rfl⟩ := ry
  obtain ⟨its, r, pl, hz⟩ := I.list hq
  obtain ⟨j, h1, h2, h3, h4, h5⟩ := atI_get he
  obtain ⟨w, ew, rw'⟩ := r.get h2
  have hl := r.length
  have hn := line63
  have fin : EP X pins σ Q w s := ⟨z, H, I, rw', q⟩
  by_cases h0 : 0 ≤ i
  · have hj : i.toNat = j := by
      rw [seqIndex_of h0 h5] at h1
      exact Option.some.inj h1
    exact item_listR pl.isList h0 (by omega) (by rw [hj]; simpa using ew) fin hs
  · have hj : (i + (its.toArray.size : Int)).toNat = j := by
      rw [seqIndex_neg (by omega) h4] at h1
      rw [List.size_toArray, ← hl]
      exact Option.some.inj h1
    exact subscriptTail_builtinR (x := w) pl.isList.typeIs slot_list_getitem.lookup
      (wpAny_getItem_list_neg (Q := fun r s' => r = w ∧ EP X pins σ Q r s') pl.isList (by omega) (by rw [List.size_toArray] <;> omega) (by omega) (by rw [hj]; simpa using ew) ⟨rfl, fin⟩) hs
theorem ix_tup : IxR X (rIxT X.K) := by
  intro value slice pins s σ H x y v u Q I rx ry h hs
  obtain ⟨p, xs, i, z, rfl, rfl, hq, he, q⟩ := h
  cases rx
  obtain ⟨t, rfl⟩ := ry
  obtain ⟨its, r, pl, hz⟩ := I.tuple hq
  obtain ⟨j, h1, h2, h3, h4, h5⟩ := atI_get he
  obtain ⟨w, ew, rw'⟩ := r.get h2
  have hl := r.length
  have hn := line63
  have fin : EP X pins σ Q w s := ⟨z, H, I, rw', q⟩
  exact subscriptTail_builtinR (x := w) pl.typeIs slot_tuple_getitem.lookup
    (getItem_tuple (j := j) (Q := fun r s' => r = w ∧ EP X pins σ Q r s') pl (by omega) (by omega) (by rw [List.size_toArray, ← hl]; exact h1) (by simpa using ew) ⟨rfl, fin⟩) hs
theorem ix_str : IxR X rIxS := by
  intro value slice pins s σ H x y v u Q I rx ry h hs
  obtain ⟨z, i, c, rfl, rfl, hz, he, q⟩ := h
  obtain ⟨t, rfl⟩ := rx
  obtain ⟨t', rfl⟩ := ry
  obtain ⟨j, h1, h2, h3, h4, h5⟩ := atI_get he
  have hl : z.cps.toList.length = z.length := by simp [Str.length]
  rw [hl] at h1 h4 h5
  have hn := line63
  exact tail_any (typeIs_str s z t) slot_str_getitem.lookup (getItem_str (c := c) (by
    have e1 : decide (i < -(2 ^ 63 : Int)) = false := decide_eq_false (by omega)
    have e2 : decide (i ≥ 2 ^ 63) = false := decide_eq_false (by omega)
    rw [e1, e2, Bool.or_false]) (by rw [h1]; simpa using h2) ⟨.str ⟨#[c]⟩, H, I.tok _, ⟨_, rfl⟩, q⟩) hs
/-- list, tuple or str -/
def rIx (K : PySem.W.Frag) : R2 := fun x y H Q => rIxL K x y H Q ∨ rIxT K x y H Q ∨ rIxS x y H Q
theorem ix_seq : IxR X (rIx X.K) := ix_list.or (ix_tup.or ix_str)

/-! ### xs[i] = v, any sign -/
/-- the list's object behind a store -/
theorem mapSeq_set (its : List Value) (n j : Nat) (u : Value) : Obj.mapSeq (·.setIfInBounds j u) { cls := .type "list", data := .seq its.toArray n } = { cls := .type "list", data := .seq (its.set j u).toArray n } := by
  simp [Obj.mapSeq]
theorem Inv.lst {pins : List (Addr × Obj)} {σ : St} {H : Hp} {s : Shared} {p : Addr} {xs : List V} (I : Inv X pins σ H s) (h : H p = some (.lst xs)) :
    ∃ (its : List Value) (n : Nat), Vals xs its ∧ s.heap.get? p = some { cls := .type "list", data := .seq its.toArray n } ∧ xs.length ≤ sizeLine := by
  obtain ⟨z, its, n, r, e⟩ := I.hok p _ h
  exact ⟨its, n, r, e, z⟩
/-- the list at p is written by an update of its object -/
theorem Inv.lstUpd {pins : List (Addr × Obj)} {σ : St} {H : Hp} {s : Shared} {p : Addr} {xs ys : List V} {its its' : List Value} {n n' : Nat} {f : Obj → Obj} (I : Inv X pins σ H s) (h : H p = some (.lst xs))
    (ho : s.heap.get? p = some { cls := .type "list", data := .seq its.toArray n }) (hf : f { cls := .type "list", data := .seq its.toArray n } = { cls := .type "list", data := .seq its'.toArray n' }) (r : Vals ys its') (hz : ys.length ≤ sizeLine) (t : Nat) :
    Inv X pins σ (upd H p (.lst ys)) { s with heap := s.heap.update p f, toks := t } := by
  have e : (s.heap.update p f).get? p = some { cls := .type "list", data := .seq its'.toArray n' } := by
    rw [Heap.get?_update_self f ho (by rw [hf] <;> rfl), hf]
  refine I.write (x := p) (e := p) (by rw [h]; trivial) (.inl rfl) (fun b u hb q => (Heap.get?_update_other _ _ (Ne.symm hb)).trans q) ⟨_, e⟩ ?_
  exact ⟨hz, its', n', r, e⟩
def rSetL : V → V → V → Hp → (Hp → Prop) → Prop := fun o i v H Q => ∃ p xs k j, o = .ref p ∧ i = .int k ∧ H p = some (.lst xs) ∧ ixN xs.length k = some j ∧ Q (upd H p (.lst (xs.set j v)))
theorem set_list : PSet X rSetL := by
  intro pins s σ H o i v ov iv u Q I ro ri rv h
  obtain ⟨p, xs, k, j, rfl, rfl, hp, hj, q⟩ := h
  cases ro
  obtain ⟨t, rfl⟩ := ri
  obtain ⟨its, n, r, ho, hz⟩ := I.lst hp
  obtain ⟨h1, h2, h3, h4⟩ := ixN_seq hj
  have hl := r.length
  have hn := line63
  have I' : Inv X pins σ (upd H p (.lst (xs.set j v))) { s with heap := s.heap.update p (Obj.mapSeq (·.setIfInBounds j u)) } :=
    I.lstUpd hp ho (mapSeq_set its n j u) (r.set rv j) (by rw [List.length_set]; exact hz) s.toks
  by_cases h0 : 0 ≤ k
  · have hk : k.toNat = j := by
      rw [seqIndex_of h0 h4] at h1
      exact Option.some.inj h1
    exact PySem.W.ki_setAt ho h0 (by omega) (by rw [List.size_toArray, ← hl]; exact h4) (by rw [hk]; exact ⟨_, I', q⟩)
  · have hk : (k + (its.toArray.size : Int)).toNat = j := by
      rw [seqIndex_neg (by omega) h3] at h1
      rw [List.size_toArray, ← hl]
      exact Option.some.inj h1
    exact PySem.W.ki_setBack ho (by omega) (by rw [List.size_toArray, ← hl]; exact h3) (by omega) (by rw [hk]; exact ⟨_, I', q⟩)

/-! ### slices -/
theorem slice_bounds (lo hi : Option Int) (n : Nat) : (sliceBounds lo hi none n).1 = ((HT.sIx n 0 lo : Nat) : Int) ∧ (sliceBounds lo hi none n).2.1 = ((HT.sIx n n hi : Nat) : Int) ∧ (sliceBounds lo hi none n).2.2 = 1 := by
  refine ⟨?_, ?_, rfl⟩
  · cases lo with
    | none => simp [sliceBounds, HT.sIx]
    | some i =>
      simp only [sliceBounds, HT.sIx, Option.getD_none, show (1 : Int) > 0 by decide, if_true]
      by_cases h : i < 0
      · simp only [h, if_true] <;> omega
      · simp only [h, if_false] <;> omega
  · cases hi with
    | none => simp [sliceBounds, HT.sIx]
    | some i =>
      simp only [sliceBounds, HT.sIx, Option.getD_none, show (1 : Int) > 0 by decide, if_true]
      by_cases h : i < 0
      · simp only [h, if_true] <;> omega
      · simp only [h, if_false] <;> omega
theorem slicePick_cut (its : List Value) (lo hi : Option Int) : slicePick its.toArray lo hi none = ((its.drop (HT.sIx its.length 0 lo)).take (HT.sIx its.length its.length hi - HT.sIx its.length 0 lo)).toArray := by
  obtain ⟨h1, h2, h3⟩ := slice_bounds lo hi its.toArray.size
  unfold slicePick
  rw [h1, h2, h3]
  simp only [sliceRange_one, pick_run, List.size_toArray] <;> rfl
/-- xs[lo:hi] of a list: a new list -/
def rSlL (K : PySem.W.Frag) : V → Option Int → Option Int → Hp → VK → Prop := fun x lo hi H Q => ∃ a xs, x = .ref a ∧ SqL K H a xs ∧ ∀ p, H p = none → Q (.ref p) (upd H p (.lst (cutV xs lo hi)))
theorem sl_list : SlR X (rSlL X.K) := by
  intro pins s σ H x v vl vu lo hi sl Q I rx hs pl pu h
  obtain ⟨a, xs, rfl, hx, q⟩ := h
  cases rx
  obtain ⟨its, r, ht, hz⟩ := I.list hx
  have hlen := r.length
  refine ⟨"list", _, slot_list_getitem.lookup, ht.isList.typeIs, ?_⟩
  refine wpAny_getItem_list_slice ht.isList hs pl pu .none (by simp) ?_ (by rw [List.size_toArray] <;> omega)
  rw [slicePick_cut, ← hlen]
  refine ⟨.ref s.heap.objs.size, _, I.laid (t' := s.toks) (o := .lst (cutV xs lo hi)) (fun b ob q => Heap.get?_push_of_some _ q) (Nat.le_refl _) ?_, rfl, q _ (I.hok.fresh (Nat.le_refl _))⟩
  exact ⟨Nat.le_trans (cutV_length xs lo hi) hz, _, 0, (r.drop (HT.sIx xs.length 0 lo)).take (HT.sIx xs.length xs.length hi - HT.sIx xs.length 0 lo), Heap.get?_push_size _ rfl⟩

/-! ### in, not in: flat items -/
def flatV : V → Bool
  | .non => true
  | .bl _ => true
  | .int _ => true
  | .str _ => true
  | _ => false
/-- == of flat values -/
def eqV : V → V → Bool
  | .non, .non => true
  | .bl a, .bl b => a == b
  | .bl a, .int b => (if a then 1 else 0) == b
  | .int a, .bl b => a == (if b then 1 else 0)
  | .int a, .int b => a == b
  | .str a, .str b => a == b
  | _, _ => false
theorem eqAt_V {A : Around} {s : Shared} {y x : V} {u v : Value} (ry : RelV y u) (rx : RelV x v) (fy : flatV y = true) (fx : flatV x = true) : SeqAt.EqAt A s u v (eqV y x) := by
  cases y with
  | non =>
    cases ry
    cases x with
    | non => cases rx; exact SeqAt.EqAt.same _
    | bl b => cases rx; exact SeqAt.EqAt.none_bool b
    | int b => obtain ⟨t, rfl⟩ := rx; exact SeqAt.EqAt.none_int b t
    | str b => obtain ⟨t, rfl⟩ := rx; exact SeqAt.EqAt.none_str b t
    | _ => exact absurd (show false = true from fx) Bool.false_ne_true
  | bl a =>
    cases ry
    cases x with
    | non => cases rx; exact SeqAt.EqAt.bool_none a
    | bl b => cases rx; exact SeqAt.EqAt.bool_bool a b
    | int b => obtain ⟨t, rfl⟩ := rx; exact SeqAt.EqAt.bool_int a b t
    | str b => obtain ⟨t, rfl⟩ := rx; exact SeqAt.EqAt.bool_str a b t
    | _ => exact absurd (show false = true from fx) Bool.false_ne_true
  | int a =>
    obtain ⟨t', rfl⟩ := ry
    cases x with
    | non => cases rx; exact SeqAt.EqAt.int_none a t'
    | bl b => cases rx; exact SeqAt.EqAt.int_bool a t' b
    | int b => obtain ⟨t, rfl⟩ := rx; exact SeqAt.EqAt.int_int a t' b t
    | str b => obtain ⟨t, rfl⟩ := rx; exact SeqAt.EqAt.int_str a t' b t
    | _ => exact absurd (show false = true from fx) Bool.false_ne_true
  | str a =>
    obtain ⟨t', rfl⟩ := ry
    cases x with
    | non => cases rx; exact SeqAt.EqAt.str_none a t'
    | bl b => cases rx; exact SeqAt.EqAt.str_bool a t' b
    | int b => obtain ⟨t, rfl⟩ := rx; exact SeqAt.EqAt.str_int a t' b t
    | str b => obtain ⟨t, rfl⟩ := rx; exact SeqAt.EqAt.str_str a t' b t
    | _ => exact absurd (show false = true from fx) Bool.false_ne_true
  | _ => exact absurd (show false = true from fy) Bool.false_ne_true
/-- the items' answers, read off the values (a value's own answer does not lean on its token) -/
def eqU (x : V) (u : Value) : Bool := match u with
  | .none => eqV .non x
  | .bool b => eqV (.bl b) x
  | .int i _ => eqV (.int i) x
  | .str z _ => eqV (.str z) x
  | _ => false
theorem eqU_of {x y : V} {u : Value} (r : RelV y u) (f : flatV y = true) : eqU x u = eqV y x := by
  cases y with
  | non => cases r; rfl
  | bl b => cases r; rfl
  | int i => obtain ⟨t, rfl⟩ := r; rfl
  | str z => obtain ⟨t, rfl⟩ := r; rfl
  | _ => exact absurd (show false = true from f) Bool.false_ne_true
theorem any_eqU {x : V} : ∀ {xs : List V} {us : List Value}, Vals xs us → xs.all flatV = true → us.any (eqU x) = xs.any fun y => eqV y x
  | _, _, .nil, _ => rfl
  | y :: xs, u :: us, .cons r t, f => by
    rw [List.all_cons, Bool.and_eq_true] at f
    rw [List.any_cons, List.any_cons, eqU_of r f.1, any_eqU t f.2]
theorem mem_eqAt {A : Around} {s : Shared} {x : V} {v : Value} (rx : RelV x v) (fx : flatV x = true) : ∀ {xs : List V} {us : List Value}, Vals xs us → xs.all flatV = true → ∀ u ∈ us, SeqAt.EqAt A s u v (eqU x u)
  | _, _, .nil, _ => fun u hu => by cases hu
  | y :: xs, u :: us, .cons r t, f => fun u' hu => by
    rw [List.all_cons, Bool.and_eq_true] at f
    rcases List.mem_cons.mp hu with rfl | hu
    · rw [eqU_of r f.1]; exact eqAt_V r rx f.1 fx
    · exact mem_eqAt rx fx t f.2 u' hu
def inV (x : V) (xs : List V) : Bool := xs.any fun y => eqV y x
/-- x in a list or tuple of flat items -/
def rIn (K : PySem.W.Frag) (neg : Bool) : R2 := fun x y H Q => ∃ p xs, y = .ref p ∧ (SqL K H p xs ∨ SqT K H p xs) ∧ flatV x = true ∧ xs.all flatV = true ∧ Q (.bl (if neg then !inV x xs else inV x xs)) H
theorem op_in_seq : OpR X (compareOp .In) (rIn X.K false) := by
  intro pins s σ H x y v u Q I rx ry h
  obtain ⟨p, xs, rfl, hq, fx, fs, q⟩ := h
  cases ry
  rcases hq with hq | hq
  · obtain ⟨its, r, pl, hz⟩ := I.list hq
    refine SeqAt.in_listAt (eqU x) pl.isList (fun w hw => mem_eqAt rx fx r fs w (by simpa using hw)) ⟨.bl _, H, I, rfl, ?_⟩
    rw [show its.toArray.any (eqU x) = its.any (eqU x) by simp, any_eqU r fs]
    exact q
  · obtain ⟨its, r, pl, hz⟩ := I.tuple hq
    refine SeqAt.in_tupleAt (eqU x) pl (fun w hw => mem_eqAt rx fx r fs w (by simpa using hw)) ⟨.bl _, H, I, rfl, ?_⟩
    rw [show its.toArray.any (eqU x) = its.any (eqU x) by simp, any_eqU r fs]
    exact q
theorem op_notIn_seq : OpR X (compareOp .NotIn) (rIn X.K true) := by
  intro pins s σ H x y v u Q I rx ry h
  obtain ⟨p, xs, rfl, hq, fx, fs, q⟩ := h
  cases ry
  rcases hq with hq | hq
  · obtain ⟨its, r, pl, hz⟩ := I.list hq
    refine SeqAt.notIn_listAt (eqU x) pl.isList (fun w hw => mem_eqAt rx fx r fs w (by simpa using hw)) ⟨.bl _, H, I, rfl, ?_⟩
    rw [show its.toArray.any (eqU x) = its.any (eqU x) by simp, any_eqU r fs]
    exact q
  · obtain ⟨its, r, pl, hz⟩ := I.tuple hq
    refine SeqAt.notIn_tupleAt (eqU x) pl (fun w hw => mem_eqAt rx fx r fs w (by simpa using hw)) ⟨.bl _, H, I, rfl, ?_⟩
    rw [show its.toArray.any (eqU x) = its.any (eqU x) by simp, any_eqU r fs]
    exact q
theorem op_notIn_str : OpR X (compareOp .NotIn) (fun x y H Q => ∃ i j, x = .str i ∧ y = .str j ∧ Q (.bl (!(!(Builtin.Str.occurrences j i 0 j.length 1).isEmpty))) H) := by
  intro pins s σ H x y v u Q I rx ry h
  obtain ⟨i, j, rfl, rfl, q⟩ := h
  obtain ⟨t, rfl⟩ := rx
  obtain ⟨t', rfl⟩ := ry
  exact notIn_str ⟨.bl _, H, I, rfl, q⟩

/-! ### len, list(x), tuple(x) of any list or tuple that is read -/
theorem call_len_seq : CallR X (.builtin "len") (fun xs H Q => ∃ p ys, xs = [.ref p] ∧ (SqL X.K H p ys ∨ SqT X.K H p ys) ∧ Q (.int ys.length) H) := by
  intro pins s σ H xs us Q I r h
  obtain ⟨p, ys, rfl, hq, q⟩ := h
  obtain ⟨u, rfl, rx⟩ := vals1 r
  cases rx
  have hn := line63
  rcases hq with hq | hq
  · obtain ⟨its, r', pl, hz⟩ := I.list hq
    have hlen := r'.length
    exact Calls.call_len_list pl.isList (by simp only [List.size_toArray] <;> omega) ⟨.int ys.length, H, I.tok _, ⟨s.toks + 1, by rw [List.size_toArray, hlen]⟩, q⟩
  · obtain ⟨its, r', pl, hz⟩ := I.tuple hq
    have hlen := r'.length
    exact len_tuple pl (by simp only [List.size_toArray] <;> omega) ⟨.int ys.length, H, I.tok _, ⟨s.toks + 1, by rw [List.size_toArray, hlen]⟩, q⟩
theorem call_len_str : CallR X (.builtin "len") (fun xs H Q => ∃ z, xs = [.str z] ∧ z.length ≤ sizeLine ∧ Q (.int z.length) H) := by
  intro pins s σ H xs us Q I r h
  obtain ⟨z, rfl, hz, q⟩ := h
  obtain ⟨u, rfl, t, rfl⟩ := vals1 r
  have hn := line63
  exact len_str (by omega) ⟨.int z.length, H, I.tok _, ⟨_, rfl⟩, q⟩
theorem CallR.or {f : Value} {r r' : List V → Hp → VK → Prop} (h : CallR X f r) (h' : CallR X f r') : CallR X f (fun xs H Q => r xs H Q ∨ r' xs H Q) := by
  intro pins s σ H xs us Q I rs q
  rcases q with q | q
  · exact h pins s σ H xs us Q I rs q
  · exact h' pins s σ H xs us Q I rs q
theorem call_list_of : CallR X (.type "list") (fun xs H Q => ∃ p ys, xs = [.ref p] ∧ (SqL X.K H p ys ∨ SqT X.K H p ys) ∧ ∀ l, H l = none → Q (.ref l) (upd H l (.lst ys))) := by
  intro pins s σ H xs us Q I r h
  obtain ⟨p, ys, rfl, hq, q⟩ := h
  obtain ⟨u, rfl, rx⟩ := vals1 r
  cases rx
  have fin : ∀ (its : List Value), Vals ys its → ys.length ≤ sizeLine → ∀ (h' : Heap) (c' : Nat), (∀ b o', s.heap.get? b = some o' → h'.get? b = some o') →
      h'.get? s.heap.objs.size = some { cls := .type "list", dict := none, data := .seq its.toArray c', slots := #[] } → EP X pins σ Q (.ref s.heap.objs.size) { s with heap := h' } := fun its r' hz h' c' kp e =>
    ⟨.ref s.heap.objs.size, _, I.laid (t' := s.toks) kp (Nat.le_refl _) (show ObjOk X.prog X.w _ h' _ (.lst ys) from ⟨hz, its, c', r', e⟩), rfl, q _ (I.hok.fresh (Nat.le_refl _))⟩
  rcases hq with hq | hq
  · obtain ⟨its, r', pl, hz⟩ := I.list hq
    have hlen := r'.length
    obtain ⟨o, ho, hc, n, hd⟩ := pl.isList
    exact call_list_seq p (.inl rfl) ho hc hd (fun h' c' kp e => fin its r' hz h' c' kp e) (by simp only [List.size_toArray] <;> omega)
  · obtain ⟨its, r', pl, hz⟩ := I.tuple hq
    have hlen := r'.length
    obtain ⟨o, ho, hc, n, hd⟩ := pl
    exact call_list_seq p (.inr rfl) ho hc hd (fun h' c' kp e => fin its r' hz h' c' kp e) (by simp only [List.size_toArray] <;> omega)
theorem call_tuple_of : CallR X (.type "tuple") (fun xs H Q => ∃ p ys, xs = [.ref p] ∧ ((SqL X.K H p ys ∧ ∀ l, H l = none → Q (.ref l) (upd H l (.tup ys))) ∨ (SqT X.K H p ys ∧ Q (.ref p) H))) := by
  intro pins s σ H xs us Q I r h
  obtain ⟨p, ys, rfl, h⟩ := h
  obtain ⟨u, rfl, rx⟩ := vals1 r
  cases rx
  rcases h with ⟨hq, q⟩ | ⟨hq, q⟩
  · obtain ⟨its, r', pl, hz⟩ := I.list hq
    have hlen := r'.length
    refine call_tuple_list pl.isList (fun h' kp => ?_) (by simp only [List.size_toArray] <;> omega)
    have I1 : Inv X pins σ H { s with heap := h' } := I.kept (t' := s.toks) kp
    have I2 : Inv X pins σ (upd H h'.objs.size (.tup ys)) { s with heap := h'.push { cls := .type "tuple", data := .seq its.toArray } } :=
      I1.laid (t' := s.toks) (fun b o e => Heap.get?_push_of_some _ e) (Nat.le_refl _) (show ObjOk X.prog X.w _ _ _ (.tup ys) from ⟨hz, its, r', IsTup.new _ _⟩)
    exact ⟨.ref h'.objs.size, _, I2, rfl, q _ (I1.hok.fresh (Nat.le_refl _))⟩
  · obtain ⟨its, r', pl, hz⟩ := I.tuple hq
    exact call_tuple_same pl ⟨.ref p, H, I, rfl, q⟩

/-! ### the call of a builtin's method: o.m(..) -/
/-- the value is of that builtin type -/
def tyV (K : PySem.W.Frag) (T : String) (x : V) (H : Hp) : Prop := match x with
  | .str _ => T = "str"
  | .int _ => T = "int"
  | .ref p => (T = "list" ∧ ∃ xs, SqL K H p xs) ∨ (T = "tuple" ∧ ∃ o, K.lookup p = some o ∧ o.cls = .type "tuple" ∧ o.dict = none) ∨
      (T = "dict" ∧ ((∃ kvs, H p = some (.dK kvs)) ∨ ∃ kvs, H p = some (.dT kvs))) ∨ (T = "set" ∧ ∃ S n, H p = some (.set S n))
  | _ => False
theorem tyV_is {pins : List (Addr × Obj)} {σ : St} {H : Hp} {s : Shared} {T : String} {x : V} {v : Value} (I : Inv X pins σ H s) (r : RelV x v) (ty : tyV X.K T x H) :
    s.TypeIs v T ∧ ∀ a, v = .ref a → ∃ ob, s.heap.get? a = some ob ∧ ob.dict = none := by
  cases x with
  | str z =>
    obtain ⟨t, rfl⟩ := r
    cases (show T = "str" from ty)
    exact ⟨typeIs_str s z t, fun _ e => nomatch e⟩
  | int i =>
    obtain ⟨t, rfl⟩ := r
    cases (show T = "int" from ty)
    exact ⟨typeIs_int s i t, fun _ e => nomatch e⟩
  | ref p =>
    cases r
    rcases ty with ⟨rfl, xs, hq⟩ | ⟨rfl, o, hk, hc, hd⟩ | ⟨rfl, hk⟩ | ⟨rfl, S, n, hk⟩
    · obtain ⟨its, _, pl, _⟩ := I.list hq
      refine ⟨pl.isList.typeIs, fun a e => ?_⟩
      cases e
      obtain ⟨o, n, e, c, hd, _⟩ := pl
      exact ⟨o, e, hd⟩
    · refine ⟨⟨o, I.kIn p o hk, hc⟩, fun a e => ?_⟩
      cases e
      exact ⟨o, I.kIn _ o hk, hd⟩
    · have z : ∃ o, s.heap.get? p = some o ∧ o.ExactDict := by
        rcases hk with ⟨kvs, hk⟩ | ⟨kvs, hk⟩
        · obtain ⟨_, _, _, _, o, _, _, e, ex, _⟩ := I.hok p _ hk
          exact ⟨o, e, ex⟩
        · obtain ⟨_, _, _, _, o, _, _, e, ex, _⟩ := I.hok p _ hk
          exact ⟨o, e, ex⟩
      obtain ⟨o, e, ex⟩ := z
      refine ⟨⟨o, e, ex.1⟩, fun a e2 => ?_⟩
      cases e2
      exact ⟨o, e, ex.2.1⟩
    · obtain ⟨o, _, _, _, e, ex, _⟩ := I.hok p _ hk
      refine ⟨⟨o, e, ex.1⟩, fun a e2 => ?_⟩
      cases e2
      exact ⟨o, e, ex.2.1⟩
  | _ => exact False.elim ty
def tBM0 (K : PySem.W.Frag) (T : String) (r : V → List V → Hp → VK → Prop) (to : TE) : TE := fun σ H Q => to σ H fun x H1 => tyV K T x H1 ∧ r x [] H1 Q
def tBM (K : PySem.W.Frag) (T : String) (r : V → List V → Hp → VK → Prop) (to : TE) (t : TA) : TE := fun σ H Q => to σ H fun x H1 => tyV K T x H1 ∧ t σ H1 fun xs H2 => r x xs H2 Q
variable {o e : Expr} {es : List Expr} {to : TE} {t : TA} {name : Str} {apos cpos : Pos} {T id : String} {r : V → List V → Hp → VK → Prop}
theorem pe_bm0 (pa : PlainAttrs T) (slot : Slot T name id) (hty : typeOf (.builtin id) = pure (.type "method_descriptor")) (hm : MtR X id r) (ho : PE X o to)
    (hbase : attributeBase o name X.env (eval o X.env) = eval o X.env := by rfl) (hline : (apos.endLine == cpos.line) = true := by rfl) : PE X (.Call (.Attribute o name apos) [] [] cpos) (tBM0 X.K T r to) := by
  refine ⟨?_⟩
  intro pins s σ H Q I h
  refine wpAny_Call_method0_late hbase hline (thn (ho pins s σ H _ I h) fun v s1 ⟨x, H1, I1, r1, ty, q1⟩ => ?_)
  obtain ⟨h1, h2⟩ := tyV_is I1 r1 ty
  exact ⟨T, id, pa, slot, hty, h1, h2, Calls.callWith_builtin rfl (PySem.evalArgs_none (hm pins s1 σ H1 x [] v [] Q I1 r1 .nil q1))⟩
theorem pe_bm (pa : PlainAttrs T) (slot : Slot T name id) (hty : typeOf (.builtin id) = pure (.type "method_descriptor")) (hm : MtR X id r) (ho : PE X o to) (ha : PA X (e :: es) t)
    (hbase : attributeBase o name X.env (eval o X.env) = eval o X.env := by rfl)
    (hfew : ((backTo cpos (starEach (e :: es) X.env)).all (fun x => !x.1) && (backToKw cpos (keywordEach [] X.env)).all (fun x => x.1.isSome)
      && decide ((e :: es).length + ([] : List Keyword).length + (if ([] : List Keyword).isEmpty then 0 else 1) < 30)) = true := by rfl)
    (hline : (apos.endLine == cpos.line) = true := by rfl) (hs : starEach (e :: es) X.env = (false, eval e X.env) :: starEach es X.env := by rfl) (hplain : (backTo cpos (starEach es X.env)).any (·.1) = false := by rfl) :
    PE X (.Call (.Attribute o name apos) (e :: es) [] cpos) (tBM X.K T r to t) := by
  refine ⟨?_⟩
  intro pins s σ H Q I h
  refine wpAny_Call_method_late hbase hfew hline rfl (thn (ho pins s σ H _ I h) fun v s1 ⟨x, H1, I1, r1, ty, q1⟩ => ?_)
  obtain ⟨h1, h2⟩ := tyV_is I1 r1 ty
  refine ⟨T, id, pa, slot, hty, h1, h2, ?_⟩
  have hA := ha cpos pins s1 σ H1 _ I1 q1
  rw [hs] at hA ⊢
  refine Calls.callWith_builtin (by show (false || (backTo cpos (starEach es X.env)).any (·.1)) = false; rw [hplain] <;> rfl) (Calls.evalArgs_plain ?_)
  exact thn hA fun us s2 ⟨vs, H2, I2, r2, q2⟩ => hm pins s2 σ H2 x vs v us Q I2 r1 r2 q2
/- xs.append(e), list.index on a module's tuple .. are MtR facts of 06m -/
end
end L2

namespace L2
open PySem PySem.Spec PyProof.Rows

def MtM (X : Cx) (id : String) (r : V → List V → Hp → VK → Prop) : Prop :=
  ∀ (pins : List (Addr × Obj)) (s : Shared) (σ : St) (H : Hp) (x : V) (xs : List V) (v : Value) (us : List Value) (Q : VK), Inv X pins σ H s → RelV x v → Vals xs us → r x xs H Q →
    wpAny (model X.prog X.w) X.A (call (.builtin id) (v :: us)) (EP X pins σ Q) X.xe s

/-! ### lists of values -/
theorem Vals.one : ∀ {x : V} {us : List Value}, Vals [x] us → ∃ u, us = [u] ∧ RelV x u
  | _, _, .cons r .nil => ⟨_, rfl, r⟩
theorem Vals.two : ∀ {x y : V} {us : List Value}, Vals [x, y] us → ∃ u v, us = [u, v] ∧ RelV x u ∧ RelV y v
  | _, _, _, .cons r (.cons q .nil) => ⟨_, _, rfl, r, q⟩
theorem Vals.zero : ∀ {us : List Value}, Vals [] us → us = []
  | _, .nil => rfl
theorem Vals.dropLast {xs : List V} {us : List Value} (h : Vals xs us) : Vals xs.dropLast us.dropLast := by
  induction h with
  | nil => exact .nil
  | cons r t ih =>
    cases t with
    | nil => exact .nil
    | cons q t' => exact .cons r ih
theorem Vals.eraseIdx : ∀ {xs : List V} {us : List Value} (i : Nat), Vals xs us → Vals (xs.eraseIdx i) (us.eraseIdx i)
  | _, _, _, .nil => .nil
  | _, _, 0, .cons _ t => t
  | _, _, i + 1, .cons r t => .cons r (Vals.eraseIdx i t)
theorem Vals.reverse {xs : List V} {us : List Value} (h : Vals xs us) : Vals xs.reverse us.reverse := by
  induction h with
  | nil => exact .nil
  | cons r t ih => rw [List.reverse_cons, List.reverse_cons]; exact Vals.append ih (.cons r .nil)
theorem Vals.rep {xs : List V} {us : List Value} (h : Vals xs us) : ∀ k : Nat, Vals (List.replicate k xs).flatten (List.replicate k us).flatten
  | 0 => .nil
  | k + 1 => by
    rw [List.replicate_succ, List.replicate_succ, List.flatten_cons, List.flatten_cons]
    exact Vals.append h (Vals.rep h k)
theorem erase_last {α : Type} (l : List α) : l.eraseIdx (l.length - 1) = l.dropLast := by
  induction l with
  | nil => rfl
  | cons a r ih =>
    cases r with
    | nil => rfl
    | cons b r =>
      have e : (a :: b :: r).length - 1 = ((b :: r).length - 1) + 1 := by
        have h1 : (a :: b :: r).length = r.length + 2 := rfl
        have h2 : (b :: r).length = r.length + 1 := rfl
        omega
      rw [e, List.eraseIdx_cons_succ, ih]
      all_goals rfl
theorem len_erase {α : Type} : ∀ (l : List α) (i : Nat), (l.eraseIdx i).length ≤ l.length
  | [], _ => Nat.le_refl _
  | _ :: _, 0 => Nat.le_succ _
  | _ :: r, i + 1 => Nat.succ_le_succ (len_erase r i)
theorem foldl_rep (its : List Value) : ∀ (k : Nat) (acc : List Value),
    List.foldl (fun x1 x2 => x1 ++ x2) acc.toArray (List.replicate k its.toArray) = (acc ++ (List.replicate k its).flatten).toArray
  | 0, acc => by simp
  | k + 1, acc => by
    have e : acc.toArray ++ its.toArray = (acc ++ its).toArray := by simp
    have e2 : (acc ++ its) ++ (List.replicate k its).flatten = acc ++ (List.replicate (k + 1) its).flatten := by
      rw [List.replicate_succ, List.flatten_cons, List.append_assoc]
    rw [← e2, ← foldl_rep its k (acc ++ its), ← e, List.replicate_succ, List.foldl_cons]

section
variable {X : Cx} {pins : List (Addr × Obj)} {σ : St} {H : Hp} {s : Shared} {l b : Addr} {xs ys zs : List V}

/-! ### the two steps: a tracked list is rewritten, a new list is laid -/
theorem Inv.lset {its its' : List Value} {n : Nat} {f : Array Value → Array Value} {t' : Nat} (I : Inv X pins σ H s) (hH : H l = some (.lst xs))
    (e : s.heap.get? l = some { cls := .type "list", data := .seq its.toArray n }) (hf : f its.toArray = its'.toArray) (hv : Vals ys its') (hz : ys.length ≤ sizeLine) :
    Inv X pins σ (upd H l (.lst ys)) { s with heap := s.heap.update l (Obj.mapSeq f), toks := t' } := by
  have q := PySem.IsL.update e f
  rw [hf] at q
  refine I.write (x := l) (e := l) (by rw [hH]; exact trivial) (.inl rfl) (fun b' u hb hu => (Heap.get?_update_other s.heap (Obj.mapSeq f) (Ne.symm hb)).trans hu) ⟨_, q⟩ ?_
  exact ⟨hz, its', _, hv, q⟩
theorem Inv.lnew {its : List Value} {t' : Nat} (I : Inv X pins σ H s) (hv : Vals ys its) (hz : ys.length ≤ sizeLine) :
    Inv X pins σ (upd H s.heap.objs.size (.lst ys)) { s with heap := s.heap.push { cls := .type "list", data := .seq its.toArray }, toks := t' } :=
  I.laid (fun _ _ q => Heap.get?_push_of_some _ q) (Nat.le_refl _) ⟨hz, its, 0, hv, Heap.get?_push_size _ rfl⟩
theorem Inv.fresh (I : Inv X pins σ H s) : H s.heap.objs.size = none := I.hok.fresh (Nat.le_refl _)
theorem Inv.lstM (I : Inv X pins σ H s) (hH : H l = some (.lst xs)) : xs.length ≤ sizeLine ∧ ∃ (its : List Value) (n : Nat), Vals xs its ∧ xs.length = its.length ∧ s.heap.get? l = some { cls := .type "list", data := .seq its.toArray n } := by
  obtain ⟨z, its, n, r, e⟩ := I.hok l _ hH
  exact ⟨z, its, n, r, r.length, e⟩

theorem notLongL {n : Nat} (h : n ≤ sizeLine) : Builtin.List.listTooLong n = false := by
  unfold Builtin.List.listTooLong
  exact decide_eq_false (by omega)
end

section
variable {X : Cx}

/-! ### methods -/
def rAppend : V → List V → Hp → VK → Prop := fun x vs H Q => ∃ l xs y, x = .ref l ∧ vs = [y] ∧ H l = some (.lst xs) ∧ xs.length < sizeLine ∧ Q .non (upd H l (.lst (xs ++ [y])))
theorem mt_append : MtM X "list.append" rAppend := by
  intro pins s σ H x vs v us Q I rx rv h
  obtain ⟨l, xs, y, rfl, rfl, hH, hz, q⟩ := h
  cases rx
  obtain ⟨u, rfl, ru⟩ := rv.one
  obtain ⟨z, its, n, r, hl, e⟩ := I.lstM hH
  refine call_meets F.slot_list_append ⟨_, e, rfl⟩ F.entry_list_append (F.args_list_append_2 _ _) (PySem.list_append l its.toArray n u (by rw [List.size_toArray]; omega)) ⟨e, ?_⟩
  refine ⟨.non, _, I.lset (its' := its ++ [u]) hH e (by simp) (r.append (.cons ru .nil)) ?_, rfl, q⟩
  rw [List.length_append, List.length_singleton]
  omega

def rExtend : V → List V → Hp → VK → Prop := fun x vs H Q => ∃ l b xs zs, x = .ref l ∧ vs = [.ref b] ∧ H l = some (.lst xs) ∧ H b = some (.lst zs) ∧ xs.length + zs.length ≤ sizeLine ∧ Q .non (upd H l (.lst (xs ++ zs)))
theorem mt_extend : MtM X "list.extend" rExtend := by
  intro pins s σ H x vs v us Q I rx rv h
  obtain ⟨l, b, xs, zs, rfl, rfl, hH, hB, hz, q⟩ := h
  cases rx
  obtain ⟨u, rfl, ru⟩ := rv.one
  cases ru
  obtain ⟨z, its, n, r, hl, e⟩ := I.lstM hH
  obtain ⟨z2, its2, n2, r2, hl2, e2⟩ := I.lstM hB
  have hsz : its.toArray.size + its2.toArray.size ≤ sizeLine := by rw [List.size_toArray, List.size_toArray]; omega
  have hlong : ¬ (!its.toArray.isEmpty && Builtin.List.listTooLong (its.toArray.size + its2.toArray.size)) = true := by
    rw [notLongL hsz, Bool.and_false]
    exact Bool.false_ne_true
  refine call_meets F.slot_list_extend ⟨_, e, rfl⟩ F.entry_list_extend (F.args_list_extend_2 _ _)
    (AutoSeq1.list_extend_list_list_0 l its.toArray n b its2.toArray n2 hlong (by rw [List.size_toArray]; omega) (by omega)) ⟨e, e2, ?_⟩
  refine ⟨.non, _, I.lset (its' := its ++ its2) hH e (by simp) (r.append r2) ?_, rfl, q⟩
  rw [List.length_append]
  omega

def rPop : V → List V → Hp → VK → Prop := fun x vs H Q => ∃ l xs y, x = .ref l ∧ vs = [] ∧ H l = some (.lst xs) ∧ xs[xs.length - 1]? = some y ∧ Q y (upd H l (.lst xs.dropLast))
theorem mt_pop : MtM X "list.pop" rPop := by
  intro pins s σ H x vs v us Q I rx rv h
  obtain ⟨l, xs, y, rfl, rfl, hH, hy, q⟩ := h
  cases rx
  have hus := rv.zero
  subst hus
  obtain ⟨z, its, n, r, hl, e⟩ := I.lstM hH
  obtain ⟨u, hu, ru⟩ := r.get hy
  have hy' : its.toArray[its.toArray.size - 1]? = some u := by
    show its.toArray[its.length - 1]? = some u
    rw [← Array.getElem?_toList, ← hl]
    exact hu
  refine call_meets F.slot_list_pop ⟨_, e, rfl⟩ F.entry_list_pop (F.args_list_pop_1 _) (MeetsSeq.list_pop_last l its.toArray n u hy' (by rw [List.size_toArray]; omega)) ⟨e, ?_⟩
  refine ⟨y, _, I.lset (its' := its.dropLast) hH e ?_ r.dropLast ?_, ru, q⟩
  · show its.toArray.eraseIdxIfInBounds (its.toArray.size - 1) = its.dropLast.toArray
    rw [List.size_toArray, List.eraseIdxIfInBounds_toArray, erase_last]
  · rw [List.length_dropLast]
    omega

def rPopAt : V → List V → Hp → VK → Prop := fun x vs H Q => ∃ l xs i k y, x = .ref l ∧ vs = [.int i] ∧ H l = some (.lst xs) ∧ -(2 ^ 63) ≤ i ∧ i < 2 ^ 63 ∧ seqIndex? i xs.length = some k ∧ xs[k]? = some y ∧ Q y (upd H l (.lst (xs.eraseIdx k)))
theorem mt_popAt : MtM X "list.pop" rPopAt := by
  intro pins s σ H x vs v us Q I rx rv h
  obtain ⟨l, xs, i, k, y, rfl, rfl, hH, h1, h2, hk, hy, q⟩ := h
  cases rx
  obtain ⟨u, rfl, ru⟩ := rv.one
  obtain ⟨t, rfl⟩ := ru
  obtain ⟨z, its, n, r, hl, e⟩ := I.lstM hH
  obtain ⟨w, hw, rw'⟩ := r.get hy
  refine call_meets F.slot_list_pop ⟨_, e, rfl⟩ F.entry_list_pop (F.args_list_pop_2 _ _)
    (MeetsSeq.list_pop_at l its.toArray n i t k w (fitsIndex_both h1 h2) (by rw [List.size_toArray, ← hl]; exact hk) (by rw [← Array.getElem?_toList]; exact hw) (by rw [List.size_toArray]; omega)) ⟨e, ?_⟩
  refine ⟨y, _, I.lset (its' := its.eraseIdx k) hH e ?_ (r.eraseIdx k) ?_, rw', q⟩
  · show its.toArray.eraseIdxIfInBounds k = (its.eraseIdx k).toArray
    rw [List.eraseIdxIfInBounds_toArray]
  · have := len_erase xs k
    omega

def rReverse : V → List V → Hp → VK → Prop := fun x vs H Q => ∃ l xs, x = .ref l ∧ vs = [] ∧ H l = some (.lst xs) ∧ Q .non (upd H l (.lst xs.reverse))
theorem mt_reverse : MtM X "list.reverse" rReverse := by
  intro pins s σ H x vs v us Q I rx rv h
  obtain ⟨l, xs, rfl, rfl, hH, q⟩ := h
  cases rx
  have hus := rv.zero
  subst hus
  obtain ⟨z, its, n, r, hl, e⟩ := I.lstM hH
  refine call_meets F.slot_list_reverse ⟨_, e, rfl⟩ F.entry_list_reverse (F.args_list_reverse_1 _) (AutoSeq1.list_reverse_list_0 l its.toArray n (by rw [List.size_toArray]; omega)) ⟨e, ?_⟩
  refine ⟨.non, _, I.lset (its' := its.reverse) hH e (by simp) r.reverse ?_, rfl, q⟩
  rw [List.length_reverse]
  omega

def rClear : V → List V → Hp → VK → Prop := fun x vs H Q => ∃ l xs, x = .ref l ∧ vs = [] ∧ H l = some (.lst xs) ∧ Q .non (upd H l (.lst []))
theorem mt_clear : MtM X "list.clear" rClear := by
  intro pins s σ H x vs v us Q I rx rv h
  obtain ⟨l, xs, rfl, rfl, hH, q⟩ := h
  cases rx
  have hus := rv.zero
  subst hus
  obtain ⟨z, its, n, r, hl, e⟩ := I.lstM hH
  refine call_meets F.slot_list_clear ⟨_, e, rfl⟩ F.entry_list_clear (F.args_list_clear_1 _) (AutoSeq1.list_clear_list_0 l its.toArray n (by rw [List.size_toArray]; omega)) ⟨e, ?_⟩
  exact ⟨.non, _, I.lset (its' := []) (ys := []) hH e rfl .nil (Nat.zero_le _), rfl, q⟩

/-! ### list + list, list += list, list * int -/
def rCat : R2 := fun x y H Q => ∃ l b xs zs, x = .ref l ∧ y = .ref b ∧ H l = some (.lst xs) ∧ H b = some (.lst zs) ∧ xs.length + zs.length ≤ sizeLine ∧ ∀ p, H p = none → Q (.ref p) (upd H p (.lst (xs ++ zs)))
theorem op_cat : OpR X (binaryOp .Add) rCat := by
  intro pins s σ H x y v u Q I rx ry h
  obtain ⟨l, b, xs, zs, rfl, rfl, hH, hB, hz, q⟩ := h
  cases rx
  cases ry
  obtain ⟨z, its, n, r, hl, e⟩ := I.lstM hH
  obtain ⟨z2, its2, n2, r2, hl2, e2⟩ := I.lstM hB
  refine PySem.P.add_list e e2 ?_ (by rw [List.size_toArray, List.size_toArray]; omega)
  have ea : its.toArray ++ its2.toArray = (its ++ its2).toArray := by simp
  rw [ea]
  exact ⟨.ref _, _, I.lnew (t' := s.toks) (r.append r2) (by rw [List.length_append]; omega), rfl, q _ I.fresh⟩
/-- a list times an int (a negative one is nothing) -/
def rRep : R2 := fun x y H Q => ∃ l k xs, x = .ref l ∧ y = .int k ∧ H l = some (.lst xs) ∧ -(2 ^ 63) ≤ k ∧ k < 2 ^ 63 ∧ xs.length * k.toNat ≤ sizeLine ∧
  ∀ p, H p = none → Q (.ref p) (upd H p (.lst (List.replicate k.toNat xs).flatten))
theorem len_rep {α : Type} (xs : List α) (k : Nat) : (List.replicate k xs).flatten.length = k * xs.length := by
  induction k with
  | zero => simp
  | succ k ih => rw [List.replicate_succ, List.flatten_cons, List.length_append, ih, Nat.succ_mul, Nat.add_comm]
theorem op_rep : OpR X (binaryOp .Mult) rRep := by
  intro pins s σ H x y v u Q I rx ry h
  obtain ⟨l, k, xs, rfl, rfl, hH, h1, h2, hz, q⟩ := h
  cases rx
  obtain ⟨t, rfl⟩ := ry
  obtain ⟨z, its, n, r, hl, e⟩ := I.lstM hH
  have hlen : its.toArray.size * k.toNat ≤ sizeLine := by rw [List.size_toArray, ← hl]; exact hz
  have hcap : ¬ its.toArray.size * k.toNat > (2 ^ 63 - 1) / 8 := by
    have : (sizeLine : Nat) ≤ (2 ^ 63 - 1) / 8 := by decide
    omega
  have hfit : ¬ (!Builtin.List.listFitsIndex k) = true := by
    rw [fitsIndex_both h1 h2]
    exact Bool.false_ne_true
  have hlong : ¬ Builtin.List.listTooLong (its.toArray.size * k.toNat) = true := by
    rw [notLongL hlen]
    exact Bool.false_ne_true
  have hnew : List.foldl (fun x1 x2 => x1 ++ x2) #[] (List.replicate (if its.toArray.isEmpty = true then 0 else k.toNat) its.toArray) = (List.replicate k.toNat its).flatten.toArray := by
    have f0 : ∀ m : Nat, List.foldl (fun x1 x2 => x1 ++ x2) #[] (List.replicate m its.toArray) = (List.replicate m its).flatten.toArray := fun m => by
      have := foldl_rep its m []
      rw [List.nil_append] at this
      exact this
    rw [f0]
    cases its with
    | nil => simp
    | cons a r' => rw [if_neg (by simp)]
  refine wpAny_binaryOp_repeat_ref (T := "list") (U := "int") (by decide) ⟨_, e, rfl⟩ (fun s' => typeIs_int s' k t) noFill_list_mul F.fills_int_mul F.slot_int_rmul repeat_list F.slot_int_index.lookup
    (call_meets F.slot_int_rmul (typeIs_int s k t) F.entry_int_rmul (F.args_int_rmul_2 _ _) (int___rmul___int_list k t l its.toArray n)
      ⟨e, rfl, ⟨_, e, rfl⟩, call_meets F.slot_list_mul ⟨_, e, rfl⟩ F.entry_list_mul (F.args_list_mul_2 _ _) (AutoListH.list___mul___list_int_3 l its.toArray n k t hfit hcap hlong) ⟨e, ?_⟩⟩)
  rw [hnew]
  exact ⟨.ref _, _, I.lnew (t' := s.toks) (r.rep k.toNat) (by rw [len_rep, Nat.mul_comm]; exact hz), rfl, q _ I.fresh⟩

/-! ### del xs[i] -/
theorem del_list {pins : List (Addr × Obj)} {s : Shared} {σ : St} {H : Hp} {l : Addr} {xs : List V} {i : Int} {t : Tok} {k : Nat} {Q : Unit → Shared → Prop} (I : Inv X pins σ H s) (hH : H l = some (.lst xs))
    (h1 : -(2 ^ 63) ≤ i) (h2 : i < 2 ^ 63) (hk : seqIndex? i xs.length = some k) (h : ∀ s', Inv X pins σ (upd H l (.lst (xs.eraseIdx k))) s' → Q () s') :
    wpAny (model X.prog X.w) X.A (delItem (.ref l) (.int i t)) Q X.xe s := by
  obtain ⟨z, its, n, r, hl, e⟩ := I.lstM hH
  refine PySem.P.delItem_list (k := k) e (fitsIndex_both h1 h2) (by rw [List.size_toArray, ← hl]; exact hk) (h _ ?_) (by rw [List.size_toArray]; omega)
  refine I.lset (its' := its.eraseIdx k) (t' := s.toks) hH e ?_ (r.eraseIdx k) ?_
  · show its.toArray.eraseIdxIfInBounds k = (its.eraseIdx k).toArray
    rw [List.eraseIdxIfInBounds_toArray]
  · have := len_erase xs k
    omega
end

/-! ### xs[a:b] = ys -/
section
variable {prog : Program} {w : World} {A : Around} {E : Value → Shared → Prop} {s : Shared}
theorem splice_eq (its its2 : List Value) (a c : Nat) : its.toArray.extract 0 a ++ its2.toArray ++ its.toArray.extract c its.toArray.size = (its.take a ++ its2 ++ its.drop c).toArray := by
  apply Array.toList_inj.mp
  first
    | (simp
       exact List.take_of_length_le (by simp))
    | simp [List.take_of_length_le]
    | simp
theorem bounds_run {a c n : Nat} (hac : a ≤ c) (hc : c ≤ n) : sliceBounds (some (a : Int)) (some (c : Int)) none n = ((a : Int), (c : Int), 1) := by
  simp only [sliceBounds, Option.getD_none]
  have h1 : ¬ ((a : Int) < 0) := by omega
  have h2 : ¬ ((c : Int) < 0) := by omega
  simp only [h1, h2, if_false, show (1 : Int) > 0 by decide, if_true]
  congr 1
  · omega
  · congr 1; omega
set_option maxRecDepth 100000 in
/-- list.__setitem__ with a slice of step one and another list -/
theorem setItem_slice {l b sl : Addr} {items new : Array Value} {n n2 : Nat} {vl vu : Value} {a c : Nat} {Q : Unit → Shared → Prop}
    (e : s.heap.get? l = some { cls := .type "list", data := .seq items n }) (e2 : s.heap.get? b = some { cls := .type "list", data := .seq new n2 }) (hne : l ≠ b)
    (hs : s.heap.IsSliceOf sl vl vu .none) (pl : IsPart vl (some (a : Int))) (pu : IsPart vu (some (c : Int))) (hac : a ≤ c) (hc : c ≤ items.size)
    (hsz : items.size + new.size ≤ sizeLine) (h : Q () { s with heap := s.heap.update l (Obj.mapSeq fun xs => xs.extract 0 a ++ new ++ xs.extract c xs.size) }) :
    wpAny (model prog w) A (setItem (.ref l) (.ref sl) (.ref b)) Q E s := by
  have hl : s.heap.IsList l items := PySem.IsL.isList e
  have hb : s.heap.IsList b new := PySem.IsL.isList e2
  obtain ⟨os, hos, hcs, hds⟩ := id hs
  have hTs : s.TypeIs (.ref sl) "slice" := ⟨os, hos, hcs⟩
  have hstep : ¬ ((rawPart none == rawInt 0) = true) := Bool.false_ne_true
  have hsame : Builtin.List.listSameRef (.ref l) (.ref b) = false := by
    unfold Builtin.List.listSameRef
    exact beq_eq_false_iff_ne.mpr hne
  have hmax : (max (a : Int) (c : Int)).toNat = c := by omega
  have hz' : ((fun xs : Array Value => xs.extract 0 a ++ new ++ xs.extract c xs.size) items).size ≤ sizeLine + 1 := by
    simp only [Array.size_append, Array.size_extract]
    omega
  unfold setItem
  try with_reducible refine wpAny_holding ?_
  first | refine wpAny_bind (wpAny_pure ?_) | skip
  refine wpAny_bind (wpAny_sequenceKey hl.typeIs (by decide) ?_)
  refine wpAny_bind (wpAny_callSpecial?_slot (name := Str.ofString "__setitem__") hl.typeIs slot_list_setitem
    (wpAny_call_entry slot_list_setitem hl.typeIs entry_list_setitem ?_ (args_list_setitem _ _ _)))
  show wpAny _ _ (Builtin.List.listSubscript? (.ref sl) >>= _) _ _ s
  refine wpAny_bind ?_
  unfold Builtin.List.listSubscript?
  refine wpAny_bind (wpAny_specialOf hTs slice_no_index ?_)
  simp only [Option.isNone_none, if_true]
  refine wpAny_pure ?_
  show wpAny _ _ (typeOf (.ref sl) >>= _) _ _ s
  refine wpAny_bind (wpAny_typeOf hTs ?_)
  first
    | rw [if_neg (by decide)]
    | refine PySem.W.KFB.if_not (by decide) ?_
  rw [listSliceParts_eq]
  refine wpAny_bind (wpAny_bind (wpAny_field hos hds (x := .none) rfl (wpAny_bind (wpAny_listPart .none ?_))))
  rw [if_neg hstep]
  refine wpAny_bind (wpAny_field hos hds (x := vl) rfl (wpAny_bind (wpAny_listPart pl ?_)))
  refine wpAny_bind (wpAny_field hos hds (x := vu) rfl (wpAny_bind (wpAny_listPart pu (wpAny_pure ?_))))
  first
    | simp only [hsame, Bool.false_eq_true, if_false]
    | refine PySem.W.KFB.if_not hsame ?_
    | (dsimp only
       rw [if_neg (by rw [hsame]; exact Bool.false_ne_true)])
  refine wpAny_bind (m := Builtin.List.listAllItems (.ref b) "must assign iterable to extended slice") ?_
  unfold Builtin.List.listAllItems
  refine wpAny_bind (wpAny_typeOf hb.typeIs ?_)
  first
    | refine PySem.W.KFB.if_so (by decide) ?_
    | rw [if_pos (by decide)]
    | simp only [beq_self_eq_true, Bool.true_or, if_true]
  unfold Builtin.List.listItems
  refine wpAny_bind (wpAny_seqItems e2 rfl (wpAny_pure ?_))
  refine wpAny_bind (wpAny_bind (wpAny_seqItems e rfl (wpAny_pure ?_)))
  refine wpAny_bind (wpAny_of_eq ((sliceIndices_raw (some (a : Int)) (some (c : Int)) none items.size (by simp)).trans (congrArg (pure : Int × Int × Int → Sem (Int × Int × Int)) (bounds_run hac hc))) ?_)
  show wpAny _ _ (if ((1 : Int) == 1) = true then _ else _) _ _ s
  rw [if_pos (by decide)]
  refine wpAny_bind (wpAny_rule ?_)
  first
    | simp only [notLongL hsz, Bool.false_eq_true, if_false]
    | refine PySem.W.KFB.if_not (notLongL hsz) ?_
  first | refine wpAny_bind (wpAny_pure ?_) | skip
  show wpAny _ _ (updateSeq l (fun xs => xs.extract 0 ((a : Int)).toNat ++ new ++ xs.extract (max (a : Int) (c : Int)).toNat xs.size) >>= _) _ _ s
  rw [hmax, Int.toNat_natCast]
  refine wpAny_bind (wpAny_updateSeq (hz := Nat.le_trans (Nat.le_add_right _ _) hsz) (_hz' := hz') e rfl ?_)
  refine wpAny_bind (wpAny_letGo ?_)
  first
    | exact wpAny_bind (wpAny_pure (wpAny_pure ⟨.none, rfl, wpAny_pure h⟩))
    | exact wpAny_pure ⟨.none, rfl, wpAny_pure h⟩
end

section
variable {X : Cx}
/-- xs[a:c] = ys of another list, at the value level: sl is the slice object that was just made -/
theorem set_slice {pins : List (Addr × Obj)} {s : Shared} {σ : St} {H : Hp} {l b sl : Addr} {xs ys : List V} {a c : Int} {vl vu : Value} {Q : Unit → Shared → Prop} (I : Inv X pins σ H s)
    (hH : H l = some (.lst xs)) (hB : H b = some (.lst ys)) (hne : l ≠ b) (hs : s.heap.IsSliceOf sl vl vu .none) (ra : RelV (.int a) vl) (rc : RelV (.int c) vu) (h0 : 0 ≤ a) (hac : a ≤ c) (hc : c ≤ xs.length)
    (hz : xs.length + ys.length ≤ sizeLine) (h : ∀ s', Inv X pins σ (upd H l (.lst (xs.take a.toNat ++ ys ++ xs.drop c.toNat))) s' → Q () s') :
    wpAny (model X.prog X.w) X.A (setItem (.ref l) (.ref sl) (.ref b)) Q X.xe s := by
  obtain ⟨ta, rfl⟩ := ra
  obtain ⟨tc, rfl⟩ := rc
  obtain ⟨z, its, n, r, hl, e⟩ := I.lstM hH
  obtain ⟨z2, its2, n2, r2, hl2, e2⟩ := I.lstM hB
  obtain ⟨a', rfl⟩ := Int.eq_ofNat_of_zero_le h0
  obtain ⟨c', rfl⟩ := Int.eq_ofNat_of_zero_le (Int.le_trans h0 hac)
  simp only [Int.toNat_natCast] at h
  refine setItem_slice (a := a') (c := c') e e2 hne hs (.int _ _) (.int _ _) (by omega) (by rw [List.size_toArray]; omega) (by rw [List.size_toArray, List.size_toArray]; omega) (h _ ?_)
  refine I.lset (its' := its.take a' ++ its2 ++ its.drop c') (t' := s.toks) hH e ?_ (Vals.append (Vals.append (r.take _) r2) (r.drop _)) ?_
  · exact splice_eq its its2 a' c'
  · rw [List.length_append, List.length_append, List.length_take, List.length_drop]
    omega
end
end L2

namespace Att
open PySem PySem.W PySem.Calls PyProof.Rows

/-! ### the script -/
theorem ints_of_wellAll {P : Params} {h : Heap} : ∀ (ns : List Int) (vs : List Value), WellAll P h vs (ns.map WData.int) → IntsAre vs ns := by
  intro ns
  induction ns with
  | nil =>
    intro vs w
    rw [List.map_nil] at w
    cases w
    exact .nil
  | cons n ns ih =>
    intro vs w
    rw [List.map_cons] at w
    cases w with
    | cons a b =>
      cases a
      exact .cons _ _ (ih _ b)

theorem script_of {l : OpenLaw} {n : Nat} (hn : l.most = some n) {P : Params} {h : Heap} {args : List WData} {vals : List Value}
    (hpre : l.row.toRowW.claim.pre args = true) (hwl : WellAll P h vals args) :
    ∃ a vs ns, vals = [Value.ref a] ∧ args = [WData.list (ns.map WData.int)] ∧ h.get? a = some { cls := .type "list", data := .seq vs.toArray } ∧ IntsAre vs ns ∧ ns.length ≤ n := by
  have hsh : WShape.hasAll [] args [.list .int] = true := (pre_splitW hpre).1
  have hc : l.pre.holds [] { args := args } = true := (pre_splitW hpre).2
  obtain ⟨d, r, rfl, h1, h2⟩ := hasAllW_cons hsh
  obtain rfl := hasAllW_nil h2
  obtain ⟨xs, rfl, h3⟩ := hasW_list h1
  obtain ⟨ns, rfl⟩ := items_int h3
  have hlen : ns.length ≤ n := by
    unfold OpenLaw.pre at hc
    have h4 : (WTm.not (.lt (.lit (.int (n : Int))) (.len (.arg 0)))).holds [] { args := [.list (ns.map .int)] } = true := by
      have h4 := (holds_andW hc).1
      rw [hn] at h4
      exact h4
    have h5 := condW_of h4 (w_not (w_lt w_lit (w_len_list (w_arg rfl))))
    rw [List.length_map] at h5
    refine Nat.le_of_not_lt fun q => ?_
    have q' : (n : Int) < ((ns.length : Nat) : Int) := by omega
    first
      | (rw [decide_eq_true q'] at h5; exact absurd h5 (by decide))
      | (simp at h5; omega)
  cases hwl with
  | cons w1 w2 =>
    cases w2
    cases w1 with
    | list ho hall => exact ⟨_, _, ns, rfl, rfl, ho, ints_of_wellAll ns _ hall, hlen⟩

theorem post_true (l : OpenLaw) (args : List WData) : l.row.toRowW.claim.post args (.bool true) args = true :=
  postW_of (r := l.row.toRowW) (X := (true == true))
    (show WShape.has [] (.bool true) .bool = true by first | rfl | decide | simp [WShape.has, WShape.arms, WShape.armsAll])
    (show (WTm.eq .res (.lit (.bool true))).value [] { args := args, res := some (.bool true), after := args } = some (.bool (true == true)) from w_eq_bool (w_res rfl) w_lit) rfl

/-! ### the attachment: holds_open's last premise (the goal 'hc' behind k_head) from a wpAny of the law's body -/
theorem attach {l : OpenLaw} {n : Nat} {q : Program} {loose : List Str} {XP : (Str → Option Value) → Heap → Prop} {YP : World → Heap → Prop} {d : DefRec} {x : Str}
    (hn : l.most = some n) (hdf : d.params.defaults = [])
    (hbind : ∀ pm cd doc v : Value, bindArgs (docDef d.name d.params d.body d.scope pm cd doc) ⟨[v], []⟩ = pure [(x, v)])
    (hx : d.scope.names.lookup x = some .local ∨ d.scope.names.lookup x = some .cell)
    (hk : d.scope.kind = .function) (hco : d.scope.isCoroutine = false) (hgen : d.scope.isGenerator = false)
    (body : ∀ (w : World) (s₀ s₁ s : Shared) (mg mb : Str → Option Value) (fa : Addr) (o : Obj) (pm cd doc : Value) (a : Addr) (vs : List Value) (ns : List Int),
      Ground q loose [] XP w s₀ mg mb s₁.heap → YP w s₁.heap →
      s₁.heap.get? fa = some o → o.data = .func (docDef d.name d.params d.body d.scope pm cd doc) → s₁.heap.CodeRec cd d.name → mg d.name = some (.ref fa) →
      s₁.heap.get? a = some { cls := .type "list", data := .seq vs.toArray } → IntsAre vs ns → ns.length ≤ n →
      s.gens = #[] → s.os = s₁.os →
      Fr s₁.heap s₁.heap.objs.size s.heap (bindL (envOfC d.name d.scope s₁.heap.objs.size fa cd).kindOf [(x, .ref a)] fun _ => none) →
      Cl s₁.heap.objs.size (cellsFrom (s₁.heap.objs.size + 1) d.scope.names []) s.heap (bindC (envOfC d.name d.scope s₁.heap.objs.size fa cd).kindOf [(x, .ref a)] fun _ => none) →
      wpAny (model l.prog w) (callerA.deeper (envOfC d.name d.scope s₁.heap.objs.size fa cd)) (execs d.body (envOfC d.name d.scope s₁.heap.objs.size fa cd))
        (fun f s' => f = .ret (.bool true) ∧ OldK s₁.heap s'.heap ∧ s'.os = s₁.os ∧ AllBare s'.gens) (fun _ _ => False) s) :
    WalkO q loose XP YP l.row.toRowW d [] (fun f vs => PySem.call f vs) := by
  intro w s₀ s₁ mg mb G Y fa o pm cd doc dV kV ho hd hcd hD hmg hg args vals as hpre hlay hrd hwl hlo
  obtain rfl : dV = .none := Dflts.none hD hdf
  obtain rfl : kV = .none := Dflts.noKw hD
  obtain ⟨a, vs, ns, rfl, rfl, hobj, hints, hlen⟩ := script_of hn hpre hwl
  refine enter_call ?_
  refine call_cells_ret (o := o) (by rw [depth_caller]; decide) ho (fd_plain hd) G.T.nolimit hcd (hbind pm cd doc (.ref a)) (fun y hy => ?_) (fun h₁ tk F X => ?_) hco hgen hk
  · obtain rfl : y = (x, Value.ref a) := List.mem_singleton.mp hy
    rcases hx with e | e
    · exact .inl e
    · exact .inr ⟨e, cellsFrom_some _ _ _ (.inl e)⟩
  · refine wpAny_mono (body w s₀ s₁ { s₁ with heap := h₁, toks := tk } mg mb fa o pm cd doc a vs ns G Y ho (fd_plain hd) hcd hmg hobj hints hlen hg rfl F X) (fun f s' hq => ?_) (fun _ _ hq => hq)
    obtain ⟨rfl, h2, h3, h4⟩ := hq
    exact ⟨.inl ⟨.bool true, .bool true, [], rfl, fun _ => rfl, .bool true, post_true l _, fun _ => ⟨List.Pairwise.nil, fun _ hm => (nomatch hm)⟩⟩, h2, h3, h4⟩

/-- the same from a codeAny of the CALL (for a layer whose function contracts speak of calls) -/
theorem attach_call {l : OpenLaw} {n : Nat} {q : Program} {loose : List Str} {XP : (Str → Option Value) → Heap → Prop} {YP : World → Heap → Prop} {d : DefRec}
    (hn : l.most = some n) (hdf : d.params.defaults = [])
    (call : ∀ (w : World) (s₀ s₁ : Shared) (mg mb : Str → Option Value) (fa : Addr) (o : Obj) (pm cd doc : Value) (a : Addr) (vs : List Value) (ns : List Int),
      Ground q loose [] XP w s₀ mg mb s₁.heap → YP w s₁.heap →
      s₁.heap.get? fa = some o → o.data = .func (docDef d.name d.params d.body d.scope pm cd doc) → s₁.heap.CodeRec cd d.name → mg d.name = some (.ref fa) →
      s₁.heap.get? a = some { cls := .type "list", data := .seq vs.toArray } → IntsAre vs ns → ns.length ≤ n → s₁.gens = #[] →
      codeAny (model l.prog w) callerA (.call (.ref fa) ⟨[.ref a], []⟩) (fun r s' => r = .ok (.ret (.bool true)) ∧ OldK s₁.heap s'.heap ∧ s'.os = s₁.os ∧ AllBare s'.gens) s₁) :
    WalkO q loose XP YP l.row.toRowW d [] (fun f vs => PySem.call f vs) := by
  intro w s₀ s₁ mg mb G Y fa o pm cd doc dV kV ho hd hcd hD hmg hg args vals as hpre hlay hrd hwl hlo
  obtain rfl : dV = .none := Dflts.none hD hdf
  obtain rfl : kV = .none := Dflts.noKw hD
  obtain ⟨a, vs, ns, rfl, rfl, hobj, hints, hlen⟩ := script_of hn hpre hwl
  refine enter_call (codeAny_mono (call w s₀ s₁ mg mb fa o pm cd doc a vs ns G Y ho (fd_plain hd) hcd hmg hobj hints hlen hg) fun r s' hq => ?_)
  obtain ⟨rfl, h2, h3, h4⟩ := hq
  exact ⟨.inl ⟨.bool true, .bool true, [], rfl, fun _ => rfl, .bool true, post_true l _, fun _ => ⟨List.Pairwise.nil, fun _ hm => (nomatch hm)⟩⟩, h2, h3, h4⟩

/-- the same where the top left finished generators (o_head chose holds_openN): nothing may have changed at all and no generator may be left -/
theorem attachN {l : OpenLaw} {n : Nat} {q : Program} {loose : List Str} {XP : (Str → Option Value) → Heap → Prop} {YP : World → Heap → Prop} {d : DefRec} {x : Str}
    (hn : l.most = some n) (hdf : d.params.defaults = [])
    (hbind : ∀ pm cd doc v : Value, bindArgs (docDef d.name d.params d.body d.scope pm cd doc) ⟨[v], []⟩ = pure [(x, v)])
    (hx : d.scope.names.lookup x = some .local ∨ d.scope.names.lookup x = some .cell)
    (hk : d.scope.kind = .function) (hco : d.scope.isCoroutine = false) (hgen : d.scope.isGenerator = false)
    (body : ∀ (w : World) (s₀ s₁ s : Shared) (mg mb : Str → Option Value) (fa : Addr) (o : Obj) (pm cd doc : Value) (a : Addr) (vs : List Value) (ns : List Int),
      Ground q loose [] XP w s₀ mg mb s₁.heap → YP w s₁.heap →
      s₁.heap.get? fa = some o → o.data = .func (docDef d.name d.params d.body d.scope pm cd doc) → s₁.heap.CodeRec cd d.name → mg d.name = some (.ref fa) →
      s₁.heap.get? a = some { cls := .type "list", data := .seq vs.toArray } → IntsAre vs ns → ns.length ≤ n →
      s.gens = #[] → s.os = s₁.os →
      Fr s₁.heap s₁.heap.objs.size s.heap (bindL (envOfC d.name d.scope s₁.heap.objs.size fa cd).kindOf [(x, .ref a)] fun _ => none) →
      Cl s₁.heap.objs.size (cellsFrom (s₁.heap.objs.size + 1) d.scope.names []) s.heap (bindC (envOfC d.name d.scope s₁.heap.objs.size fa cd).kindOf [(x, .ref a)] fun _ => none) →
      wpAny (model l.prog w) (callerA.deeper (envOfC d.name d.scope s₁.heap.objs.size fa cd)) (execs d.body (envOfC d.name d.scope s₁.heap.objs.size fa cd))
        (fun f s' => f = .ret (.bool true) ∧ (∀ b o, s₁.heap.get? b = some o → s'.heap.get? b = some o) ∧ s'.os = s₁.os ∧ s'.gens = #[]) (fun _ _ => False) s) :
    WalkN q loose XP YP l.row.toRowW d [] (fun f vs => PySem.call f vs) := by
  intro w s₀ s₁ mg mb G Y fa o pm cd doc dV kV ho hd hcd hD hmg hg args vals as hpre hlay hrd hwl hlo
  obtain rfl : dV = .none := Dflts.none hD hdf
  obtain rfl : kV = .none := Dflts.noKw hD
  obtain ⟨a, vs, ns, rfl, rfl, hobj, hints, hlen⟩ := script_of hn hpre hwl
  refine enter_callW ?_
  refine call_cells_ret (o := o) (by rw [depth_caller]; decide) ho (fd_plain hd) G.T.nolimit hcd (hbind pm cd doc (.ref a)) (fun y hy => ?_) (fun h₁ tk F X => ?_) hco hgen hk
  · obtain rfl : y = (x, Value.ref a) := List.mem_singleton.mp hy
    rcases hx with e | e
    · exact .inl e
    · exact .inr ⟨e, cellsFrom_some _ _ _ (.inl e)⟩
  · refine wpAny_mono (body w s₀ s₁ { s₁ with heap := h₁, toks := tk } mg mb fa o pm cd doc a vs ns G Y ho (fd_plain hd) hcd hmg hobj hints hlen hg rfl F X) (fun f s' hq => ?_) (fun _ _ hq => hq)
    obtain ⟨rfl, h2, h3, h4⟩ := hq
    exact ⟨.inl ⟨.bool true, .bool true, [], rfl, fun _ => rfl, .bool true, post_true l _, fun _ => ⟨List.Pairwise.nil, fun _ hm => (nomatch hm)⟩⟩, h2, h3, h4⟩

/-! ### rules over ANY heap (no ledger) from facts about the written part K: the library's own take a ledger (News) for what they write -/
section
variable {prog : Program} {w : World} {A : Around} {E : Value → Shared → Prop} {s : Shared} {K : Frag}

/-- a def of the module, or a method (qual 'C.m'), entered: the frame is the next address; cells behind it -/
theorem call_fn {R : Result → Shared → Prop} {name qual : Str} {params : Arguments} {body : List Stmt} {scope : Scope} {dV kV doc pm cdv ct oc : Value} {an od : Option Addr} {osl : Array (Option Value)} {f : Addr} {args : Args} {binds : List (Str × Value)}
    (X : K.In s.heap) (hlim : s.heap.NoLimit) (ho : K.lookup f = some ⟨oc, od, .func (fnOf name qual params body scope dV kV doc pm an cdv ct), osl⟩) (hcd : codeIn K cdv qual = true) (hroom : A.depth < recursionLimit)
    (hbind : BindsTo s (fnOf name qual params body scope dV kV doc pm an cdv ct) args binds)
    (hkind : (binds.all fun y => scope.names.lookup y.1 == some .local || scope.names.lookup y.1 == some .cell) = true)
    (h : ∀ s₁, InCallC s s.heap.objs.size (bindL (envOfC qual scope s.heap.objs.size f cdv).kindOf binds fun _ => none) (cellsFrom (s.heap.objs.size + 1) scope.names [])
        (bindC (envOfC qual scope s.heap.objs.size f cdv).kindOf binds fun _ => none) s₁ →
      wpAny (model prog w) (A.deeper (envOfC qual scope s.heap.objs.size f cdv)) (execs body (envOfC qual scope s.heap.objs.size f cdv))
        (fun fl s' => R (.ok (.ret (match fl with | .ret v => v | _ => .none))) s')
        (fun e s' => wpAny (model prog w) (A.deeper (envOfC qual scope s.heap.objs.size f cdv)) (leaving (envOfC qual scope s.heap.objs.size f cdv) e) (fun _ s'' => R (.error e) s'') (fun e' s'' => R (.error e') s'') s') s₁)
    (hco : scope.isCoroutine = false) (hgen : scope.isGenerator = false) (hk : scope.kind = .function) : codeAny (model prog w) A (.call (.ref f) args) R s := by
  refine codeAny_call_function hroom (X _ _ ho) rfl hco hgen rfl (codeRec_of X hcd) (hbind _ _ _ _ ?_)
  refine wpAny_newFunctionEnv_cells hk (kindsX hkind _) fun env he s₁ x => ?_
  subst he
  exact ⟨hlim.keeps x.toInCall.keep, codeAny_func (h s₁ x)⟩

/-- C(..): dict at size, instance at size + 1, then __init__ -/
theorem make_obj {R : Result → Shared → Prop} {C fI : Addr} {rest : List Value} {kw : List (Str × Value)}
    (X : K.In s.heap) (hm : makesIn K C = true) (hi : findIn K (.ref C) "__init__" = some (some (.ref fI))) (hf : isFn K (.ref fI) = true)
    (h : codeAny (model prog w) (A.under (.builtin "type.__call__" ⟨.ref C :: rest, kw⟩)) (.call (.ref fI) ⟨.ref (s.heap.objs.size + 1) :: rest, kw⟩) (InitBack (s.heap.objs.size + 1) R)
      { s with heap := (s.heap.push emptyDict).push (instObj C s.heap.objs.size) }) : codeAny (model prog w) A (.call (.ref C) ⟨rest, kw⟩) R s := by
  obtain ⟨hh, g, d, t, os⟩ := s
  exact make_core (makes_of X hm) (looks_findIn X hi) (fun self => bind_fn X self (beq_iff_eq.mp hf)) (.inl rfl) h

/-- x.name where the instance's dict holds the name and the class does not -/
theorem get_field {x C : Addr} {ox : Obj} {es : List DictEntry} {n : Nat} {name : Str} {expr : Bool} {v : Value} {Q : Value → Shared → Prop}
    (X : K.In s.heap) (I : PySem.W.InstAt s.heap x ox C (some (dictOf es n))) (hg : plainGet K C name = true) (hh : hasDictIn K C = true) (ha : findIn K (.ref C) name = some none)
    (hl : getL name es = some (some v)) (hv : handedIn v = true) (h : Q v { s with toks := s.toks + 1 }) : wpAny (model prog w) A (getAttr (.ref x) name expr) Q E s :=
  get_value X I (plainGet_of hg).1 (findObj_own hh ha rfl hl) hv h

/-- x.m(..): the method found in the class -/
theorem get_method {x C f : Addr} {ox : Obj} {es : List DictEntry} {n : Nat} {name : Str} {pl : Sem Bool} {Q : Value × List Value → Shared → Prop}
    (X : K.In s.heap) (I : PySem.W.InstAt s.heap x ox C (some (dictOf es n))) (hg : plainGet K C name = true) (hf : findIn K (.ref C) name = some (some (.ref f))) (ht : isFn K (.ref f) = true)
    (hl : getL name es = some none) (h : Q (.ref f, [.ref x]) s) : wpAny (model prog w) A (getMethod (.ref x) name pl) Q E s :=
  method_fn X I (plainGet_of hg).1 (plainGet_of hg).2 hf (beq_iff_eq.mp ht) (by show (lookIn name (dictOf es n)).map _ = _; rw [lookIn_dict, hl]; rfl) h

/-! the whole heap as the ledger: makes every rule that writes through a ledger a rule over any heap -/
def noObjs (h : Heap) : Heap := { h with objs := #[] }
theorem noObjs_get (h : Heap) (b : Addr) : (noObjs h).get? b = none := by
  cases e : (noObjs h).get? b with
  | none => rfl
  | some o => exact absurd (Heap.lt_size e) (Nat.not_lt_zero _)
def ledger (h : Heap) (L d : Addr) : List (Addr × Obj) := (List.range h.objs.size).filterMap fun a => if a = L ∨ a = d then none else (h.get? a).map fun o => (a, o)
theorem mem_ledger {h : Heap} {L d a : Addr} {o : Obj} : (a, o) ∈ ledger h L d ↔ a ≠ L ∧ a ≠ d ∧ h.get? a = some o := by
  unfold ledger
  rw [List.mem_filterMap]
  constructor
  · rintro ⟨b, _, e⟩
    split at e
    · cases e
    · rename_i hb
      obtain ⟨o', ho, e'⟩ := Option.map_eq_some_iff.mp e
      cases e'
      exact ⟨fun q => hb (.inl q), fun q => hb (.inr q), ho⟩
  · rintro ⟨n1, n2, ho⟩
    refine ⟨a, List.mem_range.mpr (Heap.lt_size ho), ?_⟩
    rw [if_neg (show ¬ (a = L ∨ a = d) from fun q => q.elim n1 n2), ho] <;> rfl
theorem news_ledger {h : Heap} {L d : Addr} {od : Obj} (hne : d ≠ L) (ho : h.get? d = some od) : News (noObjs h) L h ([] ++ (d, od) :: ledger h L d) := by
  rintro ⟨a, o⟩ hp
  rcases List.mem_cons.mp hp with e | hp
  · cases e
    exact ⟨ho, hne, noObjs_get _ _⟩
  · obtain ⟨n1, n2, e⟩ := mem_ledger.mp hp
    exact ⟨e, n1, noObjs_get _ _⟩
theorem fr_all {h : Heap} {L : Addr} {m : Str → Option Value} (n : h.Ns L m) : Fr (noObjs h) L h m :=
  ⟨n, fun b o e => (by rw [noObjs_get] at e; cases e), Nat.zero_le _⟩
/-- Upd of the head entry (for append_K, setItem_K ..) -/
theorem upd_ledger {h : Heap} {L d : Addr} {o o' : Obj} : Upd d o o' ((d, o) :: ledger h L d) ((d, o') :: ledger h L d) :=
  .head fun ⟨_, _⟩ hp => (mem_ledger.mp hp).2.1

/-- x.name = v over any heap: L is any namespace of the heap (the frame's, say): its map stays, its object is not told; all else but the dict stays -/
theorem set_field {x C dx L : Addr} {ox : Obj} {m : Str → Option Value} {es es' : List DictEntry} {n n' : Nat} {name : Str} {v : Value} {Q : Unit → Shared → Prop}
    (X : K.In s.heap) (I : PySem.W.InstAt s.heap x ox C (some (dictOf es n))) (hd : ox.dict = some dx) (hL : s.heap.Ns L m) (hne : dx ≠ L)
    (hs : findIn K (.ref C) "__setattr__" = some (some (.builtin "object.__setattr__"))) (hp : plainOver K C = true) (ht : takerIn K C name = some none) (hh : hasDictIn K C = true) (hl : (getL name es).isSome = true)
    (e : (putL name (PyData.keyHash w.params name) (.str name (s.toks + 1)) v es, putN name es n) = (es', n')) (hz : es'.length ≤ 1000)
    (h : ∀ h' : Heap, h'.Ns L m → h'.get? dx = some (dictOf es' n') → (∀ b o, b ≠ dx → b ≠ L → s.heap.get? b = some o → h'.get? b = some o) → Q () { s with heap := h', toks := s.toks + 2 }) :
    wpAny (model prog w) A (setAttr (.ref x) name v) Q E s := by
  obtain ⟨e1, e2⟩ := Prod.mk.inj e
  have hdx : s.heap.get? dx = some (dictOf es n) := by
    have := I.dict
    rw [hd] at this
    exact this
  refine set_plain X I hs (osa_dict (s := { s with toks := s.toks + 1 }) (h₀ := noObjs s.heap) (L := L) (m := m) (od := dictOf es n) (od' := dictOf es' n') (es := es') (n := n') (pre := []) (post := ledger s.heap L dx)
    (fr_all hL) (news_ledger hne hdx) X I hd hp ht hh hl (fun _ q => nomatch q) (fun ⟨_, _⟩ q => (mem_ledger.mp q).2.1) (by rw [putName_dict, e1, e2]) rfl hz fun h' F' N' => ?_)
  exact h h' F'.ns (N'.get (List.Mem.head _)) fun b o n1 n2 ho => N'.get (List.Mem.tail _ (mem_ledger.mpr ⟨n2, n1, ho⟩))
end
end Att

namespace L2
open PySem PySem.Spec PyProof.Rows

theorem vals_ints : ∀ {vs : List Value} {ns : List Int}, IntsAre vs ns → Vals (ns.map V.int) vs
  | _, _, .nil => .nil
  | _, _, .cons n t h => .cons ⟨t, rfl⟩ (vals_ints h)

/-- nothing is tracked but the script, known to the object (or it is an object of the module) -/
def Only (H : Hp) : Prop := ∀ b, H b = none ∨ ∃ o xs, H b = some (.frz o (.lst xs))

/-- THE HEAD: the law's promise, at the heap behind the top. F, the promise of the law's def, may use that base is part of the heap (so K.In base, base.Ns mainGlobals mg stand in Mod) -/
theorem law_call {P : Program} {w : World} {K : PySem.W.Frag} {mg mb : Str → Option Value} {CX : CXT} {k : Nat} {fa a : Addr} {fd : FuncData} {x : Str} {sp : Sp} {s₁ : Shared} {vs : List Value} {ns : List Int}
    (KX : K.In s₁.heap) (hns : s₁.heap.Ns mainGlobals mg) (hb : s₁.heap.Ns builtinsNs mb) (hbb : ∀ x : Str, x ≠ "__name__" → mb x = bootBuiltins x) (hlim : s₁.heap.NoLimit) (hg : s₁.gens = #[])
    (ha : s₁.heap.get? a = some { cls := .type "list", data := .seq vs.toArray }) (hi : IntsAre vs ns) (hl : ns.length ≤ sizeLine) (hr : Room k callerA)
    (F : ∀ base : Heap, K.In base → base.Ns mainGlobals mg → FnOk P w K mg base CX k fa fd [x] sp) (hbind : ∀ (s : Shared) (u : Value), BindsTo s fd ⟨[u], []⟩ [(x, u)])
    (hsp : ∀ H : Hp, Only H → SqL K H a (ns.map V.int) → sp [.ref a] H (fun v _ => v = .bl true) fun _ _ _ => False)
    (hCX : ∀ H e s', CX [] H s₁ (fun _ _ _ => False) e s' → False) :
    codeAny (model P w) callerA (.call (.ref fa) ⟨[.ref a], []⟩) (fun r s' => r = .ok (.ret (.bool true)) ∧ OldK s₁.heap s'.heap ∧ s'.os = s₁.os ∧ AllBare s'.gens) s₁ := by
  have rv := vals_ints hi
  have lenV := hi.length
  -- from an abstract heap in which nothing but the script may be tracked
  have core : ∀ H : Hp, Only H → SqL K H a (ns.map V.int) → HOk P w H s₁.heap → (∀ b, H b ≠ none → b = a) → (H a ≠ none → K.lookup a = none) →
      codeAny (model P w) callerA (.call (.ref fa) ⟨[.ref a], []⟩) (fun r s' => r = .ok (.ret (.bool true)) ∧ OldK s₁.heap s'.heap ∧ s'.os = s₁.os ∧ AllBare s'.gens) s₁ := by
    intro H hO hS hok hA hK
    have base_of : ∀ {b : Addr} {o : Obj}, s₁.heap.get? b = some o → H b = none → (hidT s₁.heap H).get? b = some o := fun e n => hidT_get e n
    have noA : ∀ {b : Addr} {o : Obj} {es : Array DictEntry} {ep : Nat}, s₁.heap.get? b = some o → o.data = .dict es ep → H b = none := fun {b o es ep} e d => by
      cases q : H b with
      | none => rfl
      | some u =>
        have e' : b = a := hA b (by rw [q]; simp)
        subst e'
        rw [ha] at e; cases e
        have d' : Data.seq vs.toArray _ = Data.dict es ep := d
        cases d'
    have nsK : ∀ {b : Addr} {m : Str → Option Value}, s₁.heap.Ns b m → (hidT s₁.heap H).Ns b m := fun {b m} ⟨o, es, ep, e, d, r⟩ => ⟨o, es, ep, base_of e (noA e d), d, r⟩
    have hKb : K.In (hidT s₁.heap H) := fun b o e => base_of (KX b o e) (by
      cases q : H b with
      | none => rfl
      | some u =>
        have e' : b = a := hA b (by rw [q]; simp)
        subst e'
        rw [hK (by rw [q]; simp)] at e; cases e)
    have hM : Mod K mg (hidT s₁.heap H) := ⟨hKb, nsK hns, ⟨mb, nsK hb, hbb⟩, let ⟨mc, h1, h2⟩ := hlim; ⟨mc, nsK h1, h2⟩⟩
    have e0 : Env0 P w K mg (hidT s₁.heap H) callerA [] s₁ H := ⟨rfl, hM, fun b o e => of_hidT e, Nat.le_of_eq (hidT_size _ _), trivial, fun b hb => absurd (show b ∈ ([] : List Addr) from hb) (by simp), hok, .of_eq hg⟩
    refine codeAny_mono ((F _ hKb (nsK hns)).run callerA [] s₁ H ⟨[.ref a], []⟩ [.ref a] [.ref a] _ _ hr e0 (hbind s₁ (.ref a)) (.cons rfl .nil) (hsp H hO hS)) fun r s' h => ?_
    cases r with
    | error e => exact (hCX H e s' h).elim
    | ok fl =>
      cases fl with
      | next => exact False.elim h
      | brk => exact False.elim h
      | cont => exact False.elim h
      | ret u =>
        obtain ⟨v, H', os, bare, un, hok', r', q⟩ := h
        have q' : v = .bl true := q
        subst q'
        obtain rfl : u = Value.bool true := r'
        refine ⟨rfl, OldK.of_keep fun b o e => ?_, os, bare⟩
        cases q : H b with
        | none => exact un.keep b o e q (by intro z; exact absurd (show b ∈ ([] : List Addr) from z) (by simp)) (by simp)
        | some u =>
          rcases hO b with z | ⟨ob, xs, z⟩
          · rw [q] at z; cases z
          · have z2 := un.frzs b ob _ z
            obtain ⟨e1, _⟩ := hok b _ z
            obtain ⟨e2, _⟩ := hok' b _ z2
            rw [e] at e1; cases e1
            exact e2
  cases hk : K.lookup a with
  | some o =>
    -- the script is one of the module's own objects
    have e := KX a o hk
    rw [ha] at e
    cases e
    refine core (fun _ => none) (fun _ => .inl rfl) (.inr ⟨_, vs.toArray, _, hk, rfl, rfl, rfl, by rw [List.size_toArray, lenV]; exact hl, by simpa using rv⟩) (fun b u z => by have z' : (none : Option HO) = some u := z; cases z') (fun b z => absurd rfl z) fun z => absurd rfl z
  | none =>
    refine core (fun b => if b = a then some (.frz { cls := .type "list", data := .seq vs.toArray } (.lst (ns.map V.int))) else none) (fun b => ?_) (.inl (.inr ⟨{ cls := .type "list", data := .seq vs.toArray }, if_pos rfl⟩)) (fun b u z => ?_) (fun b z => ?_) fun _ => hk
    · by_cases hb : b = a
      · exact .inr ⟨_, _, if_pos hb⟩
      · exact .inl (if_neg hb)
    · by_cases hb : b = a
      · have z' := (if_pos hb).symm.trans z
        cases z'
        subst hb
        exact ⟨ha, by rw [List.length_map]; exact hl, vs, _, rv, ha⟩
      · have z' := (if_neg hb).symm.trans z
        cases z'
    · by_cases hb : b = a
      · exact hb
      · exact absurd (if_neg hb) z
end L2

namespace L2
open PySem PySem.Spec PyProof.Rows

abbrev KOf {K : PySem.W.Frag} {h : Heap} (_ : K.In h) : PySem.W.Frag := K

/-- the goal that k_head leaves (case hc), from the law's promise. F gives the function object fd (K's own) once, then the promise over every base -/
theorem walk_of {l : PySem.W.OpenLaw} {n k : Nat} {q : Program} {loose : List Str} {XP : (Str → Option Value) → Heap → Prop} {YP : World → Heap → Prop} {d : DefRec} {K : Params → PySem.W.Frag} {CX : World → CXT} {sp : World → Sp} {x : Str}
    (hn : l.most = some n) (hn2 : n ≤ sizeLine) (hdf : d.params.defaults = []) (hr : Room k callerA)
    (hY : ∀ (w : World) (h : Heap), YP w h → (K w.params).In h)
    (F : ∀ (w : World) (mg : Str → Option Value) (fa : Addr) (h : Heap), (K w.params).In h → h.Ns mainGlobals mg → mg d.name = some (.ref fa) →
      ∃ fd : FuncData, (∀ (s : Shared) (u : Value), BindsTo s fd ⟨[u], []⟩ [(x, u)]) ∧
        ∀ base : Heap, (K w.params).In base → base.Ns mainGlobals mg → FnOk l.prog w (K w.params) mg base (CX w) k fa fd [x] (sp w))
    (hsp : ∀ (w : World) (H : Hp) (a : Addr) (ns : List Int), ns.length ≤ n → Only H → SqL (K w.params) H a (ns.map V.int) → sp w [.ref a] H (fun v _ => v = .bl true) fun _ _ _ => False)
    (hCX : ∀ (w : World) (H : Hp) (s : Shared) (e : Value) (s' : Shared), CX w [] H s (fun _ _ _ => False) e s' → False) :
    PySem.W.WalkO q loose XP YP l.row.toRowW d [] (fun f vs => PySem.call f vs) := by
  refine Att.attach_call hn hdf fun w s₀ s₁ mg mb fa o pm cd doc a vs ns G Y ho hd hcd hmg hobj hints hlen hg => ?_
  have KX := hY w _ Y
  obtain ⟨fd, hb, hF⟩ := F w mg fa _ KX G.T.g hmg
  exact law_call KX G.T.g G.T.b G.T.builtins G.T.nolimit hg hobj hints (Nat.le_trans hlen hn2) hr hF hb (fun H hO hS => hsp w H a ns hlen hO hS) fun H e s' => hCX w H s₁ e s'
/-- the same where the promise hangs on the written part alone: (sp := My.sp_law), no hole under a binder -/
theorem walk_ofK {l : PySem.W.OpenLaw} {n k : Nat} {q : Program} {loose : List Str} {XP : (Str → Option Value) → Heap → Prop} {YP : World → Heap → Prop} {d : DefRec} {K : Params → PySem.W.Frag} {CX : CXT} {sp : PySem.W.Frag → Sp} {x : Str}
    (hn : l.most = some n) (hn2 : n ≤ sizeLine) (hdf : d.params.defaults = []) (hr : Room k callerA)
    (hY : ∀ (w : World) (h : Heap), YP w h → (K w.params).In h)
    (F : ∀ (w : World) (mg : Str → Option Value) (fa : Addr) (h : Heap), (K w.params).In h → h.Ns mainGlobals mg → mg d.name = some (.ref fa) →
      ∃ fd : FuncData, (∀ (s : Shared) (u : Value), BindsTo s fd ⟨[u], []⟩ [(x, u)]) ∧
        ∀ base : Heap, (K w.params).In base → base.Ns mainGlobals mg → FnOk l.prog w (K w.params) mg base CX k fa fd [x] (sp (K w.params)))
    (hsp : ∀ (K : PySem.W.Frag) (H : Hp) (a : Addr) (ns : List Int), ns.length ≤ n → Only H → SqL K H a (ns.map V.int) → sp K [.ref a] H (fun v _ => v = .bl true) fun _ _ _ => False)
    (hCX : ∀ (H : Hp) (s : Shared) (e : Value) (s' : Shared), CX [] H s (fun _ _ _ => False) e s' → False) :
    PySem.W.WalkO q loose XP YP l.row.toRowW d [] (fun f vs => PySem.call f vs) :=
  walk_of (K := K) (CX := fun _ => CX) (sp := fun w => sp (K w.params)) hn hn2 hdf hr hY F (fun w H a ns h1 h2 h3 => hsp (K w.params) H a ns h1 h2 h3) fun _ H s e s' => hCX H s e s'
end L2

/-! SHORT WORDS over the layer: a def of the text, its body, what a loop and a test want. -/
namespace L2
open PySem PySem.Spec PyProof.Rows

/-! ### the text by places -/
/-- the j-th statement of a class's body -/
def inClass (s : Stmt) (j : Nat) : Stmt := match s with
  | .ClassDef _ _ _ body _ _ _ _ _ _ _ => body.getD j (.Pass ⟨0, 0, 0, 0⟩)
  | _ => .Pass ⟨0, 0, 0, 0⟩
def defArgs (s : Stmt) : Arguments := match s with
  | .FunctionDef _ a _ _ _ _ _ _ _ _ => a
  | _ => { posonlyargs := [], args := [], vararg := none, kwonlyargs := [], kw_defaults := [], kwarg := none, defaults := [] }
def defBody (s : Stmt) : List Stmt := match s with
  | .FunctionDef _ _ b _ _ _ _ _ _ _ => b
  | _ => []
def defScope (s : Stmt) : Scope := match s with
  | .FunctionDef _ _ _ _ _ _ sc _ _ _ => sc
  | _ => { kind := .function, names := [], isGenerator := false, isCoroutine := false }

/-! ### no exception leaves a def -/
abbrev CX0 : CXT := fun _ _ _ _ _ _ => False
abbrev E0 : XK := fun _ _ _ => False
theorem pass0 {X : Cx} : Passes CX0 X E0 := fun _ _ _ _ _ _ _ h => h.elim

/-! ### a def (or method) of the text as it stands behind the top -/
structure Fun (K : PySem.W.Frag) (x qual : Str) (st : Stmt) (f : Addr) (fd : FuncData) : Prop where
  ex : ∃ (oc : Value) (od : Option Addr) (kV doc pm : Value) (an : Option Addr) (cdv ct : Value) (osl : Array (Option Value)),
    fd = PySem.W.fnOf x qual (defArgs st) (defBody st) (defScope st) .none kV doc pm an cdv ct ∧ K.lookup f = some ⟨oc, od, .func fd, osl⟩ ∧ PySem.W.codeIn K cdv qual = true
  kp : PySem.W.keepIn K (.ref f) = true
section
variable {P : Program} {w : World} {K : PySem.W.Frag} {mg : Str → Option Value} {base : Heap}
/-- THE RULE for a def: its body as a term of rules, and the reading of that term -/
theorem Fun.ok {x qual : Str} {st : Stmt} {f : Addr} {fd : FuncData} {N ps : List Str} {k : Nat} {sp : Sp} (F : Fun K x qual st f fd) (S : FnScope N ps (defScope st)) (len : ∀ vs H Q E, sp vs H Q E → vs.length = ps.length)
    (hbody : ∀ (cdv : Value) (A : Around) (outer : List Env) (s : Shared) (H : Hp) (vs : List V) (Q : VK) (E : XK), Room k (A.deeper (envOfC qual (defScope st) s.heap.objs.size f cdv)) → sp vs H Q E →
      ∃ t, PSs (cxOf CX0 P w K mg base N qual (defScope st) f cdv A outer s H E).nox (defBody st) t ∧ t { nx := fun _ H' => Q .non H', rt := Q } (start N vs) H) : FnOk P w K mg base CX0 (k + 1) f fd ps sp := by
  obtain ⟨oc, od, kV, doc, pm, an, cdv, ct, osl, rfl, lk, hcd⟩ := F.ex
  refine fn_of lk hcd S len fun A outer s H vs Q E hr hsp => ?_
  obtain ⟨t, h, q⟩ := hbody cdv A outer s H vs Q E hr hsp
  exact ⟨t, h.nox, q⟩
/-- how its arguments bind (no defaults): h is «fun _ _ _ _ _ _ us hl => match us, hl with | [_, _], _ => rfl», one _ a parameter -/
theorem Fun.binds {x qual : Str} {st : Stmt} {f : Addr} {fd : FuncData} {ps : List Str} (F : Fun K x qual st f fd)
    (h : ∀ (kV doc pm : Value) (an : Option Addr) (cdv ct : Value) (us : List Value), us.length = ps.length → bindArgs (PySem.W.fnOf x qual (defArgs st) (defBody st) (defScope st) .none kV doc pm an cdv ct) ⟨us, []⟩ = pure (ps.zip us)) : Binds K fd ps [] := by
  obtain ⟨oc, od, kV, doc, pm, an, cdv, ct, osl, rfl, lk, hcd⟩ := F.ex
  exact .all (h kV doc pm an cdv ct)
theorem fun_mk {x qual : Str} {st : Stmt} {f : Addr} {oc : Value} {od an : Option Addr} {osl : Array (Option Value)} {kV doc pm cdv ct : Value} (l : K.lookup f = some ⟨oc, od, .func (PySem.W.fnOf x qual (defArgs st) (defBody st) (defScope st) .none kV doc pm an cdv ct), osl⟩)
    (c : PySem.W.codeIn K cdv qual = true) (k : PySem.W.keepIn K (.ref f) = true) : Fun K x qual st f (PySem.W.fnOf x qual (defArgs st) (defBody st) (defScope st) .none kV doc pm an cdv ct) := ⟨⟨oc, od, kV, doc, pm, an, cdv, ct, osl, rfl, l, c⟩, k⟩
end
theorem hu_of {A : Around} {k : Nat} (hr : Room k A) : A.units + 1 < cLine := Nat.lt_of_le_of_lt (Nat.add_le_add_left (by decide : 1 ≤ 64) _) hr.units
theorem small1000 {n : Nat} (h : n ≤ 1000) : n < sizeLine := Nat.lt_of_le_of_lt h (by decide)

/-! ### expressions in short: the name that stands in the i-th slot -/
section
variable {X : Cx}
theorem pv (i : Nat) {x : Str} {pos : Pos} (hN : X.N[i]? = some x := by rfl) (hv : Vis X.env.scope x := by first | exact Or.inl rfl | exact Or.inr (Or.inl rfl) | exact Or.inr (Or.inr rfl)) (hd : (x == ("__debug__" : Str)) = false := by decide)
    (hcd : (x == ("__classdict__" : Str)) = false := by decide) : PE X (.Name x pos) (tVar i) := pe_var hN hv hd hcd
end

/-! ### tests -/
theorem iteF {A B : Prop} (h : B) : if false = true then A else B := by
  rw [if_neg Bool.false_ne_true]
  exact h
theorem iteT {A B : Prop} (h : A) : if true = true then A else B := by
  rw [if_pos rfl]
  exact h
theorem ite2 {c A B : Prop} [Decidable c] (h1 : c → A) (h2 : ¬ c → B) : if c then A else B := by
  by_cases h : c
  · rw [if_pos h]
    exact h1 h
  · rw [if_neg h]
    exact h2 h
theorem iteNS {c A B : Prop} [Decidable c] (hc : c) (h : B) : if (!decide c) = true then A else B := by
  rw [decide_eq_true hc]
  exact iteF h

/-! ### heaps -/
/-- all that was tracked is as it was -/
def Same (H H' : Hp) : Prop := ∀ b o, H b = some o → H' b = some o
theorem Same.refl (H : Hp) : Same H H := fun _ _ h => h
theorem Same.trans {H H1 H2 : Hp} (a : Same H H1) (b : Same H1 H2) : Same H H2 := fun c o h => b c o (a c o h)
theorem Same.free {H H' : Hp} (e : Same H H') {l : Addr} (h : H' l = Option.none) : H l = Option.none := by
  cases q : H l with
  | none => rfl
  | some o =>
    rw [e l o q] at h
    cases h
theorem Same.seq {K : PySem.W.Frag} {H H' : Hp} {a : Addr} {xs : List V} (e : Same H H') (h : SqL K H a xs) : SqL K H' a xs := by
  rcases h with (h | ⟨o, h⟩) | h
  · exact .inl (.inl (e _ _ h))
  · exact .inl (.inr ⟨o, e _ _ h⟩)
  · exact .inr h

end L2

set_option Elab.async false
set_option linter.all false
set_option maxRecDepth 100000
namespace L2
open PySem PySem.Spec PyProof.Rows

/-! ## a list comprehension of one clause, with at most one test, over the layer's contexts -/
theorem lookup_relabel_free {env : Env} : ∀ {names : List (Str × NameKind)} {x : Str}, names.lookup x = some .free →
    (names.map fun (n, k) => if (k == NameKind.free && env.scope.kind == .function && env.kindOf n == some .cell) then (n, NameKind.cell) else (n, k)).lookup x = some .free ∨
    (names.map fun (n, k) => if (k == NameKind.free && env.scope.kind == .function && env.kindOf n == some .cell) then (n, NameKind.cell) else (n, k)).lookup x = some .cell
  | [], _, h => by simp at h
  | (n, k) :: r, x, h => by
    have ih := @lookup_relabel_free env r x
    show List.lookup x ((if (k == NameKind.free && env.scope.kind == .function && env.kindOf n == some .cell) = true then (n, NameKind.cell) else (n, k)) :: _) = _ ∨ List.lookup x ((if (k == NameKind.free && env.scope.kind == .function && env.kindOf n == some .cell) = true then (n, NameKind.cell) else (n, k)) :: _) = _
    cases hx : x == n with
    | true =>
      simp only [List.lookup_cons, hx] at h
      cases h
      by_cases hc : (NameKind.free == NameKind.free && env.scope.kind == .function && env.kindOf n == some .cell) = true
      · rw [if_pos hc]; exact .inr (by simp only [List.lookup_cons, hx])
      · rw [if_neg hc]; exact .inl (by simp only [List.lookup_cons, hx])
    | false =>
      simp only [List.lookup_cons, hx] at h
      by_cases hc : (k == NameKind.free && env.scope.kind == .function && env.kindOf n == some .cell) = true
      · rw [if_pos hc]; simp only [List.lookup_cons, hx]; exact ih h
      · rw [if_neg hc]; simp only [List.lookup_cons, hx]; exact ih h
/-- what of the relabelled names is a cell or free was free -/
theorem relabel_back {env : Env} : ∀ {names : List (Str × NameKind)} {x : Str} {kd : NameKind}, (∀ y ∈ names, y.2 ≠ .cell) → kd = .cell ∨ kd = .free →
    (names.map fun (n, k) => if (k == NameKind.free && env.scope.kind == .function && env.kindOf n == some .cell) then (n, NameKind.cell) else (n, k)).lookup x = some kd → names.lookup x = some .free
  | [], _, _, _, _, h => by simp at h
  | (n, k) :: r, x, kd, hn, hk, h => by
    have ih := @relabel_back env r x kd (fun y hy => hn y (List.mem_cons_of_mem _ hy)) hk
    have h' : List.lookup x ((if (k == NameKind.free && env.scope.kind == .function && env.kindOf n == some .cell) = true then (n, NameKind.cell) else (n, k)) :: (r.map fun (n, k) => if (k == NameKind.free && env.scope.kind == .function && env.kindOf n == some .cell) then (n, NameKind.cell) else (n, k))) = some kd := h
    have hkc : k ≠ .cell := hn (n, k) List.mem_cons_self
    by_cases hc : (k == NameKind.free && env.scope.kind == .function && env.kindOf n == some .cell) = true
    · rw [if_pos hc] at h'
      have hkf : k = .free := by
        simp only [Bool.and_eq_true, beq_iff_eq] at hc
        exact hc.1.1
      subst hkf
      cases hx : x == n with
      | true => simp only [List.lookup_cons, hx]
      | false => simp only [List.lookup_cons, hx] at h' ⊢; exact ih h'
    · rw [if_neg hc] at h'
      cases hx : x == n with
      | true =>
        simp only [List.lookup_cons, hx] at h' ⊢
        have e : k = kd := Option.some.inj h'
        subst e
        rcases hk with hk | hk
        · exact absurd hk hkc
        · rw [hk]
      | false => simp only [List.lookup_cons, hx] at h' ⊢; exact ih h'

/-- the closure: the free names' cells -/
def closOf (cells : List (Str × Addr)) : List (Str × NameKind) → List (Str × Addr) → List (Str × Addr)
  | [], acc => acc
  | (n, k) :: r, acc => closOf cells r (if k = .free then match cells.lookup n with | some c => (n, c) :: acc | none => acc else acc)
theorem closureFor_eq {scope : Scope} {env : Env} (h : ∀ y ∈ scope.names, y.2 = .free → ∃ c, env.cells.lookup y.1 = some c) : closureFor scope env = pure (closOf env.cells scope.names []) := by
  have go : ∀ (l : List (Str × NameKind)) (acc : List (Str × Addr)), (∀ y ∈ l, y.2 = .free → ∃ c, env.cells.lookup y.1 = some c) →
      (forIn l acc fun x (r : List (Str × Addr)) => (match x with | (name, kind) => if (kind == NameKind.free) = true then do let c ← cellOf env name; pure (ForInStep.yield ((name, c) :: r)) else pure (ForInStep.yield r) : Sem (ForInStep (List (Str × Addr))))) = pure (closOf env.cells l acc) := by
    intro l
    induction l with
    | nil => intro acc _; rfl
    | cons x l ih =>
      intro acc hl
      obtain ⟨n, k⟩ := x
      rw [List.forIn_cons]
      by_cases hk : k = .free
      · subst hk
        obtain ⟨c, hc⟩ := hl (n, .free) List.mem_cons_self rfl
        have e1 : cellOf env n = pure c := by unfold cellOf; rw [hc]
        simp only [beq_self_eq_true, if_true, e1, pure_bind]
        rw [ih _ fun y hy => hl y (List.mem_cons_of_mem _ hy)]
        show _ = pure (closOf env.cells l (if NameKind.free = .free then match env.cells.lookup n with | some c => (n, c) :: acc | none => acc else acc))
        rw [if_pos rfl, hc]
      · have hb : (k == NameKind.free) = false := by simpa using hk
        simp only [hb, Bool.false_eq_true, if_false, pure_bind]
        rw [ih _ fun y hy => hl y (List.mem_cons_of_mem _ hy)]
        show _ = pure (closOf env.cells l (if k = .free then _ else acc))
        rw [if_neg hk]
  unfold closureFor
  have := go scope.names [] h
  simp only [bind_pure_comp] at this ⊢
  first
    | exact this
    | simpa using this
theorem closOf_lookup {cells : List (Str × Addr)} {x : Str} {c : Addr} : ∀ (l : List (Str × NameKind)) (acc : List (Str × Addr)), (∀ d, acc.lookup x = some d → cells.lookup x = some d) → (closOf cells l acc).lookup x = some c → cells.lookup x = some c
  | [], acc, h, e => h c e
  | (n, k) :: r, acc, h, e => by
    refine closOf_lookup r _ (fun d hd => ?_) e
    split at hd
    · split at hd
      · rename_i c' hc'
        cases hx : x == n with
        | true =>
          simp only [List.lookup_cons, hx] at hd
          have : x = n := by simpa using hx
          subst this
          rw [hc']; exact hd
        | false => simp only [List.lookup_cons, hx] at hd; exact h d hd
      · exact h d hd
    · exact h d hd
theorem closOf_has {cells : List (Str × Addr)} {x : Str} {c : Addr} (hc : cells.lookup x = some c) : ∀ (l : List (Str × NameKind)) (acc : List (Str × Addr)), (acc.lookup x = some c ∨ (x, NameKind.free) ∈ l) → (∀ d, acc.lookup x = some d → d = c) → (closOf cells l acc).lookup x = some c
  | [], acc, h, _ => by
    rcases h with h | h
    · exact h
    · cases h
  | (n, k) :: r, acc, h, u => by
    by_cases hk : k = .free
    · subst hk
      show (closOf cells r (if NameKind.free = .free then match cells.lookup n with | some c => (n, c) :: acc | none => acc else acc)).lookup x = some c
      rw [if_pos rfl]
      by_cases hx : x = n
      · subst hx
        rw [hc]
        refine closOf_has hc r _ (.inl (by simp)) fun d hd => ?_
        simp at hd
        exact hd.symm
      · have hb : (x == n) = false := by simpa using hx
        have keep : ∀ (a2 : List (Str × Addr)), (match cells.lookup n with | some c => (n, c) :: acc | none => acc) = a2 → a2.lookup x = acc.lookup x := by
          intro a2 e
          subst e
          cases cells.lookup n with
          | none => rfl
          | some c' => simp only [List.lookup_cons, hb]
        refine closOf_has hc r _ ?_ fun d hd => u d (by rw [keep _ rfl] at hd; exact hd)
        rcases h with h | h
        · exact .inl (by rw [keep _ rfl]; exact h)
        · rcases List.mem_cons.mp h with h | h
          · exact absurd (congrArg Prod.fst h) hx
          · exact .inr h
    · show (closOf cells r (if k = .free then _ else acc)).lookup x = some c
      rw [if_neg hk]
      refine closOf_has hc r _ ?_ u
      rcases h with h | h
      · exact .inl h
      · rcases List.mem_cons.mp h with h | h
        · exact absurd (congrArg Prod.snd h).symm hk
        · exact .inr h

/-- the context of a comprehension's block -/
abbrev cmpCx (X : Cx) (N : List Str) (scope : Scope) (cl : List (Str × Addr)) (C : Addr) (s2 : Shared) (H2 : Hp) (fp : List Addr) : Cx :=
  { X with N := N, s₀ := s2, H₀ := H2, env := compEnvC scope cl C X.env, outer := X.stack, ex := fp, fn := fun _ => false, pn := [], xe := fun _ _ => False }
/-- the block's names: its own, and those that it reads from around (their slots there) -/
def innerSt (sl : List (Option Nat)) (σ : St) : St := sl.map fun o => match o with | some i => (σ[i]?).join | none => none
/-- the scope of a comprehension that the rule takes: N its names, sl their slots outside -/
structure CompScope (X : Cx) (N : List Str) (sl : List (Option Nat)) (scope : Scope) : Prop where
  kind : scope.kind = .function
  nocell : ∀ y ∈ scope.names, y.2 ≠ .cell
  locs : ∀ y ∈ scope.names, y.2 = .local → scope.names.lookup y.1 = some .local
  frees : ∀ y ∈ scope.names, y.2 = .free → X.env.kindOf y.1 = some .cell ∨ X.env.kindOf y.1 = some .free
  len : sl.length = N.length
  out : ∀ (j i : Nat) (x : Str), N[j]? = some x → sl[j]? = some (some i) → X.N[i]? = some x ∧ scope.names.lookup x = some .free

/-- the test of a comprehension: none, or one -/
def PIf (X : Cx) (ifs : List Expr) (t : TT) : Prop :=
  ∀ (pins : List (Addr × Obj)) (s : Shared) (σ : St) (H : Hp) (Q : Bool → Hp → Prop), Inv X pins σ H s → t σ H Q →
    wpAny (model X.prog X.w) X.A (forIn ifs true fun c r => if r = true then do let ok ← isTrue c X.env (eval c X.env); pure (ForInStep.yield ok) else pure (ForInStep.yield r)) (TP X pins σ Q) X.xe s
def tAll : TT := fun _ H Q => Q true H
theorem pif_none {X : Cx} : PIf X [] tAll := fun pins s σ H Q I h => by
  rw [List.forIn_nil]
  exact wpAny_pure ⟨H, I, h⟩
theorem pif_one {X : Cx} {c : Expr} {t : TT} (h : PT X c t) : PIf X [c] t := fun pins s σ H Q I q => by
  rw [List.forIn_cons]
  refine wpAny_bind ?_
  rw [if_pos rfl]
  refine wpAny_bind (thn (h pins s σ H Q I q) fun b s1 r => wpAny_pure ?_)
  show wpAny _ _ (forIn [] b _) _ _ _
  rw [List.forIn_nil]
  exact wpAny_pure r
/-- W: the invariant by turn, measure and heap; the list grows at D -/
def compW (J : It) (D : Addr) (st : St) (g : TG) (tif : TT) (te : TE) (Q : VK) (H1 : Hp) : Prop := ∃ W : Nat → Nat → Hp → Prop,
  (∃ m, W 0 m (upd H1 D (.lst []))) ∧ ∀ i m H2, W i m H2 →
    (J.stop i H2 ∧ Q (.ref D) H2) ∨ (J.go i H2 ∧ ∀ x H', J.yld i H2 x H' → g x st H' fun σ3 H3 => tif σ3 H3 fun b H4 =>
      if b = true then te σ3 H4 fun y H5 => ∃ ys, H5 D = some (.lst ys) ∧ ys.length < sizeLine ∧ ∃ m', m' < m ∧ W (i + 1) m' (upd H5 D (.lst (ys ++ [y]))) else ∃ m', m' < m ∧ W (i + 1) m' H4)
def tComp (wi : TI) (sl : List (Option Nat)) (g : TG) (tif : TT) (te : TE) : TE := fun σ H Q => wi σ H fun J H1 => ∀ D, H1 D = none → compW J D (innerSt sl σ) g tif te Q H1
end L2

set_option Elab.async false
set_option linter.all false
set_option maxRecDepth 100000
namespace L2
open PySem PySem.Spec PyProof.Rows
section
variable {X : Cx} {N : List Str} {sl : List (Option Nat)} {scope : Scope}

theorem innerSt_get {σ : St} {j : Nat} {v : V} (h : (innerSt sl σ)[j]? = some (some v)) : ∃ i, sl[j]? = some (some i) ∧ σ[i]? = some (some v) := by
  unfold innerSt at h
  rw [List.getElem?_map] at h
  cases e : sl[j]? with
  | none => rw [e] at h; cases h
  | some o =>
    rw [e] at h
    cases o with
    | none => cases h
    | some i =>
      refine ⟨i, rfl, ?_⟩
      have h' : (σ[i]?).join = some v := Option.some.inj h
      cases e2 : σ[i]? with
      | none => rw [e2] at h'; cases h'
      | some q => rw [e2] at h'; exact congrArg some h'

theorem CompScope.clos (S : CompScope X N sl scope) (ok : X.Ok) : closureFor scope X.env = pure (closOf X.env.cells scope.names []) :=
  closureFor_eq fun y hy hf => ok.has y.1 (S.frees y hy hf)
theorem CompScope.cell (S : CompScope X N sl scope) (ok : X.Ok) {x : Str} (hf : scope.names.lookup x = some .free) {c : Addr} (hc : X.env.cells.lookup x = some c) : (closOf X.env.cells scope.names []).lookup x = some c :=
  closOf_has hc _ _ (.inr (PySem.mem_of_lookup hf)) fun d hd => by simp at hd
theorem CompScope.back {x : Str} {c : Addr} (h : (closOf X.env.cells scope.names []).lookup x = some c) : X.env.cells.lookup x = some c :=
  closOf_lookup _ _ (fun d hd => by simp at hd) h

/-- the block's context is well -/
theorem CompScope.ok (S : CompScope X N sl scope) {pins : List (Addr × Obj)} {σ : St} {H2 : Hp} {s2 : Shared} {fp : List Addr} {C : Addr} (I : Inv X pins σ H2 s2) (hf : ∀ b ∈ fp, FpOk X pins H2 b) (hlt : ∀ b ∈ fp, b < s2.heap.objs.size) (hC : s2.heap.objs.size ≤ C) :
    (cmpCx X N scope (closOf X.env.cells scope.names []) C s2 H2 fp).Ok where
  mod := I.ok.mod
  kind := S.kind
  glob := I.ok.glob
  blt := I.ok.blt
  above := hC
  inj := fun x y c h1 h2 => I.ok.inj x y c (CompScope.back h1) (CompScope.back h2)
  has := fun x hx => by
    have hx' : scope.names.lookup x = some .free := by
      rcases hx with hx | hx
      · exact relabel_back S.nocell (.inl rfl) hx
      · exact relabel_back S.nocell (.inr rfl) hx
    obtain ⟨c, hc⟩ := I.ok.has x (S.frees _ (PySem.mem_of_lookup hx') rfl)
    exact ⟨c, S.cell I.ok hx' hc⟩
  cab := fun x c h => absurd (show false = true from h) Bool.false_ne_true
  hd := I.ok.hd
  frames := I.ok.frames
  stk := .inl rfl
  exf := fun b hb => ⟨Nat.ne_of_lt (Nat.lt_of_lt_of_le (hlt b hb) hC), fun x c h => (hf b hb).2.2.2.2.1 x c (CompScope.back h)⟩
  bs := I.bs
  bsz := Nat.le_trans I.ok.bsz I.sz
  noex := fun b o e hb => by
    rcases (hf b hb).2.2.2.1 with z | z
    · exact I.ok.noex b o e z
    · exact absurd (Nat.lt_of_lt_of_le (Nat.lt_of_lt_of_le (Heap.lt_size e) I.ok.bsz) z) (Nat.lt_irrefl _)
  exfs := fun b hb z => by
    rcases List.mem_cons.mp (I.stkSub b z) with e | e
    · exact (hf b hb).2.1 e
    · exact (hf b hb).2.2.1 e
  funs := I.stack
  frf := I.stkFree

/-- the names read from around, at any later state of the block -/
theorem CompScope.again (S : CompScope X N sl scope) {pins : List (Addr × Obj)} {σ : St} {H2 : Hp} {s2 : Shared} {fp : List Addr} {C : Addr} (I : Inv X pins σ H2 s2) (hf : ∀ b ∈ fp, FpOk X pins H2 b)
    {pins' : List (Addr × Obj)} {σ' : St} {H' : Hp} {s' : Shared} (J : Inv (cmpCx X N scope (closOf X.env.cells scope.names []) C s2 H2 fp) pins' σ' H' s') :
    Inv (cmpCx X N scope (closOf X.env.cells scope.names []) C s2 H2 fp) pins' (innerSt sl σ) H' s' := by
  obtain ⟨m, hn, _⟩ := J.loc
  refine ⟨J.ok, J.os, J.bare, J.base, ⟨m, hn, fun j x v e1 e2 _ => ?_⟩, J.cell, J.free, J.freeC, J.pin, J.hok, ?_⟩
  · obtain ⟨i, h1, h2⟩ := innerSt_get e2
    obtain ⟨hN, hfree⟩ := S.out j i x e1 h1
    have hk := S.frees _ (PySem.mem_of_lookup hfree) rfl
    obtain ⟨m0, hn0, hl0⟩ := I.loc
    have hv : Vis X.env.scope x := by
      rcases hk with hk | hk
      · exact .inr (.inl hk)
      · exact .inr (.inr hk)
    obtain ⟨u, r, l⟩ := hl0 i x v hN h2 hv
    refine ⟨u, r, .inr ⟨?_, ?_⟩⟩
    · rcases lookup_relabel_free (env := X.env) hfree with z | z
      · exact .inr z
      · exact .inl z
    · rcases l with ⟨z, _⟩ | ⟨_, c, hc, q⟩
      · rcases hk with hk | hk
        · have hk' : X.env.kindOf x = some .cell := hk
          rw [hk'] at z; cases z
        · have hk' : X.env.kindOf x = some .free := hk
          rw [hk'] at z; cases z
      · refine ⟨c, S.cell I.ok hfree hc, ?_⟩
        obtain ⟨o, ho, hd⟩ := q
        have ncfp : c ∉ fp := fun z => (hf c z).2.2.2.2.1 x c hc rfl
        obtain ⟨sl', e⟩ := J.base.any ho (I.freeC x c hc) ncfp
        exact ⟨_, e, hd⟩
  · unfold innerSt
    rw [List.length_map]
    exact S.len

theorem comp_run {elt tg iter : Expr} {ifs : List Expr} {pos pos2 : Pos} {wi : TI} {g : TG} {tif : TT} {te : TE} {use : Option (Value → Sem Unit)} {QQ : Value → Shared → Prop} (S : CompScope X N sl scope) (hcalm : X.calm = true) (hi : PI X tg iter wi)
    (hg : ∀ cl C s2 H2 fp, PG (cmpCx X N scope cl C s2 H2 fp) tg g) (hif : ∀ cl C s2 H2 fp, PIf (cmpCx X N scope cl C s2 H2 fp) ifs tif) (he : ∀ cl C s2 H2 fp, PE (cmpCx X N scope cl C s2 H2 fp) elt te)
    (hs : ∀ x, foldedSetIterable iter X.env x = pure x) {pins : List (Addr × Obj)} {s : Shared} {σ : St} {H : Hp} {Q : VK} (I : Inv X pins σ H s) (h : tComp wi sl g tif te σ H Q)
    (hend : ∀ (D C : Addr) (H3 : Hp) (s4 : Shared) (fl : Flow), Inv X pins σ H3 s4 → H3 C = none → C ≠ X.env.locals → C ∉ X.fs → X.s₀.heap.objs.size ≤ C → (∀ x c, X.env.cells.lookup x = some c → c ≠ C) → (∀ p ∈ X.pn ++ pins, p.1 ≠ C) → (∃ m, s4.heap.Ns C m) → Q (.ref D) H3 →
      compPost (model X.prog X.w) X.A X.xe use QQ (.ref D) C (.ok fl) s4) :
    wpAny (model X.prog X.w) X.A (comprehension (.ListComp elt [⟨tg, iter, ifs, 0⟩] scope pos) scope X.env pos2 (newList []) false (eval iter X.env) use) QQ X.xe s := by
  refine wpAny_comprehension_free (use := use) rfl hs (S.clos I.ok) S.kind S.locs (wpAny_mono (hi pins s σ H _ I h) (fun xv s1 h1 => wpAny_mono h1 (fun itv s2 h2 => ?_) fun _ _ e => e) fun _ _ e => e)
  obtain ⟨it, fp, tn, J, H2, rfl, I2, T, st2, f2, hR⟩ := h2
  obtain ⟨W, ⟨m0, w0⟩, turn⟩ := hR _ I2.fresh
  refine wpAny_newObj_type (wpAny_newFunctionEnv S.nocell (by intro y hy; simp at hy) (fun h₁ hns₁ hsb₁ => ?_) S.kind)
  dsimp only at hns₁ hsb₁ ⊢
  generalize hP : s2.heap.push { cls := .type "list", dict := none, data := .seq ([] : List Value).toArray } = P2 at hns₁ hsb₁ ⊢
  have hC : P2.objs.size = s2.heap.objs.size + 1 := by rw [← hP, Heap.size_push]
  have hDC : s2.heap.objs.size ≠ P2.objs.size := by rw [hC]; exact Nat.ne_of_lt (Nat.lt_succ_self _)
  have hCle : s2.heap.objs.size ≤ P2.objs.size := by rw [hC]; exact Nat.le_succ _
  have hlt : ∀ b ∈ fp, b < s2.heap.objs.size := fun b hb => let ⟨o, e, _⟩ := T.obj 0 _ st2 b hb; Heap.lt_size e
  have old : ∀ b o, s2.heap.get? b = some o → h₁.get? b = some o := fun b o e => hsb₁.extBut b o (Nat.ne_of_lt (Nat.lt_of_lt_of_le (Heap.lt_size e) hCle)) (Heap.get?_push_of_some _ (hP ▸ Heap.get?_push_of_some _ e))
  have hD1 : h₁.get? s2.heap.objs.size = some { cls := .type "list", dict := none, data := .seq ([] : List Value).toArray } := hsb₁.extBut _ _ hDC (Heap.get?_push_of_some _ (hP ▸ Heap.get?_push_size _ rfl))
  have hok := S.ok (C := P2.objs.size) I2 f2 hlt hCle
  have hokH : HOk X.prog X.w (upd H2 s2.heap.objs.size (.lst [])) h₁ := I2.hok.laid old (Nat.le_refl _) ⟨Nat.zero_le _, [], _, .nil, hD1⟩
  have hUn : Un (frs X.stack) fp H2 (upd H2 s2.heap.objs.size (.lst [])) s2.heap h₁ := Un.laid old (Nat.le_refl _) I2.fresh
  have hcellK : ∀ x c, (closOf X.env.cells scope.names []).lookup x = some c → ∃ v, h₁.IsCell c v := fun x c hc => by
    obtain ⟨v, o, ho, hd⟩ := I2.cell x c (CompScope.back hc)
    exact ⟨v, o, old c o ho, hd⟩
  have hfreeK : ∀ x c, (closOf X.env.cells scope.names []).lookup x = some c → upd H2 s2.heap.objs.size (.lst []) c = none := fun x c hc => by
    obtain ⟨v, q⟩ := I2.cell x c (CompScope.back hc)
    rw [upd_ne (Nat.ne_of_lt q.lt)]
    exact I2.freeC x c (CompScope.back hc)
  have hfreeC : upd H2 s2.heap.objs.size (.lst []) P2.objs.size = none := by
    rw [upd_ne (Ne.symm hDC)]
    exact I2.hok.fresh hCle
  have start : ∀ tk : Nat, Inv (cmpCx X N scope (closOf X.env.cells scope.names []) P2.objs.size s2 H2 fp) [] (innerSt sl σ) (upd H2 s2.heap.objs.size (.lst [])) { s2 with heap := h₁, toks := tk } := fun tk => by
    have J0 : Inv (cmpCx X N scope (closOf X.env.cells scope.names []) P2.objs.size s2 H2 fp) [] (List.replicate N.length none) (upd H2 s2.heap.objs.size (.lst [])) { s2 with heap := h₁, toks := tk } :=
      ⟨hok, rfl, I2.bare, hUn, ⟨_, hns₁, fun i x v e1 e2 _ => by
        rw [List.getElem?_replicate] at e2
        split at e2 <;> cases e2⟩, hcellK, hfreeC, hfreeK, fun p hp => absurd (show p ∈ ([] : List (Addr × Obj)) from hp) (by simp), hokH, by simp⟩
    exact S.again I2 f2 J0
  have stK : tn 0 h₁ := T.keep _ _ _ st2 fun b hb o e => old b o e
  have fr1 : ∀ b ∈ fp, upd H2 s2.heap.objs.size (.lst []) b = none := fun b hb => by
    rw [upd_ne (Nat.ne_of_lt (hlt b hb))]
    exact (f2 b hb).1
  -- what stays true of the iterator's objects
  have stat : ∀ {H' : Hp}, (∀ b ∈ fp, H' b = none) → ∀ b ∈ fp, FpOk (cmpCx X N scope (closOf X.env.cells scope.names []) P2.objs.size s2 H2 fp) [] H' b := fun hn b hb =>
    ⟨hn b hb, Nat.ne_of_lt (Nat.lt_of_lt_of_le (hlt b hb) hCle), fun z => hok.exfs b hb z, .inl hb, fun x c hc => (hok.exf b hb).2 x c hc, fun p hp => absurd (show p ∈ ([] : List (Addr × Obj)) from hp) (by simp)⟩
  have loop : ∀ tk : Nat, codeAny (model X.prog X.w) X.A (.compLoop (.ListComp elt [⟨tg, iter, ifs, 0⟩] scope pos) 0 (.ref it) (.ref s2.heap.objs.size) (compEnvC scope (closOf X.env.cells scope.names []) P2.objs.size X.env))
      (compPost (model X.prog X.w) X.A X.xe use QQ (.ref s2.heap.objs.size) P2.objs.size) { s2 with heap := h₁, toks := tk } := fun tk => by
    refine codeAny_loop rfl (fun n s' => ∃ i H', Inv (cmpCx X N scope (closOf X.env.cells scope.names []) P2.objs.size s2 H2 fp) [] (innerSt sl σ) H' s' ∧ tn i s'.heap ∧ (∀ b ∈ fp, H' b = none) ∧ W i n H') ?_ m0 ⟨0, _, start tk, stK, fr1, w0⟩
    rintro n s3 ⟨i, H3, I3, st3, fr3, w3⟩
    show wpAny _ X.A ((compTurn (.ListComp elt [⟨tg, iter, ifs, 0⟩] scope pos) 0 (.ref it) (.ref s2.heap.objs.size) (compEnvC scope (closOf X.env.cells scope.names []) P2.objs.size X.env)).onRaise (fun x => do noteFrame x (compEnvC scope (closOf X.env.cells scope.names []) P2.objs.size X.env); theTreesLotGoes x)) _ _ s3
    refine wpAny_noted ?_
    rw [compTurn_list]
    rcases turn i n H3 w3 with ⟨stop, qn⟩ | ⟨go, step⟩
    · refine wpAny_bind (wpAny_standAt (wpAny_bind (wpAny_mono (T.done (cmpCx X N scope (closOf X.env.cells scope.names []) P2.objs.size s2 H2 fp) rfl rfl rfl hcalm i [] s3 _ H3 _ I3 (stat fr3) st3 stop) (fun r s4 ⟨hr, I4⟩ => ?_) fun _ _ z => z)))
      subst hr
      refine wpAny_pure ?_
      obtain ⟨m4, hn4, _⟩ := I4.loc
      have u0 : Un (frs X.stack) fp H2 H3 s2.heap s4.heap := I4.base
      have hI : Inv X pins σ H3 s4 := I2.call' (s' := s4) (ch := fp) I4.os u0 I4.hok I4.bare fun b hb => ⟨(f2 b hb).2.2.2.1, (f2 b hb).2.1, (f2 b hb).2.2.2.2.1, (f2 b hb).2.2.2.2.2⟩
      have hC' := I2.fpOk (H' := H3) hCle I4.free
      exact hend _ _ H3 s4 _ hI I4.free hC'.2.1 hC'.2.2.1 (Nat.le_trans I2.sz hCle) hC'.2.2.2.2.1 hC'.2.2.2.2.2 ⟨m4, hn4⟩ qn
    · refine wpAny_bind (wpAny_standAt (wpAny_bind (wpAny_mono (T.item (cmpCx X N scope (closOf X.env.cells scope.names []) P2.objs.size s2 H2 fp) rfl rfl rfl hcalm i [] s3 _ H3 (fun _ _ => False) I3 (stat fr3) st3 go) (fun r s4 ⟨u, hr, h4⟩ => ?_) fun _ _ z => z.elim)))
      subst hr
      refine wpAny_bind (wpAny_mono h4 (fun _ s5 ⟨x, H5, I5, r5, y5, st5, fr5⟩ => ?_) fun _ _ z => z.elim)
      have I5' := I5.pinned (stat fr5) (T.obj _ _ st5)
      refine wpAny_bind (wpAny_mono (hg _ _ _ _ _ _ s5 _ H5 x u _ I5' r5 (step x H5 y5)) (fun _ s6 ⟨σ6, H6, I6, q6⟩ => ?_) fun _ _ z => (show False from z).elim)
      have again : ∀ {σ7 : St} {H7 : Hp} {s7 : Shared}, Inv (cmpCx X N scope (closOf X.env.cells scope.names []) P2.objs.size s2 H2 fp) ([] ++ pinsAt fp s5.heap) σ7 H7 s7 → (∃ m', m' < n ∧ W (i + 1) m' H7) →
          ∃ m', m' < n ∧ ∃ i H', Inv (cmpCx X N scope (closOf X.env.cells scope.names []) P2.objs.size s2 H2 fp) [] (innerSt sl σ) H' s7 ∧ tn i s7.heap ∧ (∀ b ∈ fp, H' b = none) ∧ W i m' H' := fun {σ7 H7 s7} I7 ⟨m', hm, w7⟩ => by
        refine ⟨m', hm, i + 1, H7, S.again I2 f2 I7.unpinned, T.keep _ _ _ st5 fun b hb o e => (I7.pin (b, o) (List.mem_append_right _ (List.mem_append_right _ (mem_pinsAt hb e)))).1, fun b hb => ?_, w7⟩
        obtain ⟨o, e, d⟩ := T.obj _ _ st5 b hb
        exact (I7.pin (b, o) (List.mem_append_right _ (List.mem_append_right _ (mem_pinsAt hb e)))).2.1
      refine wpAny_bind (wpAny_mono (hif _ _ _ _ _ _ s6 σ6 H6 _ I6 q6) (fun ok s7 ⟨H7, I7, q7⟩ => ?_) fun _ _ z => (show False from z).elim)
      cases ok with
      | false =>
        exact wpAny_pure ⟨rfl, again I7 (by simpa using q7)⟩
      | true =>
        rw [if_pos rfl] at q7
        refine wpAny_bind (wpAny_bind (wpAny_mono ((he _ _ _ _ _).out _ s7 σ6 H7 _ I7 q7) (fun y s8 ⟨yv, H8, I8, r8, ys, hys, hlen, w8⟩ => ?_) fun _ _ z => (show False from z).elim))
        refine wpAny_bind (wpAny_mono (mt_append (X := cmpCx X N scope (closOf X.env.cells scope.names []) P2.objs.size s2 H2 fp) _ s8 σ6 H8 (.ref s2.heap.objs.size) [yv] (.ref s2.heap.objs.size) [y]
          (fun v H9 => v = .non ∧ ∃ m', m' < n ∧ W (i + 1) m' H9) I8 rfl (.cons r8 .nil) ⟨_, ys, yv, rfl, rfl, hys, hlen, rfl, w8⟩) (fun r s9 ⟨v9, H9, I9, r9, e9, w9⟩ => ?_) fun _ _ z => (show False from z).elim)
        exact wpAny_pure (wpAny_pure ⟨rfl, again I9 w9⟩)
  exact codeAny_compStart_list (loop _) (T.self _ 0 _ _ _ stK (loop _))
theorem pe_comp {elt tg iter : Expr} {ifs : List Expr} {pos : Pos} {wi : TI} {g : TG} {tif : TT} {te : TE} (S : CompScope X N sl scope) (hcalm : X.calm = true) (hi : PI X tg iter wi)
    (hg : ∀ cl C s2 H2 fp, PG (cmpCx X N scope cl C s2 H2 fp) tg g) (hif : ∀ cl C s2 H2 fp, PIf (cmpCx X N scope cl C s2 H2 fp) ifs tif) (he : ∀ cl C s2 H2 fp, PE (cmpCx X N scope cl C s2 H2 fp) elt te)
    (hs : ∀ x, foldedSetIterable iter X.env x = pure x := by intro _; rfl) :
    PE X (.ListComp elt [⟨tg, iter, ifs, 0⟩] scope pos) (tComp wi sl g tif te) := by
  refine ⟨?_⟩
  intro pins s σ H Q I h
  rw [eval_ListComp]
  refine comp_run S hcalm hi hg hif he hs I h fun D C H3 s4 fl I4 n1 n2 n3 n4 n5 n6 ⟨m, hn⟩ q => ?_
  exact ⟨m, hn, fun h' hsb => ⟨.ref D, H3, I4.turned (t' := s4.toks) (fun b o hb e => (hsb.2 b hb).trans e) n1 n2 (.inr n4) n5 n6, rfl, q⟩⟩
/-- a name given a comprehension on one row: stored ahead of letting the block's names go -/
theorem ps_setC {i : Nat} {x : Str} {elt tg iter : Expr} {ifs : List Expr} {cpos pos pos' : Pos} {wi : TI} {g : TG} {tif : TT} {te : TE} (hN : X.N.Nodup) (hi' : X.N[i]? = some x) (hx : Loc X.env.scope x) (S : CompScope X N sl scope) (hcalm : X.calm = true) (hi : PI X tg iter wi)
    (hg : ∀ cl C s2 H2 fp, PG (cmpCx X N scope cl C s2 H2 fp) tg g) (hif : ∀ cl C s2 H2 fp, PIf (cmpCx X N scope cl C s2 H2 fp) ifs tif) (he : ∀ cl C s2 H2 fp, PE (cmpCx X N scope cl C s2 H2 fp) elt te)
    (hsw : swapsWith (.ListComp elt [⟨tg, iter, ifs, 0⟩] scope cpos) (some (.Name x pos')) pos.line X.env = pure true := by rfl)
    (hs : ∀ x, foldedSetIterable iter X.env x = pure x := by intro _; rfl) (hf : X.fn x = true ∨ X.env.scope.names.lookup x = some .local := by first | exact .inl rfl | exact .inr rfl | assumption) :
    PS X (.Assign [.Name x pos'] (.ListComp elt [⟨tg, iter, ifs, 0⟩] scope cpos) pos) (tAsg (tComp wi sl g tif te) (gName i)) := by
  refine ⟨?_⟩
  intro pins s σ H D0 I h
  rw [exec_Assign_Name_used _ _ _ _ hsw]
  refine wpAny_bind (wpAny_standAt (wpAny_bind ?_))
  show wpAny _ X.A (do let _ ← comprehension (.ListComp elt [⟨tg, iter, ifs, 0⟩] scope cpos) scope X.env _ (newList []) false (eval iter X.env) (some (assign (.Name x pos') X.env))) _ _ s
  refine wpAny_bind (wpAny_mono (comp_run (QQ := fun _ s' => ∃ σ' H', Inv X pins σ' H' s' ∧ D0.nx σ' H') (use := some (assign (.Name x pos') X.env)) S hcalm hi hg hif he hs I h fun D C H3 s4 fl I4 n1 n2 n3 n4 n5 n6 hm q => ?_)
    (fun _ s' hq => wpAny_pure (wpAny_pure hq)) fun _ _ e => e)
  obtain ⟨m, hn⟩ := hm
  show wpAny _ X.A (assign (.Name x pos') X.env (.ref D)) _ _ _
  refine wpAny_assign_Name (store_ok2 I4 hN hi' hx (show RelV (.ref D) (.ref D) from rfl) (fun s5 I5 ⟨a, hsb, ha⟩ => ?_) hf)
  have hCa : C ≠ a := by
    rcases ha with rfl | ha
    · exact n2
    · exact fun z => n5 _ _ ha z.symm
  refine ⟨m, hn.sameBut hsb hCa, fun h' hsb' => ⟨_, H3, I5.turned (t' := s5.toks) (fun b o hb e => (hsb'.2 b hb).trans e) n1 n2 (.inr n4) n5 n6, q⟩⟩
end
end L2

set_option Elab.async false
set_option linter.all false
set_option maxRecDepth 100000
namespace L2
open PySem PySem.Spec PyProof.Rows

/-! ## whole numbers of any size that fits -/
section
variable {X : Cx}
def CMulO (i j : Int) : Prop := IntMulOk i j
/-- // by a divisor of either sign, not too long -/
def CDivW (i j : Int) : Prop := j ≠ 0 ∧ j.natAbs < 2 ^ 9000
theorem CDivW.py {i j : Int} (h : CDivW i j) : Builtin.divisionGoesByPylong i j = false := by
  refine PyProof.noPylong_of_log2 ?_
  have h0 : j.natAbs ≠ 0 := fun z => h.1 (Int.natAbs_eq_zero.mp z)
  exact (Nat.log2_lt h0).mpr h.2
theorem op_mulO : OpR X (binaryOp .Mult) (rI CMulO fun i j => .int (i * j)) := opI fun _ _ _ _ _ _ _ hc q => mul_int q hc
theorem iop_mulO : OpR X (inplaceOp .Mult) (rI CMulO fun i j => .int (i * j)) := opI fun _ _ _ _ _ _ _ hc q => imul_int q hc
theorem op_fdivW : OpR X (binaryOp .FloorDiv) (rI CDivW fun i j => .int (i.fdiv j)) := opI fun _ _ _ _ _ _ _ hc q => floordiv_int hc.1 q (.inl hc.py)
theorem mulOk {a b : Int} {m n : Nat} (ha : a.natAbs < 2 ^ m) (hb : b.natAbs < 2 ^ n) (h : m + n ≤ 134217728) : CMulO a b :=
  IntMulOk.of_le (intBits_le_iff.mpr ha) (intBits_le_iff.mpr hb) h
theorem mulOkL {a b : Int} (h1 : -(2 ^ 64) < a) (h2 : a < 2 ^ 64) : CMulO a b := .of_left (intBits_le_64 h1 h2)
theorem mulOkR {a b : Int} (h1 : -(2 ^ 64) < b) (h2 : b < 2 ^ 64) : CMulO a b := .of_right (intBits_le_64 h1 h2)

/-! ## is, is not beside True, False, None -/
def isPlain : V → Bool
  | .non => true
  | .bl _ => true
  | _ => false
theorem RelV.beq_plain {x y : V} {v u : Value} (rx : RelV x v) (ry : RelV y u) (hy : isPlain y = true) : plainIs v u = true ∧ (v == u) = decide (x = y) := by
  cases y with
  | non =>
    cases ry
    cases x <;> first | (cases rx; exact ⟨rfl, rfl⟩) | (obtain ⟨t, rfl⟩ := rx; exact ⟨rfl, rfl⟩)
  | bl b =>
    cases ry
    cases x with
    | bl c =>
      cases rx
      refine ⟨rfl, ?_⟩
      cases b <;> cases c <;> rfl
    | non => cases rx; exact ⟨rfl, rfl⟩
    | ref a => cases rx; exact ⟨rfl, rfl⟩
    | ty n => cases rx; exact ⟨rfl, rfl⟩
    | int _ => obtain ⟨t, rfl⟩ := rx; exact ⟨rfl, rfl⟩
    | str _ => obtain ⟨t, rfl⟩ := rx; exact ⟨rfl, rfl⟩
    | byt _ => obtain ⟨t, rfl⟩ := rx; exact ⟨rfl, rfl⟩
    | flt _ => obtain ⟨t, rfl⟩ := rx; exact ⟨rfl, rfl⟩
  | _ => exact absurd (show false = true from hy) Bool.false_ne_true
theorem op_is : OpR X (compareOp .Is) (fun x y H Q => isPlain y = true ∧ Q (.bl (decide (x = y))) H) := by
  intro pins s σ H x y v u Q I rx ry h
  obtain ⟨hy, q⟩ := h
  obtain ⟨p, e⟩ := rx.beq_plain ry hy
  exact wpAny_is_plain p (fin_bl I q e.symm)
theorem op_isnot : OpR X (compareOp .IsNot) (fun x y H Q => isPlain y = true ∧ Q (.bl (!decide (x = y))) H) := by
  intro pins s σ H x y v u Q I rx ry h
  obtain ⟨hy, q⟩ := h
  obtain ⟨p, e⟩ := rx.beq_plain ry hy
  exact wpAny_isNot_plain p (fin_bl I q (congrArg not e.symm))

/-! ## isinstance of a built-in type -/
inductive TyB (K : PySem.W.Frag) (H : Hp) : V → String → Prop where
  | non : TyB K H .non "NoneType"
  | bl (x : Bool) : TyB K H (.bl x) "bool"
  | int (i : Int) : TyB K H (.int i) "int"
  | str (x : Str) : TyB K H (.str x) "str"
  | lst {a : Addr} {xs : List V} (e : SqL K H a xs) : TyB K H (.ref a) "list"
  | tup {a : Addr} {xs : List V} (e : SqT K H a xs) : TyB K H (.ref a) "tuple"
theorem call_isinst : CallR X (.builtin "isinstance") (fun xs H Q => ∃ x T T' b, xs = [x, .ty T'] ∧ TyB X.K H x T ∧ PySem.W.kitOne X.K (.type T) (.type T') = some b ∧ Q (.bl b) H) := by
  intro pins s σ H xs us Q I rv h
  obtain ⟨x, T, T', b, rfl, ty, e, q⟩ := h
  obtain ⟨u, w', rfl, rx, rt⟩ := vals2 rv
  obtain rfl : w' = Value.type T' := rt
  have fin : ∀ tk, EP X pins σ Q (.bool b) { s with toks := tk } := fun tk => ⟨.bl b, H, I.tok tk, rfl, q⟩
  cases ty with
  | non => cases (show u = Value.none from rx); exact PySem.W.kia_one PySem.W.kitx_none I.kIn True.intro e (fun z => nomatch z) fin
  | bl y => cases (show u = Value.bool y from rx); exact PySem.W.kia_one PySem.W.kitx_bool I.kIn True.intro e (fun z => nomatch z) fin
  | int i => obtain ⟨t, q'⟩ := (show ∃ t, u = Value.int i t from rx); cases q'; exact PySem.W.kia_one PySem.W.kitx_int I.kIn True.intro e (fun z => nomatch z) fin
  | str y => obtain ⟨t, q'⟩ := (show ∃ t, u = Value.str y t from rx); cases q'; exact PySem.W.kia_one PySem.W.kitx_str I.kIn True.intro e (fun z => nomatch z) fin
  | @lst a ys ea =>
    cases (show u = Value.ref a from rx)
    obtain ⟨its, _, ⟨o, n, h1, h2, _⟩, _⟩ := I.list ea
    exact PySem.W.kia_one PySem.W.kitx_list I.kIn ⟨o, h1, h2⟩ e (fun z => nomatch z) fin
  | @tup a ys ea =>
    cases (show u = Value.ref a from rx)
    obtain ⟨its, _, ⟨o, h1, h2, _⟩, _⟩ := I.tuple ea
    exact PySem.W.kia_one PySem.W.kitx_tuple I.kIn ⟨o, h1, h2⟩ e (fun z => nomatch z) fin

/-! ## deep data: what a value reads as -/
inductive Den (K : PySem.W.Frag) (H : Hp) : V → PyData → Prop where
  | non : Den K H .non .none
  | bl (b : Bool) : Den K H (.bl b) (.bool b)
  | int (i : Int) : Den K H (.int i) (.int i)
  | str (x : Str) : Den K H (.str x) (.str x)
  | lst {a : Addr} {xs : List V} {ds : List PyData} : SqL K H a xs → xs.length = ds.length → (∀ (i : Nat) x d, xs[i]? = some x → ds[i]? = some d → Den K H x d) → Den K H (.ref a) (.list ds)
  | tup {a : Addr} {xs : List V} {ds : List PyData} : SqT K H a xs → xs.length = ds.length → (∀ (i : Nat) x d, xs[i]? = some x → ds[i]? = some d → Den K H x d) → Den K H (.ref a) (.tuple ds)
theorem readsAll_of {h : Heap} : ∀ {us : List Value} {ds : List PyData}, us.length = ds.length → (∀ (i : Nat) u d, us[i]? = some u → ds[i]? = some d → ∃ as, Reads h u d as) → ∃ as, ReadsAll h us ds as
  | [], [], _, _ => ⟨[], .nil⟩
  | [], _ :: _, e, _ => by simp at e
  | _ :: _, [], e, _ => by simp at e
  | u :: us, d :: ds, e, f => by
    obtain ⟨as, r⟩ := f 0 u d rfl rfl
    obtain ⟨bs, rs⟩ := readsAll_of (us := us) (ds := ds) (by simpa using e) fun i u d h1 h2 => f (i + 1) u d (by simpa using h1) (by simpa using h2)
    exact ⟨as ++ bs, .cons r rs⟩
theorem Vals.back {xs : List V} {us : List Value} (r : Vals xs us) {i : Nat} {u : Value} (h : us[i]? = some u) : ∃ x, xs[i]? = some x ∧ RelV x u := by
  have hi : i < us.length := (List.getElem?_eq_some_iff.mp h).1
  have hx : i < xs.length := by rw [r.length]; exact hi
  obtain ⟨u', h', rel⟩ := r.get (List.getElem?_eq_getElem hx)
  rw [h] at h'; cases h'
  exact ⟨_, List.getElem?_eq_getElem hx, rel⟩
theorem Den.reads {pins : List (Addr × Obj)} {σ : St} {H : Hp} {s : Shared} (I : Inv X pins σ H s) {v : V} {d : PyData} (D : Den X.K H v d) : ∀ {u : Value}, RelV v u → ∃ as, Reads s.heap u d as := by
  induction D with
  | non => intro u r; cases (show u = Value.none from r); exact ⟨_, .none⟩
  | bl b => intro u r; cases (show u = Value.bool b from r); exact ⟨_, .bool b⟩
  | int i => intro u r; obtain ⟨t, rfl⟩ := (show ∃ t, u = Value.int i t from r); exact ⟨_, .int i t⟩
  | str x => intro u r; obtain ⟨t, rfl⟩ := (show ∃ t, u = Value.str x t from r); exact ⟨_, .str x t⟩
  | @lst a xs ds q hl _ ih =>
    intro u r
    cases (show u = Value.ref a from r)
    obtain ⟨its, rv, ⟨o, n, h1, h2, h3, h4⟩, _⟩ := I.list q
    obtain ⟨as, ra⟩ := readsAll_of (h := s.heap) (us := its) (ds := ds) (by rw [← rv.length]; exact hl) fun i u d e1 e2 => by
      obtain ⟨x, ex, rel⟩ := rv.back e1
      exact ih i x d ex e2 rel
    exact ⟨_, .list h1 h2 h4 (by simpa using ra)⟩
  | @tup a xs ds q hl _ ih =>
    intro u r
    cases (show u = Value.ref a from r)
    obtain ⟨its, rv, ⟨o, h1, h2, n, h4⟩, _⟩ := I.tuple q
    obtain ⟨as, ra⟩ := readsAll_of (h := s.heap) (us := its) (ds := ds) (by rw [← rv.length]; exact hl) fun i u d e1 e2 => by
      obtain ⟨x, ex, rel⟩ := rv.back e1
      exact ih i x d ex e2 rel
    exact ⟨_, .tuple h1 h2 h4 (by simpa using ra)⟩
theorem Same.tup {K : PySem.W.Frag} {H H' : Hp} {a : Addr} {xs : List V} (e : Same H H') (h : SqT K H a xs) : SqT K H' a xs := by
  rcases h with (h | ⟨o, h⟩) | h
  · exact .inl (.inl (e _ _ h))
  · exact .inl (.inr ⟨o, e _ _ h⟩)
  · exact .inr h
theorem Den.same {K : PySem.W.Frag} {H H' : Hp} (e : Same H H') {v : V} {d : PyData} (D : Den K H v d) : Den K H' v d := by
  induction D with
  | non => exact .non
  | bl b => exact .bl b
  | int i => exact .int i
  | str x => exact .str x
  | lst q hl _ ih => exact .lst (e.seq q) hl ih
  | tup q hl _ ih => exact .tup (e.tup q) hl ih
def rEqD (K : PySem.W.Frag) (neg : Bool) : R2 := fun x y H Q => ∃ d e, Den K H x d ∧ Den K H y e ∧ SeqAt.shaped d = true ∧ SeqAt.shaped e = true ∧ Q (.bl (if neg then !PyData.eqv d e else PyData.eqv d e)) H
theorem op_eqD (hu : X.A.units + 64 < cLine) : OpR X (compareOp .Eq) (rEqD X.K false) := by
  intro pins s σ H x y v u Q I rx ry h
  obtain ⟨d, e, Dx, Dy, sd, se, q⟩ := h
  obtain ⟨as, ra⟩ := Dx.reads I rx
  obtain ⟨bs, rb⟩ := Dy.reads I ry
  exact SeqAt.compareEq_shaped ra rb sd se hu (fin_bl I q rfl)
theorem op_neD (hu : X.A.units + 64 < cLine) : OpR X (compareOp .NotEq) (rEqD X.K true) := by
  intro pins s σ H x y v u Q I rx ry h
  obtain ⟨d, e, Dx, Dy, sd, se, q⟩ := h
  obtain ⟨as, ra⟩ := Dx.reads I rx
  obtain ⟨bs, rb⟩ := Dy.reads I ry
  exact SeqAt.compareNe_shaped ra rb sd se hu (fin_bl I q rfl)
/-- a flat row of scalars -/
def scalD : V → Option PyData
  | .non => some .none
  | .bl b => some (.bool b)
  | .int i => some (.int i)
  | .str x => some (.str x)
  | _ => none
theorem den_scal {K : PySem.W.Frag} {H : Hp} {v : V} {d : PyData} (h : scalD v = some d) : Den K H v d := by
  cases v <;> first | (cases h; constructor) | cases h
def scalDs : List V → Option (List PyData)
  | [] => some []
  | v :: r => match scalD v, scalDs r with
    | some d, some ds => some (d :: ds)
    | _, _ => none
theorem scalDs_ok : ∀ {xs : List V} {ds : List PyData}, scalDs xs = some ds → xs.length = ds.length ∧ ∀ (i : Nat) x d, xs[i]? = some x → ds[i]? = some d → scalD x = some d
  | [], ds, h => by cases h; exact ⟨rfl, fun i x d h => by simp at h⟩
  | v :: r, ds, h => by
    unfold scalDs at h
    cases e1 : scalD v with
    | none => rw [e1] at h; cases h
    | some d0 =>
      cases e2 : scalDs r with
      | none => rw [e1, e2] at h; cases h
      | some dr =>
        rw [e1, e2] at h
        cases h
        obtain ⟨hl, hx⟩ := scalDs_ok e2
        refine ⟨by simp [hl], fun i x d h1 h2 => ?_⟩
        cases i with
        | zero => simp at h1 h2; rw [← h1, ← h2]; exact e1
        | succ i => exact hx i x d (by simpa using h1) (by simpa using h2)
theorem den_lst {K : PySem.W.Frag} {H : Hp} {a : Addr} {xs : List V} {ds : List PyData} (q : SqL K H a xs) (h : scalDs xs = some ds) : Den K H (.ref a) (.list ds) :=
  .lst q (scalDs_ok h).1 fun i x d h1 h2 => den_scal ((scalDs_ok h).2 i x d h1 h2)
theorem den_tup {K : PySem.W.Frag} {H : Hp} {a : Addr} {xs : List V} {ds : List PyData} (q : SqT K H a xs) (h : scalDs xs = some ds) : Den K H (.ref a) (.tuple ds) :=
  .tup q (scalDs_ok h).1 fun i x d h1 h2 => den_scal ((scalDs_ok h).2 i x d h1 h2)
theorem scalDs_ints : ∀ (ns : List Int), scalDs (ns.map V.int) = some (ns.map PyData.int)
  | [] => rfl
  | n :: ns => by
    show (match scalD (.int n), scalDs (ns.map V.int) with | some d, some ds => some (d :: ds) | _, _ => none) = _
    rw [scalDs_ints ns]
    rfl

/-! ## all, any over a list of truths -/
theorem boolsAre_of : ∀ {bs : List Bool} {us : List Value}, Vals (bs.map V.bl) us → LSm.BoolsAre us bs
  | [], _, .nil => .nil
  | b :: bs, _, .cons r t => by
    cases (show _ = Value.bool b from r)
    exact .cons b (boolsAre_of t)
theorem call_all (hc : X.calm = true) : CallR X (.builtin "all") (fun xs H Q => ∃ p, ∃ bs : List Bool, xs = [.ref p] ∧ SqL X.K H p (bs.map V.bl) ∧ Q (.bl (bs.all id)) H) := by
  intro pins s σ H xs us Q I rv h
  obtain ⟨p, bs, rfl, hq, q⟩ := h
  obtain ⟨u, rfl, ru⟩ := vals1 rv
  cases (show u = Value.ref p from ru)
  obtain ⟨its, r, hp, _⟩ := I.list hq
  have hb := boolsAre_of r
  have hl := hp.isList
  have hlt : p < s.heap.objs.size := by obtain ⟨_, e, _⟩ := hl; exact Heap.lt_size e
  refine call_all_walk (wpAny_pyIter_list hl ?_)
  refine ⟨s.heap.objs.size, [s.heap.objs.size, p], [s.heap.objs.size], its.toArray.size, _, _, fun i => (bs[i]?).getD true, rfl, Walks.list (A := X.A.in1) (I.ok.hd hc) _ p (Nat.ne_of_lt hlt) its.toArray,
    ⟨⟨_, Heap.get?_push_size _ rfl, rfl, rfl⟩, hl.push _⟩, fun i v s' Q' E' hP hQ => ?_, fun h' tk hk => ?_⟩
  · obtain ⟨b, e, rfl⟩ := hb.get i v (by simpa using hP)
    simp only [e, Option.getD_some] at hQ
    exact wpAny_truthy_bool hQ
  · have e : ((List.range its.toArray.size).all fun i => (bs[i]?).getD true) = bs.all id := by
      rw [List.size_toArray, hb.length]; exact LSm.range_all bs
    rw [e]
    exact ⟨.bl _, H, I.kept (h' := h') (t' := tk) (LSm.kept_iter hk), rfl, q⟩
theorem call_any (hc : X.calm = true) : CallR X (.builtin "any") (fun xs H Q => ∃ p, ∃ bs : List Bool, xs = [.ref p] ∧ SqL X.K H p (bs.map V.bl) ∧ Q (.bl (bs.any id)) H) := by
  intro pins s σ H xs us Q I rv h
  obtain ⟨p, bs, rfl, hq, q⟩ := h
  obtain ⟨u, rfl, ru⟩ := vals1 rv
  cases (show u = Value.ref p from ru)
  obtain ⟨its, r, hp, _⟩ := I.list hq
  have hb := boolsAre_of r
  have hl := hp.isList
  have hlt : p < s.heap.objs.size := by obtain ⟨_, e, _⟩ := hl; exact Heap.lt_size e
  refine call_any_walk (wpAny_pyIter_list hl ?_)
  refine ⟨s.heap.objs.size, [s.heap.objs.size, p], [s.heap.objs.size], its.toArray.size, _, _, fun i => (bs[i]?).getD false, rfl, Walks.list (A := X.A.in1) (I.ok.hd hc) _ p (Nat.ne_of_lt hlt) its.toArray,
    ⟨⟨_, Heap.get?_push_size _ rfl, rfl, rfl⟩, hl.push _⟩, fun i v s' Q' E' hP hQ => ?_, fun h' tk hk => ?_⟩
  · obtain ⟨b, e, rfl⟩ := hb.get i v (by simpa using hP)
    simp only [e, Option.getD_some] at hQ
    exact wpAny_truthy_bool hQ
  · have e : ((List.range its.toArray.size).any fun i => (bs[i]?).getD false) = bs.any id := by
      rw [List.size_toArray, hb.length]; exact LSm.range_any bs
    rw [e]
    exact ⟨.bl _, H, I.kept (h' := h') (t' := tk) (LSm.kept_iter hk), rfl, q⟩
end

/-! ## a def, its text and its promise in one -/
structure Src (K : PySem.W.Frag) (mg : Str → Option Value) (x : Str) (st : Stmt) (ps : List Str) : Prop where
  ex : ∃ f fd, Fun K x x st f fd ∧ Binds K fd ps [] ∧ mg x = some (.ref f)
structure Dfn (P : Program) (w : World) (K : PySem.W.Frag) (mg : Str → Option Value) (base : Heap) (k : Nat) (x : Str) (ps : List Str) (sp : Sp) : Prop where
  ex : ∃ f fd, FnOk P w K mg base CX0 k f fd ps sp ∧ Binds K fd ps [] ∧ PySem.W.keepIn K (.ref f) = true ∧ mg x = some (.ref f)
section
variable {P : Program} {w : World} {K : PySem.W.Frag} {mg : Str → Option Value} {base : Heap}
theorem Src.ok {x : Str} {st : Stmt} {N ps : List Str} {k : Nat} {sp : Sp} (F : Src K mg x st ps) (S : FnScope N ps (defScope st)) (len : ∀ vs H Q E, sp vs H Q E → vs.length = ps.length)
    (hbody : ∀ (f : Addr) (cdv : Value) (A : Around) (outer : List Env) (s : Shared) (H : Hp) (vs : List V) (Q : VK) (E : XK), Room k (A.deeper (envOfC x (defScope st) s.heap.objs.size f cdv)) → sp vs H Q E →
      ∃ t, PSs (cxOf CX0 P w K mg base N x (defScope st) f cdv A outer s H E).nox (defBody st) t ∧ t { nx := fun _ H' => Q .non H', rt := Q } (start N vs) H) : Dfn P w K mg base (k + 1) x ps sp := by
  obtain ⟨f, fd, F, B, M⟩ := F.ex
  exact ⟨f, fd, F.ok S len (hbody f), B, F.kp, M⟩
theorem Dfn.imp {k : Nat} {x : Str} {ps : List Str} {sp sp' : Sp} (D : Dfn P w K mg base k x ps sp) (h : ∀ vs H Q E, sp' vs H Q E → sp vs H Q E) : Dfn P w K mg base k x ps sp' := by
  obtain ⟨f, fd, F, B, kp, M⟩ := D.ex
  exact ⟨f, fd, F.imp h, B, kp, M⟩
theorem src_mk {x : Str} {st : Stmt} {ps : List Str} {f : Addr} {oc : Value} {od an : Option Addr} {osl : Array (Option Value)} {kV doc pm cdv ct : Value} {h : Heap} (X : K.In h) (G : h.Ns mainGlobals mg)
    (a : PySem.W.nsIn K mainGlobals x = some (some (.ref f))) (l : K.lookup f = some ⟨oc, od, .func (PySem.W.fnOf x x (defArgs st) (defBody st) (defScope st) .none kV doc pm an cdv ct), osl⟩) (c : PySem.W.codeIn K cdv x = true) (k : PySem.W.keepIn K (.ref f) = true)
    (hb : ∀ (kV doc pm : Value) (an : Option Addr) (cdv ct : Value) (us : List Value), us.length = ps.length → bindArgs (PySem.W.fnOf x x (defArgs st) (defBody st) (defScope st) .none kV doc pm an cdv ct) ⟨us, []⟩ = pure (ps.zip us)) : Src K mg x st ps :=
  ⟨f, _, fun_mk l c k, (fun_mk l c k).binds hb, PySem.W.mg_of X G a⟩
end
/-- f(e, ..), f a def of the text by its promise -/
theorem pe_def {X : Cx} {k n : Nat} {x : Str} {ps : List Str} {sp : Sp} {e : Expr} {es : List Expr} {t : TA} {p pos : Pos} (D : Dfn X.prog X.w X.K X.mg X.base k x ps sp) (hr : Room n X.A) (ha : PA X (e :: es) t) (hle : k ≤ n := by decide) (hg : Gl X x := by rfl)
    (hdb : (x == ("__debug__" : Str)) = false := by decide) (he : starEach (e :: es) X.env = (false, eval e X.env) :: starEach es X.env := by rfl) (hpl : (backTo pos (starEach es X.env)).any (·.1) = false := by rfl) :
    PE X (.Call (.Name x p) (e :: es) [] pos) (tCall sp [] E0 t) := by
  obtain ⟨f, fd, F, B, kp, M⟩ := D.ex
  exact pe_call F (hr.mono hle) hg M kp B .nil pass0 ha hdb he hpl
/-- f() -/
theorem pe_def0 {X : Cx} {k n : Nat} {x : Str} {ps : List Str} {sp : Sp} {p pos : Pos} (D : Dfn X.prog X.w X.K X.mg X.base k x ps sp) (hr : Room n X.A) (hle : k ≤ n := by decide) (hg : Gl X x := by rfl)
    (hdb : (x == ("__debug__" : Str)) = false := by decide) : PE X (.Call (.Name x p) [] [] pos) (tCall sp [] E0 tNil) := by
  obtain ⟨f, fd, F, B, kp, M⟩ := D.ex
  exact pe_call0 F (hr.mono hle) hg M kp B .nil pass0 hdb
theorem same_new {H : Hp} {p : Addr} (h : H p = none) (o : HO) : Same H (upd H p o) := fun b u q => by rw [upd_ne (ne_of_none q h)]; exact q
end L2
namespace L2
open PySem PySem.Spec PyProof.Rows
def compOk (osc : Scope) (ON N : List Str) (sl : List (Option Nat)) (scope : Scope) : Bool :=
  decide (scope.kind = .function) && scope.names.all (fun y => decide (y.2 ≠ .cell)) && scope.names.all (fun y => decide (y.2 = .local → scope.names.lookup y.1 = some .local)) &&
  scope.names.all (fun y => decide (y.2 = .free → osc.names.lookup y.1 = some .cell ∨ osc.names.lookup y.1 = some .free)) && decide (sl.length = N.length) &&
  (List.range N.length).all fun j => match N[j]?, sl[j]? with
    | some x, some (some i) => decide (ON[i]? = some x ∧ scope.names.lookup x = some .free)
    | _, _ => true
theorem compScope_mk {X : Cx} {N : List Str} {sl : List (Option Nat)} {scope : Scope} (osc : Scope) (ON : List Str) (h1 : X.env.scope = osc) (h2 : X.N = ON) (hb : compOk osc ON N sl scope = true) : CompScope X N sl scope := by
  unfold compOk at hb
  simp only [Bool.and_eq_true, decide_eq_true_eq, List.all_eq_true] at hb
  obtain ⟨⟨⟨⟨⟨b1, b2⟩, b3⟩, b4⟩, b5⟩, b6⟩ := hb
  refine ⟨b1, b2, b3, fun y hy hf => ?_, b5, fun j i x e1 e2 => ?_⟩
  · have := b4 y hy hf
    show X.env.scope.names.lookup y.1 = _ ∨ X.env.scope.names.lookup y.1 = _
    rw [h1]
    exact this
  · have hj : j < N.length := (List.getElem?_eq_some_iff.mp e1).1
    have := b6 j (List.mem_range.mpr hj)
    rw [e1, e2] at this
    have q := of_decide_eq_true this
    rw [h2]
    exact q
theorem bt_len : bootBuiltins "len" = some (.builtin "len") := by decide +kernel
theorem bt_abs : bootBuiltins "abs" = some (.builtin "abs") := by decide +kernel
theorem bt_isinstance : bootBuiltins "isinstance" = some (.builtin "isinstance") := by decide +kernel
theorem bt_all : bootBuiltins "all" = some (.builtin "all") := by decide +kernel
theorem bt_any : bootBuiltins "any" = some (.builtin "any") := by decide +kernel
theorem bt_min : bootBuiltins "min" = some (.builtin "min") := by decide +kernel
theorem bt_max : bootBuiltins "max" = some (.builtin "max") := by decide +kernel
theorem bt_sorted : bootBuiltins "sorted" = some (.builtin "sorted") := by decide +kernel
theorem bt_sum : bootBuiltins "sum" = some (.builtin "sum") := by decide +kernel
theorem bt_int : bootBuiltins "int" = some (.type "int") := by decide +kernel
theorem bt_bool : bootBuiltins "bool" = some (.type "bool") := by decide +kernel
theorem bt_str : bootBuiltins "str" = some (.type "str") := by decide +kernel
theorem bt_list : bootBuiltins "list" = some (.type "list") := by decide +kernel
theorem bt_tuple : bootBuiltins "tuple" = some (.type "tuple") := by decide +kernel
end L2

namespace L2
open PySem PySem.Spec PyProof.Rows
/-! ## readings that name the written part alone (a comprehension's block shares it) -/
def rIsi (K : PySem.W.Frag) : List V → Hp → VK → Prop := fun xs H Q => ∃ x T T' b, xs = [x, .ty T'] ∧ TyB K H x T ∧ PySem.W.kitOne K (.type T) (.type T') = some b ∧ Q (.bl b) H
def rAllB (K : PySem.W.Frag) : List V → Hp → VK → Prop := fun xs H Q => ∃ p, ∃ bs : List Bool, xs = [.ref p] ∧ SqL K H p (bs.map V.bl) ∧ Q (.bl (bs.all id)) H
def rAnyB (K : PySem.W.Frag) : List V → Hp → VK → Prop := fun xs H Q => ∃ p, ∃ bs : List Bool, xs = [.ref p] ∧ SqL K H p (bs.map V.bl) ∧ Q (.bl (bs.any id)) H
def rLenS (K : PySem.W.Frag) : List V → Hp → VK → Prop := fun xs H Q => ∃ p ys, xs = [.ref p] ∧ (SqL K H p ys ∨ SqT K H p ys) ∧ Q (.int ys.length) H
section
variable {X : Cx} {K : PySem.W.Frag}
theorem callK_isinst (h : X.K = K) : CallR X (.builtin "isinstance") (rIsi K) := by subst h; exact call_isinst
theorem callK_all (h : X.K = K) (hc : X.calm = true) : CallR X (.builtin "all") (rAllB K) := by subst h; exact call_all hc
theorem callK_any (h : X.K = K) (hc : X.calm = true) : CallR X (.builtin "any") (rAnyB K) := by subst h; exact call_any hc
theorem callK_len (h : X.K = K) : CallR X (.builtin "len") (rLenS K) := by subst h; exact call_len_seq
theorem ixK_list (h : X.K = K) : IxR X (rIxL K) := by subst h; exact ix_list
theorem ixK_tup (h : X.K = K) : IxR X (rIxT K) := by subst h; exact ix_tup
theorem slK_list (h : X.K = K) : SlR X (rSlL K) := by subst h; exact sl_list
theorem slK_tup (h : X.K = K) : SlR X (rSlT K) := by subst h; exact sl_tup
theorem opK_in (h : X.K = K) : OpR X (compareOp .In) (rIn K false) := by subst h; exact op_in_seq
theorem opK_notIn (h : X.K = K) : OpR X (compareOp .NotIn) (rIn K true) := by subst h; exact op_notIn_seq
theorem opK_eqD (h : X.K = K) (hu : X.A.units + 64 < cLine) : OpR X (compareOp .Eq) (rEqD K false) := by subst h; exact op_eqD hu
theorem opK_neD (h : X.K = K) (hu : X.A.units + 64 < cLine) : OpR X (compareOp .NotEq) (rEqD K true) := by subst h; exact op_neD hu
theorem opK_catT (h : X.K = K) : OpR X (binaryOp .Add) (rCatT K) := by subst h; exact op_catT
theorem piK_list {tg l : Expr} {tl : TE} (h : X.K = K) (hl : PE X l tl) : PI X tg l (iList K tl) := by subst h; exact pi_list hl
theorem piK_tup {tg l : Expr} {tl : TE} (h : X.K = K) (hl : PE X l tl) : PI X tg l (iTup K tl) := by subst h; exact pi_tup hl
theorem pgK_tup {es : List Expr} {k : Nat} {t : TGs} {n : Nat} {pos : Pos} (hK : X.K = K) (hc : X.calm = true) (h : PGs X es t)
    (hn : (assignEach es X.env).length = n := by rfl) (hst : (assignEach es X.env).findIdx? (·.1) = none := by rfl) : PG X (.Tuple es k pos) (gTup K n t) := by subst hK; exact pg_tup hc h hn hst
end
end L2

set_option Elab.async false
set_option linter.all false
set_option maxRecDepth 100000
namespace L2
open PySem PySem.Spec PyProof.Rows

/-! ## sizes of whole numbers, by powers of two that are not reckoned out -/
def Bd (m : Nat) (x : Int) : Prop := x.natAbs < 2 ^ m
theorem Bd.mono {m n : Nat} {x : Int} (h : Bd m x) (hmn : m ≤ n) : Bd n x := Nat.lt_of_lt_of_le h (Nat.pow_le_pow_right (by decide) hmn)
theorem Bd.bits {m : Nat} {x : Int} (h : Bd m x) : Builtin.Int.intBits x ≤ m := intBits_le_iff.mpr h
theorem Bd.of_bits {m : Nat} {x : Int} (h : Builtin.Int.intBits x ≤ m) : Bd m x := intBits_le_iff.mp h
theorem Bd.mul {m n : Nat} {x y : Int} (hx : Bd m x) (hy : Bd n y) : Bd (m + n) (x * y) := .of_bits (intBits_mul_le hx.bits hy.bits)
theorem Bd.add {m n : Nat} {x y : Int} (hx : Bd m x) (hy : Bd n y) : Bd (max m n + 1) (x + y) := .of_bits (intBits_add_le hx.bits hy.bits)
theorem Bd.sub {m n : Nat} {x y : Int} (hx : Bd m x) (hy : Bd n y) : Bd (max m n + 1) (x - y) := .of_bits (intBits_sub_le hx.bits hy.bits)
theorem Bd.neg {m : Nat} {x : Int} (hx : Bd m x) : Bd m (-x) := .of_bits (intBits_neg_le hx.bits)
theorem Bd.le {m : Nat} {x y : Int} (h : x.natAbs ≤ y.natAbs) (hy : Bd m y) : Bd m x := Nat.lt_of_le_of_lt h hy
theorem Bd.fdiv {m : Nat} {x y : Int} (hx : Bd m x) : Bd m (x.fdiv y) := .of_bits (intBits_fdiv_le hx.bits)
theorem Bd.ok {m n : Nat} {x y : Int} (hx : Bd m x) (hy : Bd n y) (h : m + n ≤ 134217728 := by decide) : CMulO x y := mulOk hx hy h
theorem Bd.dv {m : Nat} {i j : Int} (h : Bd m j) (h0 : j ≠ 0) (hm : m ≤ 9000 := by decide) : CDivW i j := ⟨h0, h.mono hm⟩
theorem Bd.lit {x : Int} {m : Nat} (h : x.natAbs.log2 < m) (h0 : x.natAbs ≠ 0) : Bd m x := (Nat.log2_lt h0).mp h
theorem Bd.small {x : Int} (h1 : -(2 ^ 64) < x) (h2 : x < 2 ^ 64) : Bd 64 x := by unfold Bd; omega

theorem atI_get_nat {α : Type} {xs : List α} {i : Int} (h0 : 0 ≤ i) (h1 : i.toNat < xs.length) : atI xs i = some xs[i.toNat] := by
  have e : i = ((i.toNat : Nat) : Int) := by omega
  have q : atI xs ((i.toNat : Nat) : Int) = some xs[i.toNat] := atI_nat (List.getElem?_eq_getElem h1)
  rw [← e] at q
  exact q
theorem atI_mem {α : Type} {xs : List α} {i : Int} (h0 : 0 ≤ i) (h1 : i < xs.length) : ∃ v, atI xs i = some v ∧ v ∈ xs := by
  have hi : i.toNat < xs.length := by omega
  exact ⟨xs[i.toNat], atI_get_nat h0 hi, List.getElem_mem hi⟩
theorem fmod_range (x : Int) {y : Int} (hy : 0 < y) : 0 ≤ x.fmod y ∧ x.fmod y < y := ⟨Int.fmod_nonneg_of_pos x hy, Int.fmod_lt_of_pos x hy⟩

theorem len_ok {α : Type} {xs : List α} (h : decide (xs.length ≤ 1000) = true) : xs.length ≤ sizeLine := Nat.le_trans (of_decide_eq_true h) (by decide)
/-! ## the greatest common divisor -/
theorem gcd_step (x y : Int) (hy : 0 < y) : Int.gcd y (x.fmod y) = Int.gcd x y := by
  rw [Int.fmod_eq_emod_of_nonneg x (Int.le_of_lt hy), Int.gcd_comm x y, Int.emod_def, Int.gcd_comm y]
  simp
  exact Int.gcd_comm ..
def gcdI (a b : Int) : Int := (Int.gcd a b : Int)
/-- a fraction in lowest terms -/
def frD (t b : Int) : Int := if b < 0 then -gcdI t b else gcdI t b
def fr (t b : Int) : Int × Int := (t.fdiv (frD t b), b.fdiv (frD t b))
structure FrSpec (t b t' b' d : Int) : Prop where
  d0 : d ≠ 0
  ht : t = d * t'
  hb : b = d * b'
  pos : 0 < b'
  cop : Int.gcd t' b' = 1
theorem fr_spec {t b : Int} (h : b ≠ 0) : FrSpec t b (fr t b).1 (fr t b).2 (frD t b) := by
  have hg : Int.gcd t b ≠ 0 := fun z => h (Int.gcd_eq_zero_iff.mp z).2
  have hgp : 0 < gcdI t b := by unfold gcdI; omega
  have hd0 : frD t b ≠ 0 := by unfold frD; split <;> omega
  have hdt : frD t b ∣ t := by
    have : gcdI t b ∣ t := Int.gcd_dvd_left ..
    unfold frD; split
    · exact Int.neg_dvd.mpr this
    · exact this
  have hdb : frD t b ∣ b := by
    have : gcdI t b ∣ b := Int.gcd_dvd_right ..
    unfold frD; split
    · exact Int.neg_dvd.mpr this
    · exact this
  obtain ⟨t', et⟩ := hdt
  obtain ⟨b', eb⟩ := hdb
  have e1 : (fr t b).1 = t' := by
    show t.fdiv (frD t b) = t'
    have : (frD t b * t').fdiv (frD t b) = t' := Int.mul_fdiv_cancel_left t' hd0
    rw [← et] at this
    exact this
  have e2 : (fr t b).2 = b' := by
    show b.fdiv (frD t b) = b'
    have : (frD t b * b').fdiv (frD t b) = b' := Int.mul_fdiv_cancel_left b' hd0
    rw [← eb] at this
    exact this
  rw [e1, e2]
  have hab : (frD t b).natAbs = Int.gcd t b := by
    unfold frD gcdI; split <;> simp
  refine ⟨hd0, et, eb, ?_, ?_⟩
  · rcases Int.lt_trichotomy b 0 with hb | hb | hb
    · have hd : frD t b < 0 := by unfold frD; rw [if_pos hb]; omega
      rw [eb] at hb
      exact Int.pos_of_mul_neg_right hb hd |> fun z => z
    · exact absurd hb h
    · have hd : 0 < frD t b := by unfold frD; rw [if_neg (by omega)]; exact hgp
      have hb' : 0 < frD t b * b' := by rw [← eb]; exact hb
      exact Int.pos_of_mul_pos_right hb' hd |> fun z => z
  · have e3 : Int.gcd (frD t b * t') (frD t b * b') = (frD t b).natAbs * Int.gcd t' b' := Int.gcd_mul_left ..
    rw [← et, ← eb, hab] at e3
    have hp : 0 < Int.gcd t b := by omega
    have e4 : Int.gcd t b * Int.gcd t' b' = Int.gcd t b * 1 := by omega
    exact Nat.eq_of_mul_eq_mul_left hp e4
theorem FrSpec.cross {t b t' b' d : Int} (s : FrSpec t b t' b' d) : t' * b = t * b' := by
  rw [s.hb, s.ht]
  ac_rfl
theorem abs_le_mul {d x : Int} (h : d ≠ 0) : x.natAbs ≤ (d * x).natAbs := by
  rw [Int.natAbs_mul]
  have : 0 < d.natAbs := by omega
  exact Nat.le_mul_of_pos_left _ this
theorem FrSpec.le1 {t b t' b' d : Int} (s : FrSpec t b t' b' d) : t'.natAbs ≤ t.natAbs := by rw [s.ht]; exact abs_le_mul s.d0
theorem FrSpec.le2 {t b t' b' d : Int} (s : FrSpec t b t' b' d) : b'.natAbs ≤ b.natAbs := by rw [s.hb]; exact abs_le_mul s.d0
theorem FrSpec.led {t b t' b' d : Int} (s : FrSpec t b t' b' d) : d.natAbs ≤ b.natAbs := by
  rw [s.hb, Int.mul_comm]
  exact abs_le_mul (by have := s.pos; omega)
end L2
namespace L2
open PySem PySem.Spec PyProof.Rows
/-! ## small helps for readings -/
theorem pick {xs : List V} {i : Int} {P : Int → Prop} (h0 : 0 ≤ i) (h1 : i < xs.length) (hP : ∀ v ∈ xs, ∃ n, v = .int n ∧ P n) : ∃ n, atI xs i = some (.int n) ∧ P n := by
  obtain ⟨v, e, hm⟩ := atI_mem h0 h1
  obtain ⟨n, rfl, p⟩ := hP v hm
  exact ⟨n, e, p⟩
theorem iteN {c A B : Prop} [Decidable c] (h : ¬ c) (hB : B) : if decide c = true then A else B := by
  rw [decide_eq_false h]
  exact iteF hB
theorem iteY {c A B : Prop} [Decidable c] (h : c) (hA : A) : if decide c = true then A else B := by
  rw [decide_eq_true h]
  exact iteT hA
theorem qT {Q : VK} {c : Prop} [Decidable c] {H : Hp} (hc : c) (q : Q (.bl true) H) : Q (.bl (decide c)) H := by
  rw [decide_eq_true hc]
  exact q
theorem qB {Q : VK} {b : Bool} {H : Hp} (hc : b = true) (q : Q (.bl true) H) : Q (.bl b) H := by
  rw [hc]
  exact q
/-! ## comprehensions over a list, over a range -/
def CW (n : Nat) (D : Addr) (Pv : Nat → List V → Hp → Prop) : Nat → Nat → Hp → Prop := fun i m H2 => m = n - i ∧ i ≤ n ∧ ∃ ys, H2 D = some (.lst ys) ∧ ys.length ≤ i ∧ Pv i ys H2
theorem CW.emit {n : Nat} {D : Addr} {Pv : Nat → List V → Hp → Prop} {i m : Nat} {ys : List V} {y : V} {H5 : Hp} (hm : m = n - i) (hi : i < n) (hn : n ≤ sizeLine) (hy : H5 D = some (.lst ys)) (hl : ys.length ≤ i)
    (p : Pv (i + 1) (ys ++ [y]) (upd H5 D (.lst (ys ++ [y])))) : ∃ ys, H5 D = some (.lst ys) ∧ ys.length < sizeLine ∧ ∃ m', m' < m ∧ CW n D Pv (i + 1) m' (upd H5 D (.lst (ys ++ [y]))) :=
  ⟨ys, hy, by omega, n - (i + 1), by omega, rfl, hi, ys ++ [y], upd_same, by simp; omega, p⟩
theorem CW.skip {n : Nat} {D : Addr} {Pv : Nat → List V → Hp → Prop} {i m : Nat} {ys : List V} {H4 : Hp} (hm : m = n - i) (hi : i < n) (hy : H4 D = some (.lst ys)) (hl : ys.length ≤ i) (p : Pv (i + 1) ys H4) :
    ∃ m', m' < m ∧ CW n D Pv (i + 1) m' H4 := ⟨n - (i + 1), by omega, rfl, hi, ys, hy, by omega, p⟩
theorem comp_list {K : PySem.W.Frag} {a D : Addr} {xs : List V} {st : St} {g : TG} {tif : TT} {te : TE} {H1 : Hp} {Q : VK} (Pv : Nat → List V → Hp → Prop) (h0 : Pv 0 [] (upd H1 D (.lst [])))
    (hl : ∀ i ys H2, H2 D = some (.lst ys) → Pv i ys H2 → SqL K H2 a xs)
    (hs : ∀ i m x ys H2, m = xs.length - i → i < xs.length → xs[i]? = some x → H2 D = some (.lst ys) → ys.length ≤ i → Pv i ys H2 → g x st H2 fun σ3 H3 => tif σ3 H3 fun b H4 =>
      if b = true then te σ3 H4 fun y H5 => ∃ ys, H5 D = some (.lst ys) ∧ ys.length < sizeLine ∧ ∃ m', m' < m ∧ CW xs.length D Pv (i + 1) m' (upd H5 D (.lst (ys ++ [y]))) else ∃ m', m' < m ∧ CW xs.length D Pv (i + 1) m' H4)
    (hd : ∀ ys H2, H2 D = some (.lst ys) → Pv xs.length ys H2 → Q (.ref D) H2) :
    compW (Itl K a) D st g tif te Q H1 := by
  refine ⟨CW xs.length D Pv, ⟨xs.length, by simp, Nat.zero_le _, [], upd_same, Nat.le_refl _, h0⟩, ?_⟩
  rintro i m H2 ⟨hm, hi, ys, hy, hlen, p⟩
  have q := hl i ys H2 hy p
  by_cases hlt : i < xs.length
  · refine .inr ⟨⟨xs, xs[i], q, by simp [hlt]⟩, fun x H' y => ?_⟩
    obtain ⟨e, y⟩ := y
    subst e
    exact hs i m x ys _ hm hlt (y xs q) hy hlen p
  · have e : i = xs.length := by omega
    subst e
    exact .inl ⟨⟨xs, q, Nat.le_refl _⟩, hd ys H2 hy p⟩
theorem comp_range {lo : Int} {n : Nat} {D : Addr} {st : St} {g : TG} {tif : TT} {te : TE} {H1 : Hp} {Q : VK} (Pv : Nat → List V → Hp → Prop) (h0 : Pv 0 [] (upd H1 D (.lst [])))
    (hs : ∀ i m ys H2, m = n - i → i < n → H2 D = some (.lst ys) → ys.length ≤ i → Pv i ys H2 → g (.int (lo + i)) st H2 fun σ3 H3 => tif σ3 H3 fun b H4 =>
      if b = true then te σ3 H4 fun y H5 => ∃ ys, H5 D = some (.lst ys) ∧ ys.length < sizeLine ∧ ∃ m', m' < m ∧ CW n D Pv (i + 1) m' (upd H5 D (.lst (ys ++ [y]))) else ∃ m', m' < m ∧ CW n D Pv (i + 1) m' H4)
    (hd : ∀ ys H2, H2 D = some (.lst ys) → Pv n ys H2 → Q (.ref D) H2) :
    compW (Itr lo n) D st g tif te Q H1 := by
  refine ⟨CW n D Pv, ⟨n, by simp, Nat.zero_le _, [], upd_same, Nat.le_refl _, h0⟩, ?_⟩
  rintro i m H2 ⟨hm, hi, ys, hy, hlen, p⟩
  by_cases hlt : i < n
  · refine .inr ⟨hlt, fun x H' y => ?_⟩
    obtain ⟨e, y⟩ := y
    subst e y
    exact hs i m ys _ hm hlt hy hlen p
  · have e : i = n := by omega
    subst e
    exact .inl ⟨Nat.le_refl _, hd ys H2 hy p⟩
end L2

set_option Elab.async false
set_option linter.all false
set_option maxRecDepth 100000
namespace L2
open PySem PySem.Spec PyProof.Rows
/-! ## how often a number goes into another -/
structure IsVal (p n : Int) (v : Nat) : Prop where
  dv : p ^ v ∣ n
  no : ¬ p ^ (v + 1) ∣ n
theorem pow_ne_zero' {p : Int} (hp : p ≠ 0) : ∀ v : Nat, p ^ v ≠ 0
  | 0 => by rw [Int.pow_zero]; decide
  | v + 1 => by rw [Int.pow_succ]; exact Int.mul_ne_zero (pow_ne_zero' hp v) hp
theorem pow_dvd_pow' (p : Int) {v w : Nat} (h : v ≤ w) : p ^ v ∣ p ^ w := by
  obtain ⟨k, rfl⟩ := Nat.exists_eq_add_of_le h
  exact ⟨p ^ k, Int.pow_add p v k⟩
theorem IsVal.uniq {p n : Int} {v w : Nat} (a : IsVal p n v) (b : IsVal p n w) : v = w := by
  rcases Nat.lt_trichotomy v w with h | h | h
  · exact absurd (Int.dvd_trans (pow_dvd_pow' p h) b.dv) a.no
  · exact h
  · exact absurd (Int.dvd_trans (pow_dvd_pow' p h) a.dv) b.no
theorem IsVal.of {p n m : Int} {v : Nat} (hp : p ≠ 0) (h : n = p ^ v * m) (hm : ¬ p ∣ m) : IsVal p n v := by
  refine ⟨⟨m, h⟩, fun ⟨k, hk⟩ => hm ?_⟩
  rw [h, Int.pow_succ, Int.mul_assoc] at hk
  exact ⟨k, Int.eq_of_mul_eq_mul_left (pow_ne_zero' hp v) hk⟩
theorem IsVal.fac {p n : Int} {v : Nat} (h : IsVal p n v) : ∃ m, n = p ^ v * m ∧ ¬ p ∣ m := by
  obtain ⟨m, e⟩ := h.dv
  refine ⟨m, e, fun ⟨k, hk⟩ => h.no ⟨k, ?_⟩⟩
  rw [e, hk, Int.pow_succ, Int.mul_assoc]
def primes : List Int := [2, 3, 5, 7, 11, 13, 17, 19, 23, 29, 31, 37, 41, 43, 47]
theorem prime_div : ∀ p ∈ ([2, 3, 5, 7, 11, 13, 17, 19, 23, 29, 31, 37, 41, 43, 47] : List Nat), ∀ g < 48, p % g = 0 → g = 1 ∨ g = p ∨ g = 0 := by decide +kernel
theorem primes_nat {p : Int} (h : p ∈ primes) : ∃ q : Nat, p = (q : Int) ∧ q ∈ ([2, 3, 5, 7, 11, 13, 17, 19, 23, 29, 31, 37, 41, 43, 47] : List Nat) := by
  simp only [primes, List.mem_cons, List.not_mem_nil, or_false] at h
  rcases h with rfl | rfl | rfl | rfl | rfl | rfl | rfl | rfl | rfl | rfl | rfl | rfl | rfl | rfl | rfl
  · exact ⟨2, rfl, by decide⟩
  · exact ⟨3, rfl, by decide⟩
  · exact ⟨5, rfl, by decide⟩
  · exact ⟨7, rfl, by decide⟩
  · exact ⟨11, rfl, by decide⟩
  · exact ⟨13, rfl, by decide⟩
  · exact ⟨17, rfl, by decide⟩
  · exact ⟨19, rfl, by decide⟩
  · exact ⟨23, rfl, by decide⟩
  · exact ⟨29, rfl, by decide⟩
  · exact ⟨31, rfl, by decide⟩
  · exact ⟨37, rfl, by decide⟩
  · exact ⟨41, rfl, by decide⟩
  · exact ⟨43, rfl, by decide⟩
  · exact ⟨47, rfl, by decide⟩
theorem primes_range {p : Int} (h : p ∈ primes) : 2 ≤ p ∧ p ≤ 47 := by
  simp only [primes, List.mem_cons, List.not_mem_nil, or_false] at h
  omega
/-- a number whose only divisors are one and itself goes into a product just where it goes into a factor -/
theorem nat_euclid {q a b : Nat} (hq : ∀ g, g ∣ q → g = 1 ∨ g = q) (h : q ∣ a * b) : q ∣ a ∨ q ∣ b := by
  rcases hq (Nat.gcd q a) (Nat.gcd_dvd_left q a) with e | e
  · exact .inr (Nat.Coprime.dvd_of_dvd_mul_left (m := a) e h)
  · exact .inl (e ▸ Nat.gcd_dvd_right q a)
theorem int_euclid {q : Nat} (hq : ∀ g, g ∣ q → g = 1 ∨ g = q) {a b : Int} (h : (q : Int) ∣ a * b) : (q : Int) ∣ a ∨ (q : Int) ∣ b := by
  have h' : q ∣ a.natAbs * b.natAbs := by
    rw [← Int.natAbs_mul]
    exact Int.ofNat_dvd_left.mp h
  rcases nat_euclid hq h' with z | z
  · exact .inl (Int.ofNat_dvd_left.mpr z)
  · exact .inr (Int.ofNat_dvd_left.mpr z)
theorem prime_nat {q : Nat} (h : q ∈ ([2, 3, 5, 7, 11, 13, 17, 19, 23, 29, 31, 37, 41, 43, 47] : List Nat)) : ∀ g, g ∣ q → g = 1 ∨ g = q := by
  intro g hg
  have hq : 0 < q ∧ q < 48 := by
    simp only [List.mem_cons, List.not_mem_nil, or_false] at h
    omega
  have hle : g ≤ q := Nat.le_of_dvd hq.1 hg
  rcases prime_div q h g (by omega) (Nat.mod_eq_zero_of_dvd hg) with e | e | e
  · exact .inl e
  · exact .inr e
  · subst e
    exact absurd (Nat.eq_zero_of_zero_dvd hg) (by omega)
theorem prime_euclid {p : Int} (h : p ∈ primes) {a b : Int} (hd : p ∣ a * b) : p ∣ a ∨ p ∣ b := by
  obtain ⟨q, rfl, hq⟩ := primes_nat h
  exact int_euclid (prime_nat hq) hd
theorem IsVal.mul {p a b : Int} {v w : Nat} (hp : p ≠ 0) (he : ∀ x y : Int, p ∣ x * y → p ∣ x ∨ p ∣ y) (ha : IsVal p a v) (hb : IsVal p b w) : IsVal p (a * b) (v + w) := by
  obtain ⟨m, e1, h1⟩ := ha.fac
  obtain ⟨n, e2, h2⟩ := hb.fac
  refine IsVal.of hp (m := m * n) ?_ fun z => ?_
  · rw [e1, e2, Int.pow_add]; ac_rfl
  · rcases he _ _ z with z | z
    · exact h1 z
    · exact h2 z
/-- every number other than 0 has a size -/
theorem exists_val {p : Int} (hp : 2 ≤ p) {n : Int} (hn : n ≠ 0) : ∃ v, IsVal p n v := by
  have go : ∀ (k : Nat) (n : Int), n ≠ 0 → n.natAbs ≤ k → ∃ v, IsVal p n v := by
    intro k
    induction k with
    | zero => intro n h0 h1; exact absurd (by omega) h0
    | succ k ih =>
      intro n h0 h1
      by_cases hd : p ∣ n
      · obtain ⟨m, rfl⟩ := hd
        have hm : m ≠ 0 := fun z => h0 (by rw [z]; simp)
        have hlt : m.natAbs < (p * m).natAbs := by
          rw [Int.natAbs_mul]
          have h2 : 2 ≤ p.natAbs := by omega
          have h3 : 0 < m.natAbs := by omega
          calc m.natAbs < 2 * m.natAbs := by omega
            _ ≤ p.natAbs * m.natAbs := Nat.mul_le_mul_right _ h2
        obtain ⟨v, hv⟩ := ih m hm (by omega)
        obtain ⟨c, ec, hc⟩ := hv.fac
        exact ⟨v + 1, IsVal.of (by omega) (m := c) (by rw [ec, Int.pow_succ]; ac_rfl) hc⟩
      · exact ⟨0, IsVal.of (by omega) (m := n) (by simp) hd⟩
  exact go n.natAbs n hn (Nat.le_refl _)
/-- how a fraction's size comes of unreduced top and bottom -/
theorem val_frac {p t b t' b' d : Int} {v w v' w' : Nat} (hp : p ∈ primes) (S : FrSpec t b t' b' d) (hv : IsVal p t v) (hw : IsVal p b w) (hv' : IsVal p t' v') (hw' : IsVal p b' w') : (v : Int) - w = (v' : Int) - w' := by
  have h2 := (primes_range hp).1
  obtain ⟨z, hz⟩ := exists_val h2 S.d0
  have he := fun (x y : Int) (h : p ∣ x * y) => prime_euclid hp h
  have e1 : v = z + v' := hv.uniq (by rw [S.ht]; exact IsVal.mul (by omega) he hz hv')
  have e2 : w = z + w' := hw.uniq (by rw [S.hb]; exact IsVal.mul (by omega) he hz hw')
  omega
theorem fmod_dvd {x y : Int} (hy : 0 < y) : x.fmod y = 0 ↔ y ∣ x := by
  rw [Int.fmod_eq_emod_of_nonneg x (Int.le_of_lt hy)]
  exact ⟨Int.dvd_of_emod_eq_zero, Int.emod_eq_zero_of_dvd⟩
theorem fdiv_exact {y m : Int} (hy : y ≠ 0) : (y * m).fdiv y = m := Int.mul_fdiv_cancel_left m hy
end L2
namespace L2
theorem Same.free_upd {H H' : Hp} {D : PySem.Addr} (g : Same H H') (hD : H D = none) (o : HO) : Same H (upd H' D o) := fun b u q => by rw [upd_ne (ne_of_none q hD)]; exact g b u q
theorem iteS {c A B : Prop} [Decidable c] (h : ¬ c) (hA : A) : if (!decide c) = true then A else B := by
  rw [decide_eq_false h]
  exact iteT hA
theorem four {H : Hp} {p1 p2 p3 p4 : PySem.Addr} {o1 o2 o3 o4 : HO} (n1 : H p1 = none) (n2 : upd H p1 o1 p2 = none) (n3 : upd (upd H p1 o1) p2 o2 p3 = none) (n4 : upd (upd (upd H p1 o1) p2 o2) p3 o3 p4 = none) :
    ∃ H1, H1 = upd (upd (upd (upd H p1 o1) p2 o2) p3 o3) p4 o4 ∧ Same H H1 ∧ H1 p1 = some o1 ∧ H1 p2 = some o2 ∧ H1 p3 = some o3 ∧ H1 p4 = some o4 := by
  have g1 := same_new n1 o1
  have g2 := same_new n2 o2
  have g3 := same_new n3 o3
  have g4 := same_new n4 o4
  exact ⟨_, rfl, g1.trans (g2.trans (g3.trans g4)), g4 _ _ (g3 _ _ (g2 _ _ upd_same)), g4 _ _ (g3 _ _ upd_same), g4 _ _ upd_same, upd_same⟩
end L2
namespace L2
open PySem PySem.Spec PyProof.Rows
/-- a tuple of whole numbers at the top of a file -/
def tupInts (o : Obj) (ns : List Int) : Bool := decide (o.cls = .type "tuple") && match o.data with
  | .seq its _ => decide (its.size ≤ 1000) && decide (its.toList.map absV = ns.map fun n => some (V.int n))
  | _ => false
theorem vals_of_abs : ∀ {us : List Value} {ns : List Int}, us.map absV = ns.map (fun n => some (V.int n)) → Vals (ns.map V.int) us
  | [], [], _ => .nil
  | [], _ :: _, h => by simp at h
  | _ :: _, [], h => by simp at h
  | u :: us, n :: ns, h => by
    simp only [List.map_cons, List.cons.injEq] at h
    refine .cons ?_ (vals_of_abs h.2)
    have e := h.1
    cases u <;> simp [absV] at e
    subst e
    exact ⟨_, rfl⟩
theorem tupInts_ok {K : PySem.W.Frag} {H : Hp} {a : Addr} {o : Obj} {ns : List Int} (h : K.lookup a = some o) (t : tupInts o ns = true) : SqT K H a (ns.map V.int) := by
  unfold tupInts at t
  rw [Bool.and_eq_true] at t
  obtain ⟨t1, t2⟩ := t
  have hc := of_decide_eq_true t1
  cases hd : o.data with
  | seq its n =>
    rw [hd] at t2
    rw [Bool.and_eq_true] at t2
    have h1 := of_decide_eq_true t2.1
    have h2 := of_decide_eq_true t2.2
    exact .inr ⟨o, its, n, h, hc, hd, Nat.le_trans h1 (by decide), vals_of_abs h2⟩
  | _ => rw [hd] at t2; exact absurd t2 Bool.false_ne_true
end L2

set_option Elab.async false
set_option linter.all false
set_option maxRecDepth 100000
namespace L2
open PySem PySem.Spec PyProof.Rows
/-! ## data of whole numbers, None, lists, tuples: its shape, and when two are alike -/
inductive Fl : Nat → PyData → Prop where
  | non {n : Nat} : Fl n .none
  | int {n : Nat} (i : Int) : Fl n (.int i)
  | lst {n : Nat} {ds : List PyData} : (∀ d ∈ ds, Fl n d) → Fl (n + 1) (.list ds)
  | tup {n : Nat} {ds : List PyData} : (∀ d ∈ ds, Fl n d) → Fl (n + 1) (.tuple ds)
theorem canLayAll_of : ∀ {ds : List PyData}, (∀ d ∈ ds, PyData.canLay0 d = true) → PyData.canLayAll0 ds = true
  | [], _ => by simp [PyData.canLayAll0]
  | d :: ds, h => by
    simp only [PyData.canLayAll0, Bool.and_eq_true]
    exact ⟨h d List.mem_cons_self, canLayAll_of fun e he => h e (List.mem_cons_of_mem _ he)⟩
theorem depthAll_of {n : Nat} : ∀ {ds : List PyData}, (∀ d ∈ ds, PyData.depth d ≤ n) → PyData.depthAll ds ≤ n
  | [], _ => by simp [PyData.depthAll]
  | d :: ds, h => by
    simp only [PyData.depthAll]
    exact Nat.max_le.mpr ⟨h d List.mem_cons_self, depthAll_of fun e he => h e (List.mem_cons_of_mem _ he)⟩
theorem Fl.both {n : Nat} {d : PyData} (h : Fl n d) : PyData.canLay0 d = true ∧ PyData.depth d ≤ n := by
  induction h with
  | non => exact ⟨by simp [PyData.canLay0], by simp [PyData.depth]⟩
  | int i => exact ⟨by simp [PyData.canLay0], by simp [PyData.depth]⟩
  | lst _ ih => exact ⟨by simp only [PyData.canLay0]; exact canLayAll_of fun d hd => (ih d hd).1, by simp only [PyData.depth]; exact Nat.succ_le_succ (depthAll_of fun d hd => (ih d hd).2)⟩
  | tup _ ih => exact ⟨by simp only [PyData.canLay0]; exact canLayAll_of fun d hd => (ih d hd).1, by simp only [PyData.depth]; exact Nat.succ_le_succ (depthAll_of fun d hd => (ih d hd).2)⟩
theorem Fl.shaped {n : Nat} {d : PyData} (h : Fl n d) (hn : n ≤ 64) : SeqAt.shaped d = true := by
  unfold SeqAt.shaped
  rw [Bool.and_eq_true]
  exact ⟨h.both.1, decide_eq_true (Nat.le_trans h.both.2 hn)⟩
theorem Fl.self {n : Nat} {d : PyData} (h : Fl n d) : PyData.eqv d d = true := SeqAt.eqv_refl d h.both.1
mutual
theorem eqv_eq : ∀ {n m : Nat} {d e : PyData}, Fl n d → Fl m e → PyData.eqv d e = true → d = e
  | _, _, _, _, .non, .non, _ => rfl
  | _, _, _, _, .non, .int _, h => by simp [PyData.eqv] at h
  | _, _, _, _, .non, .lst _, h => by simp [PyData.eqv] at h
  | _, _, _, _, .non, .tup _, h => by simp [PyData.eqv] at h
  | _, _, _, _, .int _, .non, h => by simp [PyData.eqv] at h
  | _, _, _, _, .int i, .int j, h => by
    simp only [PyData.eqv, beq_iff_eq] at h
    rw [h]
  | _, _, _, _, .int _, .lst _, h => by simp [PyData.eqv] at h
  | _, _, _, _, .int _, .tup _, h => by simp [PyData.eqv] at h
  | _, _, _, _, .lst _, .non, h => by simp [PyData.eqv] at h
  | _, _, _, _, .lst _, .int _, h => by simp [PyData.eqv] at h
  | _, _, .list ds, .list es, .lst a, .lst b, h => by
    simp only [PyData.eqv] at h
    rw [eqvAll_eq a b h]
  | _, _, _, _, .lst _, .tup _, h => by simp [PyData.eqv] at h
  | _, _, _, _, .tup _, .non, h => by simp [PyData.eqv] at h
  | _, _, _, _, .tup _, .int _, h => by simp [PyData.eqv] at h
  | _, _, _, _, .tup _, .lst _, h => by simp [PyData.eqv] at h
  | _, _, .tuple ds, .tuple es, .tup a, .tup b, h => by
    simp only [PyData.eqv] at h
    rw [eqvAll_eq a b h]
theorem eqvAll_eq : ∀ {n m : Nat} {ds es : List PyData}, (∀ d ∈ ds, Fl n d) → (∀ d ∈ es, Fl m d) → PyData.eqvAll ds es = true → ds = es
  | _, _, [], [], _, _, _ => rfl
  | _, _, [], _ :: _, _, _, h => by simp [PyData.eqvAll] at h
  | _, _, _ :: _, [], _, _, h => by simp [PyData.eqvAll] at h
  | _, _, d :: ds, e :: es, a, b, h => by
    simp only [PyData.eqvAll, Bool.and_eq_true] at h
    rw [eqv_eq (a d List.mem_cons_self) (b e List.mem_cons_self) h.1, eqvAll_eq (fun x hx => a x (List.mem_cons_of_mem _ hx)) (fun x hx => b x (List.mem_cons_of_mem _ hx)) h.2]
end
noncomputable instance : DecidableEq PyData := fun a b => Classical.propDecidable _
theorem eqv_dec {n m : Nat} {d e : PyData} (a : Fl n d) (b : Fl m e) : PyData.eqv d e = decide (d = e) := by
  cases h : PyData.eqv d e with
  | true => exact (decide_eq_true (eqv_eq a b h)).symm
  | false =>
    refine (decide_eq_false fun z => ?_).symm
    subst z
    rw [a.self] at h
    cases h
/-! ### lists of whole numbers -/
abbrev dI (ns : List Int) : PyData := .list (ns.map .int)
theorem fl_ints (ns : List Int) : Fl 1 (dI ns) := .lst fun d hd => by
  obtain ⟨i, _, rfl⟩ := List.mem_map.mp hd
  exact .int i
theorem dI_inj {a b : List Int} (h : dI a = dI b) : a = b := by
  have h' : a.map PyData.int = b.map PyData.int := PyData.list.inj h
  induction a generalizing b with
  | nil =>
    cases b with
    | nil => rfl
    | cons _ _ => simp at h'
  | cons x a ih =>
    cases b with
    | nil => simp at h'
    | cons y b =>
      simp only [List.map_cons, List.cons.injEq, PyData.int.injEq] at h'
      rw [h'.1, ih (congrArg PyData.list h'.2) h'.2]
theorem eqv_ints (a b : List Int) : PyData.eqv (dI a) (dI b) = decide (a = b) := by
  rw [eqv_dec (fl_ints a) (fl_ints b)]
  by_cases h : a = b
  · rw [decide_eq_true h, decide_eq_true (congrArg dI h)]
  · rw [decide_eq_false h, decide_eq_false fun z => h (dI_inj z)]
/-- == of two lists of whole numbers -/
theorem eqL {K : PySem.W.Frag} {H : Hp} {a b : Addr} {xs ys : List Int} {Q : VK} (ha : SqL K H a (xs.map V.int)) (hb : SqL K H b (ys.map V.int)) (q : Q (.bl (decide (xs = ys))) H) : rEqD K false (.ref a) (.ref b) H Q :=
  ⟨dI xs, dI ys, den_lst ha (scalDs_ints _), den_lst hb (scalDs_ints _), (fl_ints _).shaped (by decide), (fl_ints _).shaped (by decide), by
    show Q (.bl (PyData.eqv (dI xs) (dI ys))) H
    rw [eqv_ints]; exact q⟩
theorem neL {K : PySem.W.Frag} {H : Hp} {a b : Addr} {xs ys : List Int} {Q : VK} (ha : SqL K H a (xs.map V.int)) (hb : SqL K H b (ys.map V.int)) (q : Q (.bl (!decide (xs = ys))) H) : rEqD K true (.ref a) (.ref b) H Q :=
  ⟨dI xs, dI ys, den_lst ha (scalDs_ints _), den_lst hb (scalDs_ints _), (fl_ints _).shaped (by decide), (fl_ints _).shaped (by decide), by
    show Q (.bl (!PyData.eqv (dI xs) (dI ys))) H
    rw [eqv_ints]; exact q⟩
/-- two that read as the same -/
theorem eqSame {K : PySem.W.Frag} {H : Hp} {x y : V} {d : PyData} {n : Nat} {Q : VK} (ha : Den K H x d) (hb : Den K H y d) (f : Fl n d) (hn : n ≤ 64) (q : Q (.bl true) H) : rEqD K false x y H Q :=
  ⟨d, d, ha, hb, f.shaped hn, f.shaped hn, by show Q (.bl (PyData.eqv d d)) H; rw [f.self]; exact q⟩
theorem neSame {K : PySem.W.Frag} {H : Hp} {x y : V} {d : PyData} {n : Nat} {Q : VK} (ha : Den K H x d) (hb : Den K H y d) (f : Fl n d) (hn : n ≤ 64) (q : Q (.bl false) H) : rEqD K true x y H Q :=
  ⟨d, d, ha, hb, f.shaped hn, f.shaped hn, by show Q (.bl (!PyData.eqv d d)) H; rw [f.self]; exact q⟩
end L2

set_option Elab.async false
set_option linter.all false
set_option maxRecDepth 100000
namespace L2
open PySem PySem.Spec PySem.W PyProof.Rows
/-! ## Python's sort, asked by a fixed order -/
def kev (lt : Nat → Nat → Bool) {α : Type} : KasT α → α
  | .ret a => a
  | .ask i j k => kev lt (k (lt i j))
theorem kev_bind {lt : Nat → Nat → Bool} {α β : Type} (f : α → KasT β) : ∀ t : KasT α, kev lt (t.bind f) = kev lt (f (kev lt t))
  | .ret _ => rfl
  | .ask i j k => by
    show kev lt ((k (lt i j)).bind f) = _
    rw [kev_bind f (k (lt i j))]
    rfl
theorem kev_wp {lt : Nat → Nat → Bool} {cmp : Nat → Nat → (Bool → Shared → Prop) → Shared → Prop} {s : Shared} (h : ∀ i j C, C (lt i j) s → cmp i j C s) {α : Type} {Q : α → Shared → Prop} : ∀ t : KasT α, Q (kev lt t) s → t.kasWp cmp Q s
  | .ret _, q => q
  | .ask i j k, q => h i j _ (kev_wp h (k (lt i j)) q)
/-- a strict order that tells all places below N apart -/
structure LtOk (lt : Nat → Nat → Bool) (N : Nat) : Prop where
  tr : ∀ a b c, a < N → b < N → c < N → lt a b = true → lt b c = true → lt a c = true
  tot : ∀ a b, a < N → b < N → a ≠ b → lt a b = false → lt b a = true
abbrev gd (p : Array Nat) (i : Nat) : Nat := p.getD i 0
structure Pm (p : Array Nat) (N : Nat) : Prop where
  size : p.size = N
  lt : ∀ i, i < N → gd p i < N
  inj : ∀ i j, i < N → j < N → gd p i = gd p j → i = j
theorem gd_of {p q : Array Nat} {i j : Nat} (h : p[i]? = q[j]?) : gd p i = gd q j := by
  unfold gd
  simp only [Array.getD_eq_getD_getElem?, h]
theorem pm_range (N : Nat) : Pm (List.toArray (List.range N)) N := by
  have e : ∀ i, i < N → gd (List.toArray (List.range N)) i = i := by
    intro i hi
    unfold gd
    simp [Array.getD_eq_getD_getElem?, hi]
  refine ⟨by simp, fun i hi => by rw [e i hi]; exact hi, fun i j hi hj h => by rw [e i hi, e j hj] at h; exact h⟩
theorem gd_rev {p : Array Nat} {n : Nat} (h : n ≤ p.size) (k : Nat) : gd (kas_rev p 0 n) k = if k < n then gd p (n - 1 - k) else gd p k := by
  have e := getElem?_mirror_all (xs := p) (i := 0) h k
  unfold kas_rev
  by_cases hk : k < n
  · rw [if_pos ⟨Nat.zero_le _, hk⟩] at e
    rw [if_pos hk]
    rw [Nat.zero_add] at e
    exact gd_of e
  · rw [if_neg (fun z => hk z.2)] at e
    rw [if_neg hk]
    exact gd_of e
theorem Pm.rev {p : Array Nat} {N n : Nat} (P : Pm p N) (hn : n ≤ N) : Pm (kas_rev p 0 n) N := by
  have hs : n ≤ p.size := by rw [P.size]; exact hn
  refine ⟨by unfold kas_rev; rw [mirror_size]; exact P.size, fun i hi => ?_, fun i j hi hj h => ?_⟩
  · rw [gd_rev hs]
    split
    · exact P.lt _ (by omega)
    · exact P.lt _ hi
  · rw [gd_rev hs, gd_rev hs] at h
    by_cases h1 : i < n
    · by_cases h2 : j < n
      · rw [if_pos h1, if_pos h2] at h
        have := P.inj _ _ (by omega) (by omega) h
        omega
      · rw [if_pos h1, if_neg h2] at h
        have := P.inj _ _ (by omega) hj h
        omega
    · by_cases h2 : j < n
      · rw [if_neg h1, if_pos h2] at h
        have := P.inj _ _ hi (by omega) h
        omega
      · rw [if_neg h1, if_neg h2] at h
        exact P.inj _ _ hi hj h
theorem gd_bub {p : Array Nat} {k l : Nat} (hk : k < p.size) (hl : l ≤ k) (j : Nat) : gd (bubble p k (k - l)) j = if j = l then gd p k else if l < j ∧ j ≤ k then gd p (j - 1) else gd p j := by
  have e := getElem?_bubble hk (k - l) (by omega) j
  have e1 : k - (k - l) = l := by omega
  rw [e1] at e
  by_cases h1 : j = l
  · rw [if_pos h1] at e ⊢; exact gd_of e
  · rw [if_neg h1] at e ⊢
    by_cases h2 : l < j ∧ j ≤ k
    · rw [if_pos h2] at e ⊢; exact gd_of e
    · rw [if_neg h2] at e ⊢; exact gd_of e
theorem Pm.bub {p : Array Nat} {N k l : Nat} (P : Pm p N) (hk : k < N) (hl : l ≤ k) : Pm (bubble p k (k - l)) N := by
  have hs : k < p.size := by rw [P.size]; exact hk
  -- where a place's number stood
  have src : ∀ i, i < N → ∃ i', i' < N ∧ gd (bubble p k (k - l)) i = gd p i' ∧ (i' = if i = l then k else if l < i ∧ i ≤ k then i - 1 else i) := by
    intro i hi
    rw [gd_bub hs hl]
    by_cases h1 : i = l
    · exact ⟨k, hk, by rw [if_pos h1], by rw [if_pos h1]⟩
    · by_cases h2 : l < i ∧ i ≤ k
      · exact ⟨i - 1, by omega, by rw [if_neg h1, if_pos h2], by rw [if_neg h1, if_pos h2]⟩
      · exact ⟨i, hi, by rw [if_neg h1, if_neg h2], by rw [if_neg h1, if_neg h2]⟩
  refine ⟨by rw [bubble_size]; exact P.size, fun i hi => ?_, fun i j hi hj h => ?_⟩
  · obtain ⟨i', h1, h2, _⟩ := src i hi
    rw [h2]; exact P.lt _ h1
  · obtain ⟨i', a1, a2, a3⟩ := src i hi
    obtain ⟨j', b1, b2, b3⟩ := src j hj
    rw [a2, b2] at h
    have e := P.inj _ _ a1 b1 h
    rw [a3, b3] at e
    repeat' split at e
    all_goals omega
def Up (lt : Nat → Nat → Bool) (p : Array Nat) (m : Nat) : Prop := ∀ i j, i < j → j < m → lt (gd p i) (gd p j) = true
def Down (lt : Nat → Nat → Bool) (p : Array Nat) (m : Nat) : Prop := ∀ i j, i < j → j < m → lt (gd p j) (gd p i) = true
section
variable {lt : Nat → Nat → Bool} {N : Nat}
theorem Up.more {p : Array Nat} {n : Nat} (O : LtOk lt N) (P : Pm p N) (U : Up lt p n) (hn : n < N) (h1 : 1 ≤ n) (c : lt (gd p (n - 1)) (gd p n) = true) : Up lt p (n + 1) := by
  intro i j hij hj
  by_cases e : j = n
  · subst e
    by_cases e2 : i = j - 1
    · subst e2; exact c
    · exact O.tr _ _ _ (P.lt i (by omega)) (P.lt (j - 1) (by omega)) (P.lt j hn) (U i (j - 1) (by omega) (by omega)) c
  · exact U i j hij (by omega)
theorem Down.more {p : Array Nat} {n : Nat} (O : LtOk lt N) (P : Pm p N) (U : Down lt p n) (hn : n < N) (h1 : 1 ≤ n) (c : lt (gd p n) (gd p (n - 1)) = true) : Down lt p (n + 1) := by
  intro i j hij hj
  by_cases e : j = n
  · subst e
    by_cases e2 : i = j - 1
    · subst e2; exact c
    · exact O.tr _ _ _ (P.lt j hn) (P.lt (j - 1) (by omega)) (P.lt i (by omega)) c (U i (j - 1) (by omega) (by omega))
  · exact U i j hij (by omega)
theorem asc_spec (O : LtOk lt N) {p : Array Nat} (P : Pm p N) : ∀ (f n : Nat), 1 ≤ n → n + f = N → Up lt p n →
    n ≤ kev lt (kas_asc p f n) ∧ kev lt (kas_asc p f n) ≤ N ∧ Up lt p (kev lt (kas_asc p f n)) ∧ (kev lt (kas_asc p f n) < N → lt (gd p (kev lt (kas_asc p f n))) (gd p (kev lt (kas_asc p f n) - 1)) = true)
  | 0, n, h1, h2, U => ⟨Nat.le_refl _, by show n ≤ N; omega, U, fun z => by have z' : n < N := z; omega⟩
  | f + 1, n, h1, h2, U => by
    have hn : n < N := by omega
    cases c : lt (gd p n) (gd p (n - 1)) with
    | true =>
      have e : kev lt (kas_asc p (f + 1) n) = n := by
        show kev lt (if lt (gd p n) (gd p (n - 1)) = true then _ else _) = n
        rw [c, if_pos rfl]
        rfl
      rw [e]
      exact ⟨Nat.le_refl _, by omega, U, fun _ => c⟩
    | false =>
      have e : kev lt (kas_asc p (f + 1) n) = kev lt (kas_asc p f (n + 1)) := by
        show kev lt (if lt (gd p n) (gd p (n - 1)) = true then _ else _) = _
        rw [c, if_neg Bool.false_ne_true]
      rw [e]
      have ne : gd p n ≠ gd p (n - 1) := fun z => by have := P.inj _ _ hn (by omega) z; omega
      have c2 := O.tot _ _ (P.lt n hn) (P.lt (n - 1) (by omega)) ne c
      obtain ⟨a1, a2, a3, a4⟩ := asc_spec O P f (n + 1) (by omega) (by omega) (U.more O P hn h1 c2)
      exact ⟨by omega, a2, a3, a4⟩
theorem desc_spec (O : LtOk lt N) {p : Array Nat} (P : Pm p N) : ∀ (f n : Nat), 1 ≤ n → n + f = N → Down lt p n →
    ∃ m, kev lt (kas_desc f p n 0) = (p, m, 0) ∧ n ≤ m ∧ m ≤ N ∧ Down lt p m
  | 0, n, h1, h2, U => ⟨n, rfl, Nat.le_refl _, by omega, U⟩
  | f + 1, n, h1, h2, U => by
    have hn : n < N := by omega
    cases c : lt (gd p n) (gd p (n - 1)) with
    | true =>
      obtain ⟨m, e, a1, a2, a3⟩ := desc_spec O P f (n + 1) (by omega) (by omega) (U.more O P hn h1 c)
      refine ⟨m, ?_, by omega, a2, a3⟩
      show kev lt (if lt (gd p n) (gd p (n - 1)) = true then (if 0 > 0 then _ else kas_desc f p (n + 1) 0) else _) = _
      rw [c, if_pos rfl, if_neg (Nat.lt_irrefl 0)]
      exact e
    | false =>
      have ne : gd p n ≠ gd p (n - 1) := fun z => by have := P.inj _ _ hn (by omega) z; omega
      have c2 := O.tot _ _ (P.lt n hn) (P.lt (n - 1) (by omega)) ne c
      refine ⟨n, ?_, Nat.le_refl _, by omega, U⟩
      show kev lt (if lt (gd p n) (gd p (n - 1)) = true then (if 0 > 0 then _ else kas_desc f p (n + 1) 0) else .ask (gd p (n - 1)) (gd p n) fun d => if d = true then .ret (p, n, 0) else _) = _
      rw [c, if_neg Bool.false_ne_true]
      show kev lt (if lt (gd p (n - 1)) (gd p n) = true then .ret (p, n, 0) else _) = _
      rw [c2, if_pos rfl]
      rfl
theorem Down.rev {p : Array Nat} {n : Nat} (P : Pm p N) (hn : n ≤ N) (D : Down lt p n) : Up lt (kas_rev p 0 n) n := by
  intro i j hij hj
  have hs : n ≤ p.size := by rw [P.size]; exact hn
  rw [gd_rev hs, gd_rev hs, if_pos (by omega), if_pos hj]
  exact D (n - 1 - j) (n - 1 - i) (by omega) (by omega)
theorem tail3_spec (O : LtOk lt N) {p : Array Nat} {n : Nat} (P : Pm p N) (h1 : 1 ≤ n) (hn : n ≤ N) (D : Down lt p n) :
    ∃ m, kev lt (kas_tail3 n N p) = (m, kas_rev p 0 n) ∧ n ≤ m ∧ m ≤ N ∧ Up lt (kas_rev p 0 n) m := by
  unfold kas_tail3
  rw [kev_bind]
  obtain ⟨a1, a2, a3, _⟩ := asc_spec O (P.rev hn) (N - n) n h1 (by omega) (D.rev P hn)
  exact ⟨_, rfl, a1, a2, a3⟩
theorem count_spec (O : LtOk lt N) {p : Array Nat} (P : Pm p N) (h2 : 2 ≤ N) : ∃ m q, kev lt (kas_count N p) = (m, q) ∧ 1 ≤ m ∧ m ≤ N ∧ Pm q N ∧ Up lt q m := by
  unfold kas_count
  rw [kev_bind]
  obtain ⟨a1, a2, a3, a4⟩ := asc_spec O P (N - 1) 1 (Nat.le_refl _) (by omega) (fun i j h1 h2 => by omega)
  generalize kev lt (kas_asc p (N - 1) 1) = n at a1 a2 a3 a4 ⊢
  by_cases e : n = N
  · refine ⟨n, p, ?_, a1, a2, P, a3⟩
    rw [if_pos (by simpa using e)]
    rfl
  · have c0 := a4 (by omega)
    rw [if_neg (by simpa using e)]
    by_cases e1 : n > 1
    · rw [if_pos e1]
      refine ⟨n, p, ?_, a1, a2, P, a3⟩
      show kev lt (if lt (gd p 0) (gd p (n - 1)) = true then _ else _) = _
      rw [a3 0 (n - 1) (by omega) (by omega), if_pos rfl]
      rfl
    · have e2 : n = 1 := by omega
      subst e2
      rw [if_neg e1]
      unfold kas_descPart
      rw [kev_bind]
      obtain ⟨m, em, b1, b2, b3⟩ := desc_spec O P (N - (1 + 1)) (1 + 1) (by omega) (by omega) (fun i j hij hj => by
        have hi : i = 0 := by omega
        have hj' : j = 1 := by omega
        subst hi hj'
        exact c0)
      rw [em]
      show ∃ m' q, kev lt (if 0 > 0 then _ else kas_tail3 m N p) = (m', q) ∧ _
      rw [if_neg (Nat.lt_irrefl 0)]
      obtain ⟨m', e', d1, d2, d3⟩ := tail3_spec O P (by omega) b2 b3
      exact ⟨m', _, e', by omega, d2, P.rev b2, d3⟩
theorem place_spec (O : LtOk lt N) {p : Array Nat} {k : Nat} (P : Pm p N) (hk : k < N) (U : Up lt p k) : ∀ (f l r : Nat), l ≤ r → r ≤ k → r - l ≤ f → (∀ j, j < l → lt (gd p j) (gd p k) = true) → (∀ j, r ≤ j → j < k → lt (gd p k) (gd p j) = true) →
    kev lt (kas_place p k f l r) ≤ k ∧ (∀ j, j < kev lt (kas_place p k f l r) → lt (gd p j) (gd p k) = true) ∧ (∀ j, kev lt (kas_place p k f l r) ≤ j → j < k → lt (gd p k) (gd p j) = true)
  | 0, l, r, h1, h2, h3, a, b => ⟨by show l ≤ k; omega, a, fun j hj hjk => b j (by have hj' : l ≤ j := hj; omega) hjk⟩
  | f + 1, l, r, h1, h2, h3, a, b => by
    by_cases hlr : l ≥ r
    · have e : kev lt (kas_place p k (f + 1) l r) = l := by
        show kev lt (if l ≥ r then _ else _) = l
        rw [if_pos hlr]
        rfl
      rw [e]
      exact ⟨by omega, a, fun j hj hjk => b j (by omega) hjk⟩
    · have hm : (l + r) / 2 < r := by omega
      have hm2 : l ≤ (l + r) / 2 := by omega
      cases c : lt (gd p k) (gd p ((l + r) / 2)) with
      | true =>
        have e : kev lt (kas_place p k (f + 1) l r) = kev lt (kas_place p k f l ((l + r) / 2)) := by
          show kev lt (if l ≥ r then _ else _) = _
          rw [if_neg hlr]
          show kev lt (if lt (gd p k) (gd p ((l + r) / 2)) = true then _ else _) = _
          rw [c, if_pos rfl]
        rw [e]
        refine place_spec O P hk U f l ((l + r) / 2) hm2 (by omega) (by omega) a fun j hj hjk => ?_
        by_cases e2 : j = (l + r) / 2
        · rw [e2]; exact c
        · exact O.tr _ _ _ (P.lt k hk) (P.lt ((l + r) / 2) (by omega)) (P.lt j (by omega)) c (U _ _ (by omega) hjk)
      | false =>
        have e : kev lt (kas_place p k (f + 1) l r) = kev lt (kas_place p k f ((l + r) / 2 + 1) r) := by
          show kev lt (if l ≥ r then _ else _) = _
          rw [if_neg hlr]
          show kev lt (if lt (gd p k) (gd p ((l + r) / 2)) = true then _ else _) = _
          rw [c, if_neg Bool.false_ne_true]
        rw [e]
        have ne : gd p k ≠ gd p ((l + r) / 2) := fun z => by have := P.inj _ _ hk (by omega) z; omega
        have c2 := O.tot _ _ (P.lt k hk) (P.lt ((l + r) / 2) (by omega)) ne c
        refine place_spec O P hk U f ((l + r) / 2 + 1) r (by omega) h2 (by omega) (fun j hj => ?_) b
        by_cases e2 : j = (l + r) / 2
        · rw [e2]; exact c2
        · exact O.tr _ _ _ (P.lt j (by omega)) (P.lt ((l + r) / 2) (by omega)) (P.lt k hk) (U _ _ (by omega) (by omega)) c2
theorem bin_spec (O : LtOk lt N) : ∀ (f : Nat) (p : Array Nat) (k : Nat), k + f = N → Pm p N → Up lt p k → Pm (kev lt (kas_bin f p k)) N ∧ Up lt (kev lt (kas_bin f p k)) N
  | 0, p, k, h, P, U => by
    have e : k = N := by omega
    subst e
    exact ⟨P, U⟩
  | f + 1, p, k, h, P, U => by
    have hk : k < N := by omega
    obtain ⟨l1, l2, l3⟩ := place_spec O P hk U k 0 k (Nat.zero_le _) (Nat.le_refl _) (by omega) (fun j hj => by omega) (fun j h1 h2 => by omega)
    have e : kev lt (kas_bin (f + 1) p k) = kev lt (kas_bin f (bubble p k (k - kev lt (kas_place p k k 0 k))) (k + 1)) := by
      show kev lt ((kas_place p k k 0 k).bind _) = _
      rw [kev_bind]
    rw [e]
    generalize kev lt (kas_place p k k 0 k) = l at l1 l2 l3
    have hs : k < p.size := by rw [P.size]; exact hk
    refine bin_spec O f _ (k + 1) (by omega) (P.bub hk l1) ?_
    intro i j hij hj
    rw [gd_bub hs l1, gd_bub hs l1]
    by_cases h1 : i = l
    · rw [if_pos h1, if_neg (by omega), if_pos (by omega)]
      exact l3 (j - 1) (by omega) (by omega)
    · rw [if_neg h1]
      by_cases h2 : j = l
      · rw [if_pos h2, if_neg (by omega)]
        exact l2 i (by omega)
      · rw [if_neg h2]
        by_cases h3 : l < i ∧ i ≤ k
        · rw [if_pos h3, if_pos (by omega)]
          exact U _ _ (by omega) (by omega)
        · rw [if_neg h3]
          by_cases h4 : l < j ∧ j ≤ k
          · rw [if_pos h4]
            exact U _ _ (by omega) (by omega)
          · rw [if_neg h4]
            exact U _ _ (by omega) (by omega)
theorem sort_spec (O : LtOk lt N) (h2 : 2 ≤ N) : Pm (kev lt (kas_sort N)) N ∧ Up lt (kev lt (kas_sort N)) N := by
  unfold kas_sort
  rw [kev_bind]
  obtain ⟨m, q, e, h1, hm, P, U⟩ := count_spec O (pm_range N) h2
  rw [e]
  show Pm (kev lt (if m < N then kas_bin (N - max m 1) q (max m 1) else .ret q)) N ∧ Up lt (kev lt (if m < N then kas_bin (N - max m 1) q (max m 1) else .ret q)) N
  by_cases hlt : m < N
  · rw [if_pos hlt]
    have e1 : max m 1 = m := by omega
    rw [e1]
    exact bin_spec O (N - m) q m (by omega) P U
  · rw [if_neg hlt]
    have e1 : m = N := by omega
    subst e1
    exact ⟨P, U⟩
end
end L2

set_option Elab.async false
set_option linter.all false
set_option maxRecDepth 100000
namespace L2
open PySem PySem.Spec PySem.W PyProof.Rows
/-! ## all that is asked along the way are places of the list -/
def KIn (lt : Nat → Nat → Bool) (N : Nat) {α : Type} : KasT α → Prop
  | .ret _ => True
  | .ask i j k => i < N ∧ j < N ∧ KIn lt N (k (lt i j))
theorem kin_bind {lt : Nat → Nat → Bool} {N : Nat} {α β : Type} {f : α → KasT β} : ∀ {t : KasT α}, KIn lt N t → KIn lt N (f (kev lt t)) → KIn lt N (t.bind f)
  | .ret _, _, h => h
  | .ask i j k, h, h2 => ⟨h.1, h.2.1, kin_bind (t := k (lt i j)) h.2.2 h2⟩
theorem kev_wpB {lt : Nat → Nat → Bool} {N : Nat} {cmp : Nat → Nat → (Bool → Shared → Prop) → Shared → Prop} {s : Shared} (h : ∀ i j C, i < N → j < N → C (lt i j) s → cmp i j C s) {α : Type} {Q : α → Shared → Prop} : ∀ t : KasT α, KIn lt N t → Q (kev lt t) s → t.kasWp cmp Q s
  | .ret _, _, q => q
  | .ask i j k, hk, q => h i j _ hk.1 hk.2.1 (kev_wpB h (k (lt i j)) hk.2.2 q)
theorem Pm.bnd {p : Array Nat} {N : Nat} (P : Pm p N) (h : 0 < N) (i : Nat) : gd p i < N := by
  by_cases hi : i < N
  · exact P.lt i hi
  · have : gd p i = 0 := by
      unfold gd
      rw [Array.getD_eq_getD_getElem?, Array.getElem?_eq_none (by rw [P.size]; omega)]
      rfl
    rw [this]; exact h
section
variable {lt : Nat → Nat → Bool} {N : Nat}
theorem kin_asc {p : Array Nat} (P : Pm p N) (h0 : 0 < N) : ∀ (f n : Nat), KIn lt N (kas_asc p f n)
  | 0, n => trivial
  | f + 1, n => by
    refine ⟨P.bnd h0 _, P.bnd h0 _, ?_⟩
    show KIn lt N (if _ = true then _ else _)
    split
    · exact trivial
    · exact kin_asc P h0 f (n + 1)
theorem kin_desc (O : LtOk lt N) {p : Array Nat} (P : Pm p N) : ∀ (f n : Nat), 1 ≤ n → n + f = N → KIn lt N (kas_desc f p n 0)
  | 0, n, _, _ => trivial
  | f + 1, n, h1, h2 => by
    have hn : n < N := by omega
    have h0 : 0 < N := by omega
    refine ⟨P.bnd h0 _, P.bnd h0 _, ?_⟩
    show KIn lt N (if lt (gd p n) (gd p (n - 1)) = true then (if 0 > 0 then _ else kas_desc f p (n + 1) 0) else .ask (gd p (n - 1)) (gd p n) fun d => if d = true then .ret (p, n, 0) else _)
    cases c : lt (gd p n) (gd p (n - 1)) with
    | true =>
      rw [if_pos rfl, if_neg (Nat.lt_irrefl 0)]
      exact kin_desc O P f (n + 1) (by omega) (by omega)
    | false =>
      have ne : gd p n ≠ gd p (n - 1) := fun z => by have := P.inj _ _ hn (by omega) z; omega
      have c2 := O.tot _ _ (P.lt n hn) (P.lt (n - 1) (by omega)) ne c
      rw [if_neg Bool.false_ne_true]
      refine ⟨P.bnd h0 _, P.bnd h0 _, ?_⟩
      show KIn lt N (if lt (gd p (n - 1)) (gd p n) = true then .ret (p, n, 0) else _)
      rw [c2, if_pos rfl]
      exact trivial
theorem kin_tail3 {p : Array Nat} {n : Nat} (P : Pm p N) (h0 : 0 < N) (hn : n ≤ N) : KIn lt N (kas_tail3 n N p) := kin_bind (kin_asc (P.rev hn) h0 _ _) trivial
theorem kin_count (O : LtOk lt N) {p : Array Nat} (P : Pm p N) (h2 : 2 ≤ N) : KIn lt N (kas_count N p) := by
  unfold kas_count
  refine kin_bind (kin_asc P (by omega) _ _) ?_
  obtain ⟨a1, a2, a3, a4⟩ := asc_spec O P (N - 1) 1 (Nat.le_refl _) (by omega) (fun i j h1 h2 => by omega)
  generalize kev lt (kas_asc p (N - 1) 1) = n at a1 a2 a3 a4 ⊢
  by_cases e : n = N
  · rw [if_pos (by simpa using e)]; exact trivial
  · have c0 := a4 (by omega)
    rw [if_neg (by simpa using e)]
    by_cases e1 : n > 1
    · rw [if_pos e1]
      refine ⟨P.bnd (by omega) _, P.bnd (by omega) _, ?_⟩
      show KIn lt N (if lt (gd p 0) (gd p (n - 1)) = true then _ else _)
      rw [a3 0 (n - 1) (by omega) (by omega), if_pos rfl]
      exact trivial
    · have e2 : n = 1 := by omega
      subst e2
      rw [if_neg e1]
      unfold kas_descPart
      refine kin_bind (kin_desc O P (N - (1 + 1)) (1 + 1) (by omega) (by omega)) ?_
      obtain ⟨m, em, b1, b2, b3⟩ := desc_spec O P (N - (1 + 1)) (1 + 1) (by omega) (by omega) (fun i j hij hj => by
        have hi : i = 0 := by omega
        have hj' : j = 1 := by omega
        subst hi hj'
        exact c0)
      rw [em]
      show KIn lt N (if 0 > 0 then _ else kas_tail3 m N p)
      rw [if_neg (Nat.lt_irrefl 0)]
      exact kin_tail3 P (by omega) b2
theorem kin_place {p : Array Nat} {k : Nat} (P : Pm p N) (h0 : 0 < N) : ∀ (f l r : Nat), KIn lt N (kas_place p k f l r)
  | 0, l, r => trivial
  | f + 1, l, r => by
    show KIn lt N (if l ≥ r then _ else _)
    split
    · exact trivial
    · refine ⟨P.bnd h0 _, P.bnd h0 _, ?_⟩
      show KIn lt N (if _ = true then _ else _)
      split
      · exact kin_place P h0 _ _ _
      · exact kin_place P h0 _ _ _
theorem kin_bin (O : LtOk lt N) : ∀ (f : Nat) (p : Array Nat) (k : Nat), k + f = N → Pm p N → Up lt p k → KIn lt N (kas_bin f p k)
  | 0, p, k, h, P, U => trivial
  | f + 1, p, k, h, P, U => by
    have hk : k < N := by omega
    obtain ⟨l1, l2, l3⟩ := place_spec O P hk U k 0 k (Nat.zero_le _) (Nat.le_refl _) (by omega) (fun j hj => by omega) (fun j h1 h2 => by omega)
    show KIn lt N ((kas_place p k k 0 k).bind _)
    refine kin_bind (kin_place P (by omega) _ _ _) ?_
    generalize kev lt (kas_place p k k 0 k) = l at l1 l2 l3
    have hs : k < p.size := by rw [P.size]; exact hk
    refine kin_bin O f _ (k + 1) (by omega) (P.bub hk l1) ?_
    intro i j hij hj
    rw [gd_bub hs l1, gd_bub hs l1]
    by_cases h1 : i = l
    · rw [if_pos h1, if_neg (by omega), if_pos (by omega)]
      exact l3 (j - 1) (by omega) (by omega)
    · rw [if_neg h1]
      by_cases h2 : j = l
      · rw [if_pos h2, if_neg (by omega)]
        exact l2 i (by omega)
      · rw [if_neg h2]
        by_cases h3 : l < i ∧ i ≤ k
        · rw [if_pos h3, if_pos (by omega)]
          exact U _ _ (by omega) (by omega)
        · rw [if_neg h3]
          by_cases h4 : l < j ∧ j ≤ k
          · rw [if_pos h4]
            exact U _ _ (by omega) (by omega)
          · rw [if_neg h4]
            exact U _ _ (by omega) (by omega)
theorem kin_sort (O : LtOk lt N) (h2 : 2 ≤ N) : KIn lt N (kas_sort N) := by
  unfold kas_sort
  refine kin_bind (kin_count O (pm_range N) h2) ?_
  obtain ⟨m, q, e, h1, hm, P, U⟩ := count_spec O (pm_range N) h2
  rw [e]
  show KIn lt N (if m < N then kas_bin (N - max m 1) q (max m 1) else .ret q)
  split
  · have e1 : max m 1 = m := by omega
    rw [e1]
    exact kin_bin O (N - m) q m (by omega) P U
  · exact trivial
end

/-! ## sorted of a list, by an order that is known -/
section
variable {prog : Program} {w : World} {A : Around} {E : Value → Shared → Prop} {s : Shared}
abbrev outOf (vs : List Value) (p : Array Nat) : Array Value := List.toArray (p.toList.map fun i => vs.getD i Value.none)
theorem list_sort_lt {a : Addr} {vs : List Value} {n : Nat} {κ : SortKind} {lt : Nat → Nat → Bool} {P : Fin → Shared → Prop} (ho : s.heap.get? a = some (seqObj "list" vs.toArray n)) (h2 : 2 ≤ vs.length) (h64 : vs.length < 64) (O : LtOk lt vs.length)
    (hk : ∀ (h' : Heap) (Q : SortKind → Shared → Prop), (∀ b o, b ≠ a → s.heap.get? b = some o → h'.get? b = some o) → Q κ { s with heap := h' } → wpAny (model prog w) A (keyKind' vs.toArray) Q E { s with heap := h' })
    (hc : ∀ (h' : Heap) i j C, (∀ b o, b ≠ a → s.heap.get? b = some o → h'.get? b = some o) → i < vs.length → j < vs.length → C (lt i j) { s with heap := h' } → kas_ask prog w A κ vs i j C { s with heap := h' })
    (h : ∀ p : Array Nat, Pm p vs.length → Up lt p vs.length → P (.done (.ret .none)) { s with heap := sortedHeap s.heap a vs (outOf vs p) }) :
    wpAny (model prog w) A (Builtin.«list.sort» ⟨[.ref a], []⟩) P E s := by
  rw [list_sort_plain]
  have ha : a < s.heap.objs.size := Heap.lt_size ho
  refine wpAny_bind (listItems_at ho rfl ?_)
  refine wpAny_bind (listUpdate_at ho rfl ?_)
  obtain ⟨e1, ho1⟩ : ∃ e1, (s.heap.update a (Obj.mapSeq fun _ => #[])).get? a = some (seqObj "list" #[] e1) := ⟨_, get?_update_seq ho (fun _ => #[])⟩
  refine wpAny_bind (seqEpoch_at ho1 rfl ?_)
  refine wpAny_bind (wpAny_newTuple ?_)
  refine wpAny_bind (wpAny_newList ?_)
  refine wpAny_holding ?_
  have ho6 : (((s.heap.update a (Obj.mapSeq fun _ => #[])).push (seqObj "tuple" vs.toArray 0)).push (seqObj "list" #[] 0)).get? a = some (seqObj "list" #[] e1) := by
    rw [Heap.get?_push_ne _ _ _ (by rw [size_push', Heap.size_update]; exact Nat.ne_of_lt (Nat.lt_succ_of_lt ha)), Heap.get?_push_ne _ _ _ (by rw [Heap.size_update]; exact Nat.ne_of_lt ha)]
    exact ho1
  have keep : ∀ b o, b ≠ a → s.heap.get? b = some o → (((s.heap.update a (Obj.mapSeq fun _ => #[])).push (seqObj "tuple" vs.toArray 0)).push (seqObj "list" #[] 0)).get? b = some o := fun b o hb e => by
    have hlt : b < s.heap.objs.size := Heap.lt_size e
    rw [Heap.get?_push_ne _ _ _ (by rw [size_push', Heap.size_update]; exact Nat.ne_of_lt (Nat.lt_succ_of_lt hlt)), Heap.get?_push_ne _ _ _ (by rw [Heap.size_update]; exact Nat.ne_of_lt hlt), Heap.get?_update_ne _ _ _ _ hb]
    exact e
  show wpAny (model prog w) A _ P E { s with heap := ((s.heap.update a (Obj.mapSeq fun _ => #[])).push (seqObj "tuple" vs.toArray 0)).push (seqObj "list" #[] 0) }
  dsimp only
  have hsz : vs.toArray.size = vs.length := by simp
  have hn2 : ¬ vs.toArray.size < 2 := by rw [hsz]; omega
  rw [if_neg hn2, if_neg hn2]
  refine wpAny_bind (hk _ _ keep ?_)
  obtain ⟨S1, S2⟩ := sort_spec O h2
  have run := kev_wpB (Q := fun p s' => s' = { s with heap := ((s.heap.update a (Obj.mapSeq fun _ => #[])).push (seqObj "tuple" vs.toArray 0)).push (seqObj "list" #[] 0) } ∧ Pm p vs.length ∧ Up lt p vs.length)
    (fun i j C hi hj q => hc _ i j C keep hi hj q) (kas_sort vs.length) (kin_sort O h2) ⟨rfl, S1, S2⟩
  refine wpAny_bind (wpAny_mono (kat_run (Q := fun st' s' => ∃ p : Array Nat, arrOf st' = p.map (kas_item (vs.toArray.zip vs.toArray)) ∧ failedOf st' = none ∧ s' = { s with heap := ((s.heap.update a (Obj.mapSeq fun _ => #[])).push (seqObj "tuple" vs.toArray 0)).push (seqObj "list" #[] 0) } ∧ Pm p vs.length ∧ Up lt p vs.length)
    rfl h2 h64 (fun p' st' s' a1 a2 a3 a4 => ⟨p', a2, a3, a4⟩) run) ?_ fun _ _ e => e)
  rintro ⟨⟨⟩, st'⟩ s' ⟨p, har, hf, rfl, hp, hup⟩
  dsimp only
  have hout := kat_snds (ks := vs) (vs := vs) rfl har
  have hps : (outOf vs p).size = vs.length := by
    show (List.toArray _).size = _
    rw [List.size_toArray, List.length_map, Array.length_toList, hp.size]
  refine wpAny_bind (seqEpoch_at ho6 rfl ?_)
  rw [hout]
  refine wpAny_bind (listUpdate_at ho6 rfl ?_ (hsz2 := by refine Nat.le_trans (Nat.le_of_eq hps) ?_; rw [sizeLine_eq]; omega))
  rw [hf]
  simp only [bne_self_eq_false, Bool.false_eq_true, if_false]
  exact wpAny_pure (h p hp hup)
theorem sorted_lt {l : Addr} {vs : List Value} {κ : SortKind} {lt : Nat → Nat → Bool} {Q : Value → Shared → Prop} (hl : s.heap.IsList l vs.toArray) (h2 : 2 ≤ vs.length) (h64 : vs.length < 64) (O : LtOk lt vs.length)
    (hk : ∀ (h' : Heap) (E : Value → Shared → Prop) (Q : SortKind → Shared → Prop), (∀ b o, s.heap.get? b = some o → h'.get? b = some o) → Q κ { s with heap := h' } → wpAny (model prog w) A.in1.in1 (keyKind' vs.toArray) Q E { s with heap := h' })
    (hc : ∀ (h' : Heap) i j C, (∀ b o, s.heap.get? b = some o → h'.get? b = some o) → i < vs.length → j < vs.length → C (lt i j) { s with heap := h' } → kas_ask prog w A.in1.in1 κ vs i j C { s with heap := h' })
    (h : ∀ p : Array Nat, Pm p vs.length → Up lt p vs.length → Q (.ref (s.heap.objs.size + 1)) { s with heap := sortedAll s.heap vs (outOf vs p) }) :
    wpAny (model prog w) A (call (.builtin "sorted") [.ref l]) Q E s := by
  refine Calls.call_function_entry kind_sorted plain_sorted entry_sorted (args_sorted1 _) ?_
  unfold Builtin.«sorted»
  refine wpAny_bind (m := checkCount "sorted" 1 1 _) (wpAny_pure ?_)
  refine wpAny_bind (collect_list hl ?_)
  refine wpAny_bind (wpAny_newList ?_)
  have hsz : ((s.heap.push (seqObj "list" #[] 0)).update s.heap.objs.size (Obj.mapSeq (· ++ vs.toArray))).objs.size = s.heap.objs.size + 1 := by
    rw [Heap.size_update, size_push']
  have hoL : (((s.heap.push (seqObj "list" #[] 0)).update s.heap.objs.size (Obj.mapSeq (· ++ vs.toArray))).push (seqObj "list" vs.toArray 0)).get? (s.heap.objs.size + 1) = some (seqObj "list" vs.toArray 0) := by
    rw [← hsz]; exact Heap.get?_push_size _ rfl
  have keep : ∀ b o, s.heap.get? b = some o → (((s.heap.push (seqObj "list" #[] 0)).update s.heap.objs.size (Obj.mapSeq (· ++ vs.toArray))).push (seqObj "list" vs.toArray 0)).get? b = some o := fun b o q => by
    have hlt : b < s.heap.objs.size := Heap.lt_size q
    rw [Heap.get?_push_ne _ _ _ (by rw [hsz]; exact Nat.ne_of_lt (Nat.lt_succ_of_lt hlt)), Heap.get?_update_ne _ _ _ _ (Nat.ne_of_lt hlt), Heap.get?_push_ne _ _ _ (Nat.ne_of_lt hlt)]
    exact q
  have ne : ∀ b o, s.heap.get? b = some o → b ≠ s.heap.objs.size + 1 := fun b o e => Nat.ne_of_lt (Nat.lt_succ_of_lt (Heap.lt_size e))
  show wpAny _ _ _ _ _ { s with heap := ((s.heap.push (seqObj "list" #[] 0)).update s.heap.objs.size (Obj.mapSeq (· ++ vs.toArray))).push (seqObj "list" vs.toArray 0) }
  rw [hsz]
  refine wpAny_bind (wpAny_holding (wpAny_call_entry slot_list_sort ⟨_, hoL, rfl⟩ entry_list_sort (list_sort_lt (s := { s with heap := ((s.heap.push (seqObj "list" #[] 0)).update s.heap.objs.size (Obj.mapSeq (· ++ vs.toArray))).push (seqObj "list" vs.toArray 0) }) (κ := κ) hoL h2 h64 O
    (fun h' Q' k q => hk h' _ Q' (fun b o e => k b o (ne b o e) (keep b o e)) q) (fun h' i j C k hi hj q => hc h' i j C (fun b o e => k b o (ne b o e) (keep b o e)) hi hj q) fun p a1 a2 => ⟨_, rfl, ?_⟩) (args_list_sort _)))
  exact wpAny_pure ⟨_, rfl, h p a1 a2⟩
/-- none or one thing: nothing is asked -/
theorem list_sort_few {a : Addr} {vs : List Value} {n : Nat} {P : Fin → Shared → Prop} (ho : s.heap.get? a = some (seqObj "list" vs.toArray n)) (h2 : vs.length < 2)
    (h : P (.done (.ret .none)) { s with heap := sortedHeap s.heap a vs vs.toArray }) :
    wpAny (model prog w) A (Builtin.«list.sort» ⟨[.ref a], []⟩) P E s := by
  rw [list_sort_plain]
  have ha : a < s.heap.objs.size := Heap.lt_size ho
  refine wpAny_bind (listItems_at ho rfl ?_)
  refine wpAny_bind (listUpdate_at ho rfl ?_)
  obtain ⟨e1, ho1⟩ : ∃ e1, (s.heap.update a (Obj.mapSeq fun _ => #[])).get? a = some (seqObj "list" #[] e1) := ⟨_, get?_update_seq ho (fun _ => #[])⟩
  refine wpAny_bind (seqEpoch_at ho1 rfl ?_)
  refine wpAny_bind (wpAny_newTuple ?_)
  refine wpAny_bind (wpAny_newList ?_)
  refine wpAny_holding ?_
  have ho6 : (((s.heap.update a (Obj.mapSeq fun _ => #[])).push (seqObj "tuple" vs.toArray 0)).push (seqObj "list" #[] 0)).get? a = some (seqObj "list" #[] e1) := by
    rw [Heap.get?_push_ne _ _ _ (by rw [size_push', Heap.size_update]; exact Nat.ne_of_lt (Nat.lt_succ_of_lt ha)), Heap.get?_push_ne _ _ _ (by rw [Heap.size_update]; exact Nat.ne_of_lt ha)]
    exact ho1
  show wpAny (model prog w) A _ P E { s with heap := ((s.heap.update a (Obj.mapSeq fun _ => #[])).push (seqObj "tuple" vs.toArray 0)).push (seqObj "list" #[] 0) }
  dsimp only
  have hsz : vs.toArray.size = vs.length := by simp
  have hn2 : vs.toArray.size < 2 := by rw [hsz]; omega
  rw [if_pos hn2, if_pos hn2]
  refine wpAny_bind (wpAny_pure ?_)
  rw [StateT.run_pure]
  refine wpAny_bind (wpAny_pure ?_)
  dsimp only
  have e2 : (arrOf (SortSt.mk' general' (vs.toArray.zip vs.toArray) #[] 7 none)).map (·.2) = vs.toArray := by
    show (vs.toArray.zip vs.toArray).map (·.2) = vs.toArray
    apply Array.toList_inj.mp
    rw [Array.toList_map, Array.toList_zip]
    exact List.map_snd_zip (Nat.le_refl _)
  refine wpAny_bind (seqEpoch_at ho6 rfl ?_)
  rw [e2]
  refine wpAny_bind (listUpdate_at ho6 rfl ?_ (hsz2 := by rw [hsz, sizeLine_eq]; omega))
  simp only [bne_self_eq_false, Bool.false_eq_true, if_false]
  exact wpAny_pure h
theorem sorted_few {l : Addr} {vs : List Value} {Q : Value → Shared → Prop} (hl : s.heap.IsList l vs.toArray) (h2 : vs.length < 2)
    (h : Q (.ref (s.heap.objs.size + 1)) { s with heap := sortedAll s.heap vs vs.toArray }) :
    wpAny (model prog w) A (call (.builtin "sorted") [.ref l]) Q E s := by
  refine Calls.call_function_entry kind_sorted plain_sorted entry_sorted (args_sorted1 _) ?_
  unfold Builtin.«sorted»
  refine wpAny_bind (m := checkCount "sorted" 1 1 _) (wpAny_pure ?_)
  refine wpAny_bind (collect_list hl ?_)
  refine wpAny_bind (wpAny_newList ?_)
  have hsz : ((s.heap.push (seqObj "list" #[] 0)).update s.heap.objs.size (Obj.mapSeq (· ++ vs.toArray))).objs.size = s.heap.objs.size + 1 := by
    rw [Heap.size_update, size_push']
  have hoL : (((s.heap.push (seqObj "list" #[] 0)).update s.heap.objs.size (Obj.mapSeq (· ++ vs.toArray))).push (seqObj "list" vs.toArray 0)).get? (s.heap.objs.size + 1) = some (seqObj "list" vs.toArray 0) := by
    rw [← hsz]; exact Heap.get?_push_size _ rfl
  show wpAny _ _ _ _ _ { s with heap := ((s.heap.push (seqObj "list" #[] 0)).update s.heap.objs.size (Obj.mapSeq (· ++ vs.toArray))).push (seqObj "list" vs.toArray 0) }
  rw [hsz]
  refine wpAny_bind (wpAny_holding (wpAny_call_entry slot_list_sort ⟨_, hoL, rfl⟩ entry_list_sort (list_sort_few hoL h2 ⟨_, rfl, ?_⟩) (args_list_sort _)))
  exact wpAny_pure ⟨_, rfl, h⟩
end
end L2

set_option Elab.async false
set_option linter.all false
set_option maxRecDepth 100000
namespace L2
open PySem PySem.Spec PySem.W PyProof.Rows
theorem pigeon : ∀ (N : Nat) (l : List Nat), l.Nodup → (∀ x ∈ l, x < N) → l.length ≤ N
  | 0, l, _, h => by
    cases l with
    | nil => exact Nat.le_refl _
    | cons a r => exact absurd (h a List.mem_cons_self) (Nat.not_lt_zero _)
  | N + 1, l, d, h => by
    have ih := pigeon N (l.erase N) (d.erase N) fun x hx => by
      have hm := (List.Nodup.mem_erase_iff d).mp hx
      have := h x hm.2
      have ne : x ≠ N := hm.1
      omega
    by_cases hm : N ∈ l
    · rw [List.length_erase_of_mem hm] at ih
      omega
    · rw [List.erase_of_not_mem hm] at ih
      omega
theorem perm_range : ∀ (N : Nat) (l : List Nat), l.Nodup → (∀ x ∈ l, x < N) → l.length = N → l.Perm (List.range N)
  | 0, l, _, _, hl => by
    have : l = [] := List.length_eq_zero_iff.mp hl
    subst this
    exact .refl _
  | N + 1, l, d, h, hl => by
    have hm : N ∈ l := by
      refine Classical.byContradiction fun hn => ?_
      have := pigeon N l d fun x hx => by
        have h1 := h x hx
        have ne : x ≠ N := fun z => hn (z ▸ hx)
        omega
      omega
    have ih := perm_range N (l.erase N) (d.erase N) (fun x hx => by
      have hm := (List.Nodup.mem_erase_iff d).mp hx
      have := h x hm.2
      have ne : x ≠ N := hm.1
      omega) (by rw [List.length_erase_of_mem hm]; omega)
    refine (List.perm_cons_erase hm).trans ?_
    rw [List.range_succ]
    exact (ih.cons N).trans (List.perm_append_singleton N _).symm
theorem Pm.perm {p : Array Nat} {N : Nat} (P : Pm p N) : p.toList.Perm (List.range N) := by
  have hl : p.toList.length = N := by rw [Array.length_toList]; exact P.size
  have g : ∀ i (h : i < p.toList.length), p.toList[i] = gd p i := fun i h => by
    unfold gd
    rw [Array.getD_eq_getD_getElem?]
    rw [Array.getElem?_eq_getElem (by rw [Array.length_toList] at h; exact h)]
    simp
  refine perm_range N _ ?_ ?_ hl
  · rw [List.nodup_iff_pairwise_ne, List.pairwise_iff_getElem]
    intro i j hi hj hij
    rw [g i hi, g j hj]
    intro z
    have := P.inj i j (by omega) (by omega) z
    omega
  · intro x hx
    obtain ⟨i, hi, rfl⟩ := List.getElem_of_mem hx
    rw [g i hi]
    exact P.lt i (by omega)
/-- a pair of whole numbers in the heap -/
abbrev PP := Addr × Int × Int
def PRow (K : PySem.W.Frag) (H : Hp) (ps : List PP) : Prop := ∀ t ∈ ps, SqT K H t.1 [.int t.2.1, .int t.2.2]
abbrev refs (ps : List PP) : List V := ps.map fun t => V.ref t.1
def rSortP (K : PySem.W.Frag) : List V → Hp → VK → Prop := fun xs H Q => ∃ l, ∃ ps : List PP, xs = [.ref l] ∧ SqL K H l (refs ps) ∧ PRow K H ps ∧ ps.length < 64 ∧ ps.Pairwise (fun a b => a.2.1 ≠ b.2.1) ∧
  ∀ ps' D, ps'.Perm ps → ps'.Pairwise (fun a b => a.2.1 < b.2.1) → H D = none → Q (.ref D) (upd H D (.lst (refs ps')))
theorem vals_refs : ∀ {ps : List PP} {us : List Value}, Vals (refs ps) us → us = ps.map fun t => Value.ref t.1
  | [], _, .nil => rfl
  | t :: ps, _, .cons r rr => by
    cases (show _ = Value.ref t.1 from r)
    rw [vals_refs rr]
    rfl
theorem vals_of_refs : ∀ (ps : List PP), Vals (refs ps) (ps.map fun t => Value.ref t.1)
  | [] => .nil
  | t :: ps => .cons rfl (vals_of_refs ps)
section
variable {X : Cx}
theorem call_sortP : CallR X (.builtin "sorted") (rSortP X.K) := by
  intro pins s σ H xs us Q I rv h
  obtain ⟨l, ps, rfl, hq, hr, h64, hd, q⟩ := h
  obtain ⟨u, rfl, ru⟩ := vals1 rv
  cases (show u = Value.ref l from ru)
  obtain ⟨its, r, hp, hz⟩ := I.list hq
  obtain rfl := vals_refs r
  have hl := hp.isList
  have hlen : (ps.map fun t => Value.ref t.1).length = ps.length := List.length_map _
  have fin : ∀ (ps' : List PP), ps'.Perm ps → ps'.Pairwise (fun a b => a.2.1 < b.2.1) → EP X pins σ Q (.ref (s.heap.objs.size + 1)) { s with heap := sortedAll s.heap (ps.map fun t => Value.ref t.1) (List.toArray (ps'.map fun t => Value.ref t.1)) } := fun ps' p1 p2 => by
    obtain ⟨e, he⟩ := sortedAll_at s.heap (ps.map fun t => Value.ref t.1) (List.toArray (ps'.map fun t => Value.ref t.1))
    have hle : s.heap.objs.size ≤ s.heap.objs.size + 1 := Nat.le_succ _
    refine ⟨.ref (s.heap.objs.size + 1), _, I.laid (a := s.heap.objs.size + 1) (o := .lst (refs ps')) (t' := s.toks) (fun b o e => sortedAll_old e) hle ⟨?_, ps'.map fun t => Value.ref t.1, e, vals_of_refs ps', he⟩, rfl, q ps' _ p1 p2 (I.hok.fresh hle)⟩
    rw [List.length_map, p1.length_eq]
    rw [List.length_map] at hz
    exact hz
  -- the tuples, as the heap has them
  have tup : ∀ i (hi : i < ps.length), ∃ (o : Obj) (t1 t2 : Tok) (n : Nat), s.heap.get? ps[i].1 = some o ∧ o.cls = .type "tuple" ∧ o.data = .seq #[.int ps[i].2.1 t1, .int ps[i].2.2 t2] n := fun i hi => by
    obtain ⟨its2, r2, ⟨o, h1, h2, n, h3⟩, _⟩ := I.tuple (hr ps[i] (List.getElem_mem hi))
    obtain ⟨u1, u2, e, x1, x2⟩ := vals2 r2
    subst e
    obtain ⟨t1, e1⟩ := (show ∃ t, u1 = Value.int _ t from x1)
    obtain ⟨t2, e2⟩ := (show ∃ t, u2 = Value.int _ t from x2)
    subst e1 e2
    exact ⟨o, t1, t2, n, h1, h2, h3⟩
  by_cases h2 : ps.length < 2
  · refine sorted_few hl (by rw [hlen]; exact h2) ?_
    refine fin ps (.refl _) ?_
    match ps, h2 with
    | [], _ => exact .nil
    | [_], _ => exact List.pairwise_singleton ..
  · have fst : ∀ i, i < ps.length → (ps.map fun t => Value.ref t.1).getD i Value.none = Value.ref (ps.getD i default).1 := fun i hi => by simp [hi]
    have dist : ∀ i j (hi : i < ps.length) (hj : j < ps.length), i ≠ j → ps[i].2.1 ≠ ps[j].2.1 := fun i j hi hj hij => by
      rcases Nat.lt_or_gt_of_ne hij with z | z
      · exact List.pairwise_iff_getElem.mp hd i j hi hj z
      · exact fun e => List.pairwise_iff_getElem.mp hd j i hj hi z e.symm
    have gdD : ∀ i (hi : i < ps.length), ps.getD i default = ps[i] := fun i hi => by simp [hi]
    refine sorted_lt (κ := tuples' true) (lt := fun i j => decide ((ps.getD i default).2.1 < (ps.getD j default).2.1)) hl (by rw [hlen]; omega) (by rw [hlen]; exact h64) ?_ ?_ ?_ ?_
    · rw [hlen]
      refine ⟨fun a b c ha hb hc e1 e2 => ?_, fun a b ha hb hab e => ?_⟩
      · have z1 := of_decide_eq_true e1
        have z2 := of_decide_eq_true e2
        exact decide_eq_true (Int.lt_trans z1 z2)
      · have z := of_decide_eq_false e
        have ne := dist a b ha hb hab
        refine decide_eq_true ?_
        rw [gdD a ha, gdD b hb] at *
        omega
    · intro h' E' Q' keep hQ
      have main : ∀ (qs : List PP), (∀ t ∈ qs, t ∈ ps) → ∃ fs : List Value, KatTups h' (qs.map fun t => Value.ref t.1) fs ∧ fs.length = qs.length ∧ ∀ v ∈ fs, ∃ i t, v = Value.int i t := by
        intro qs
        induction qs with
        | nil => intro _; exact ⟨[], .nil, rfl, fun v hv => by simp at hv⟩
        | cons t qs ih =>
          intro hm
          obtain ⟨fs, f1, f2, f3⟩ := ih fun t' h' => hm t' (List.mem_cons_of_mem _ h')
          obtain ⟨i, hi, e⟩ := List.getElem_of_mem (hm t List.mem_cons_self)
          obtain ⟨o, t1, t2, n, g1, g2, g3⟩ := tup i hi
          rw [e] at g1 g3
          refine ⟨.int t.2.1 t1 :: fs, KatTups.cons (keep _ _ g1) g2 g3 rfl f1, by simp [f2], fun v hv => ?_⟩
          rcases List.mem_cons.mp hv with rfl | hv
          · exact ⟨_, _, rfl⟩
          · exact f3 v hv
      obtain ⟨fs, f1, f2, f3⟩ := main ps fun _ h => h
      refine kat_kind (s := { s with heap := h' }) (T := .type "int") f1 (by omega) (fun v hv => ?_) rfl hQ
      obtain ⟨i, t, rfl⟩ := f3 v hv
      exact .now
    · intro h' i j C keep hi hj hC
      rw [hlen] at hi hj
      obtain ⟨o1, t1, t2, n1, g1, g2, g3⟩ := tup i hi
      obtain ⟨o2, t3, t4, n2, k1, k2, k3⟩ := tup j hj
      show wpAny _ _ (keyLt' (tuples' true) _ _) C _ _
      rw [fst i hi, fst j hj, gdD i hi, gdD j hj] at *
      refine kat_lt (s := { s with heap := h' }) (keep _ _ g1) g3 (keep _ _ k1) k3 ?_
      refine kat_cons (wpAny_eqBool_int ?_)
      by_cases e : i = j
      · subst e
        have e0 : (ps[i].2.1 == ps[i].2.1) = true := beq_self_eq_true _
        rw [e0]
        refine kat_yes (kat_cons (wpAny_eqBool_int ?_))
        have e1 : (ps[i].2.2 == ps[i].2.2) = true := beq_self_eq_true _
        rw [e1]
        refine kat_yes (kat_nil ?_)
        have e2 : decide (ps[i].2.1 < ps[i].2.1) = false := decide_eq_false (Int.lt_irrefl _)
        rw [e2] at hC
        exact hC
      · have e0 : (ps[i].2.1 == ps[j].2.1) = false := beq_eq_false_iff_ne.mpr (dist i j hi hj e)
        rw [e0]
        exact kat_no (oneLt_int hC)
    · intro p P U
      rw [hlen] at P U
      have e : outOf (ps.map fun t => Value.ref t.1) p = List.toArray ((p.toList.map fun i => ps.getD i default).map fun t => Value.ref t.1) := by
        show List.toArray _ = _
        congr 1
        rw [List.map_map]
        refine List.map_congr_left fun i hi => ?_
        have hi' : i < ps.length := by
          have := P.perm.mem_iff.mp hi
          simpa using this
        exact fst i hi'
      rw [e]
      refine fin _ ?_ ?_
      · have e2 : ps = (List.range ps.length).map fun i => ps.getD i default := by
          refine List.ext_getElem (by simp) fun i h1 h2 => ?_
          simp [h1]
        refine (P.perm.map _).trans ?_
        rw [← e2]
      · rw [List.pairwise_iff_getElem]
        intro i j hi hj hij
        have hs : p.toList.length = ps.length := by rw [Array.length_toList]; exact P.size
        rw [List.length_map] at hi hj
        have g : ∀ i (h : i < p.toList.length), p.toList[i] = gd p i := fun i h => by
          unfold gd
          rw [Array.getD_eq_getD_getElem?]
          rw [Array.getElem?_eq_getElem (by rw [Array.length_toList] at h; exact h)]
          simp
        have u := of_decide_eq_true (U i j hij (by omega))
        simp only [List.getElem_map]
        rw [g i hi, g j hj]
        exact u
theorem callK_sortP {K : PySem.W.Frag} (h : X.K = K) : CallR X (.builtin "sorted") (rSortP K) := by subst h; exact call_sortP
end
theorem SqT.stay {K : PySem.W.Frag} {H : Hp} {a l : Addr} {xs ys : List V} {o : HO} (h : SqT K H a xs) (hl : H l = some (.lst ys)) : SqT K (upd H l o) a xs := by
  rcases h with (h | ⟨o', h⟩) | h
  · refine .inl (.inl ?_)
    rw [upd_ne (by rintro rfl; rw [hl] at h; cases h)]
    exact h
  · refine .inl (.inr ⟨o', ?_⟩)
    rw [upd_ne (by rintro rfl; rw [hl] at h; cases h)]
    exact h
  · exact .inr h
theorem PRow.same {K : PySem.W.Frag} {H H' : Hp} {ps : List PP} (h : PRow K H ps) (g : Same H H') : PRow K H' ps := fun t ht => g.tup (h t ht)
theorem PRow.stay {K : PySem.W.Frag} {H : Hp} {ps : List PP} {l : Addr} {ys : List V} {o : HO} (h : PRow K H ps) (hl : H l = some (.lst ys)) : PRow K (upd H l o) ps := fun t ht => SqT.stay (h t ht) hl
theorem PRow.add {K : PySem.W.Frag} {H : Hp} {ps : List PP} {r : Addr} {p e : Int} (h : PRow K H ps) (hr : H r = some (.tup [.int p, .int e])) : PRow K H (ps ++ [(r, p, e)]) := fun t ht => by
  rcases List.mem_append.mp ht with z | z
  · exact h t z
  · have : t = (r, p, e) := by simpa using z
    subst this
    exact SqT.of hr
theorem refs_add {ps : List PP} {r : Addr} {p e : Int} : refs ps ++ [V.ref r] = refs (ps ++ [(r, p, e)]) := by simp [refs]
end L2

set_option Elab.async false
set_option linter.all false
set_option maxRecDepth 100000
namespace L2
open PySem PySem.Spec PyProof.Rows
section
variable {X : Cx} {pins : List (Addr × Obj)} {σ : St} {H : Hp} {s : Shared} {h' : Heap}
/-- records of ours have turned -/
theorem Inv.turnedL {t' : Nat} {ch : List Addr} (I : Inv X pins σ H s) (k : ∀ b u, b ∉ ch → s.heap.get? b = some u → h'.get? b = some u) (hf : ∀ b ∈ ch, FpOk X pins H b) : Inv X pins σ H { s with heap := h', toks := t' } := by
  have nit : ∀ b u, H b = some u → b ∉ ch := fun b u e z => by rw [(hf b z).1] at e; cases e
  refine I.step (g' := s.gens) (d' := s.drawn) (ch := ch) (fun b hb => ⟨(hf b hb).2.2.2.1, (hf b hb).2.1, (hf b hb).2.2.2.2.1, (hf b hb).2.2.2.2.2⟩) (fun b o _ _ hc e _ => k b o hc e) (fun b o _ _ hc e _ => ⟨o.slots, k b o hc e⟩) (fun _ _ _ _ n => n)
    (fun b o hc e => ⟨o, k b o hc e⟩) (fun _ _ e => e) (fun _ _ _ e => e) (fun b ps e => ⟨#[], by rw [e]; simp⟩) (fun m hm => ?_) (fun b u e => ?_) I.bare
  · obtain ⟨o, es, ep, ho, r⟩ := hm
    exact ⟨o, es, ep, k _ o (fun z => (hf _ z).2.1 rfl) ho, r⟩
  · refine (I.hok b u e).stay (fun c v hc q => k c v ?_ q) (fun _ q => q) fun _ _ q => q
    rcases hc with z | z
    · rw [z]; exact nit b u e
    · exact nit c _ z
/-- .. and a new object is laid and tracked -/
theorem Inv.turnedNew {t' : Nat} {ch : List Addr} {a : Addr} {o : HO} (I : Inv X pins σ H s) (k : ∀ b u, b ∉ ch → s.heap.get? b = some u → h'.get? b = some u) (hf : ∀ b ∈ ch, FpOk X pins H b) (ha : s.heap.objs.size ≤ a) (new : ObjOk X.prog X.w (upd H a o) h' a o) :
    Inv X pins σ (upd H a o) { s with heap := h', toks := t' } := by
  have hn : H a = none := I.hok.fresh ha
  have nit : ∀ b u, H b = some u → b ∉ ch := fun b u e z => by rw [(hf b z).1] at e; cases e
  have nea : ∀ b u, s.heap.get? b = some u → b ≠ a := fun b u e => Nat.ne_of_lt (Nat.lt_of_lt_of_le (Heap.lt_size e) ha)
  refine I.step (g' := s.gens) (d' := s.drawn) (ch := ch) (fun b hb => ⟨(hf b hb).2.2.2.1, (hf b hb).2.1, (hf b hb).2.2.2.2.1, (hf b hb).2.2.2.2.2⟩) (fun b o _ _ hc e _ => k b o hc e) (fun b o _ _ hc e _ => ⟨o.slots, k b o hc e⟩) (fun b u _ e n => by rw [upd_ne (nea b u e)]; exact n)
    (fun b o hc e => ⟨o, k b o hc e⟩) (fun b xs e => by rw [upd_ne (ne_of_none e hn)]; exact e) (fun b u xs e => by rw [upd_ne (ne_of_none e hn)]; exact e) (fun b ps e => ⟨#[], by rw [upd_ne (ne_of_none e hn), e]; simp⟩) (fun m hm => ?_) (fun b u e => ?_) I.bare
  · obtain ⟨o, es, ep, ho, r⟩ := hm
    exact ⟨o, es, ep, k _ o (fun z => (hf _ z).2.1 rfl) ho, r⟩
  · by_cases hb : b = a
    · subst hb
      rw [upd_same] at e
      cases e
      exact new
    · rw [upd_ne hb] at e
      refine (I.hok b u e).stay (fun c v hc q => k c v ?_ q) (fun c q => by rw [upd_ne (ne_of_none q hn)]; exact q) fun c xs q => by rw [upd_ne (ne_of_none q hn)]; exact q
      rcases hc with z | z
      · rw [z]; exact nit b u e
      · exact nit c _ z
end

/-! ### enumerate of a list, its first number st -/
def Ite (K : PySem.W.Frag) (a : Addr) (st : Nat) : It :=
  ⟨fun i H => ∃ xs x, SqL K H a xs ∧ xs[i]? = some x, fun i H v H' => ∃ r x, v = .ref r ∧ H r = none ∧ (∀ xs, SqL K H a xs → xs[i]? = some x) ∧ H' = upd H r (.tup [.int ((st + i : Nat) : Int), x]), fun i H => ∃ xs, SqL K H a xs ∧ xs.length ≤ i⟩
/-- the places counted from st on -/
theorem draws_from {prog : Program} {w : World} {A : Around} (hh : A.handled = none) (it l : Addr) (hne : l ≠ it) (items : Array Value) (st : Nat) :
    Draws prog w A it [it, l] (st + items.size) (fun i v => items[i - st]? = some v) (fun i h => st ≤ i ∧ h.IsListIter it l (i - st) ∧ h.IsList l items) where
  live := fun _ _ x => let ⟨o, ho, _⟩ := x.2.1; ⟨o, ho⟩
  frame := fun _ _ _ x hk => ⟨x.1, x.2.1.at fun o e => hk it (by simp) o e, x.2.2.at fun o e => hk l (by simp) o e⟩
  item := fun i s Q E hi x hQ => by
    have hlt : i - st < items.size := by have := x.1; omega
    refine wpAny_nextOf_list_item x.2.1 x.2.2 (x := items[i - st]) (by simp [hlt]) fun h' hit' hs' => ?_
    have e : i - st + 1 = i + 1 - st := by have := x.1; omega
    rw [e] at hit'
    exact hQ _ h' s.toks (by simp [hlt]) ⟨Nat.le_succ_of_le x.1, hit', x.2.2.extBut hs'.extBut hne⟩ hs'
  done := fun s Q E x hE => wpAny_nextOf_list_end hh x.2.1 x.2.2 (by simp) hE
theorem turn_enum {P : Program} {w : World} {K : PySem.W.Frag} {elts : List Expr} {k : Nat} {pos : Pos} (a e it : Addr) (hei : e ≠ it) (hae : a ≠ e) (hai : a ≠ it) (st : Nat) :
    Turn P w K (.Tuple elts k pos) (Ite K a st) [e, it] e (fun i h => (∃ old, IsEnum h e it ((st + i : Nat) : Int) old) ∧ h.IsListIter it a i) where
  mem := by simp
  obj := fun i h x b hb => by
    obtain ⟨⟨old, he⟩, o, ho, c, d⟩ := x
    rcases List.mem_cons.mp hb with rfl | hb
    · exact ⟨_, he, fun v z => by
        have z' : Data.fields _ = Data.cell v := z
        cases z'⟩
    · have e' : b = it := by simpa using hb
      subst e'
      exact ⟨o, ho, fun v z => by rw [d] at z; cases z⟩
  keep := fun i h h' x kk => ⟨let ⟨old, he⟩ := x.1; ⟨old, kk e (by simp) _ he⟩, x.2.at fun o ho => kk it (by simp) o ho⟩
  item := by
    intro X hP hw hK hc i pins s σ H E I hf x hg
    subst hP hw hK
    obtain ⟨xs, v, hq, hx⟩ := hg
    obtain ⟨its, rv, p, hz⟩ := I.list hq
    obtain ⟨u, hu, ru⟩ := rv.get hx
    obtain ⟨⟨old, he⟩, hit⟩ := x
    have hi : i < its.length := (List.getElem?_eq_some_iff.mp hu).1
    have D := draws_from (prog := X.prog) (w := X.w) (A := X.A.in1) (I.ok.hd hc) it a hai its.toArray st
    have hn0 : H s.heap.objs.size = none := I.fresh
    have helt : e < s.heap.objs.size := Heap.lt_size he
    have hilt : it < s.heap.objs.size := by obtain ⟨_, y, _⟩ := id hit; exact Heap.lt_size y
    refine wpAny_pyNext_enum_itemD (i := st + i) D he ⟨Nat.le_add_right _ _, by rw [Nat.add_sub_cancel_left]; exact hit, p.isList⟩ (by simp; omega) hei (by simp [hei, Ne.symm hae]) fun y h1 tk hy ho st1 hT hsz hk => ?_
    rw [Nat.add_sub_cancel_left] at hy
    have ey : y = u := by
      have : its[i]? = some y := by simpa using hy
      rw [hu] at this
      exact (Option.some.inj this).symm
    subst ey
    refine ⟨_, rfl, wpAny_letOwnedTupleGo_enum ho fun h2 he2 hs2 => ?_⟩
    have hT2 : h2.get? s.heap.objs.size = some { cls := .type "tuple", data := .seq #[.int ((st + i : Nat) : Int) tk, y] } := (hs2.2 _ (Nat.ne_of_gt helt)).trans hT
    have I2 : Inv X pins σ (upd H s.heap.objs.size (.tup [.int ((st + i : Nat) : Int), v])) { s with heap := h2, toks := tk + 1 } :=
      I.turnedNew (ch := [e, it]) (fun b u hb q => (hs2.2 b fun z => hb (by simp [z])).trans (hk b u (fun z => hb (by simp [z])) (fun z => hb (by simp [z])) q)) hf (Nat.le_refl _)
        ⟨by show 2 ≤ sizeLine; rw [sizeLine_eq]; omega, [.int ((st + i : Nat) : Int) tk, y], .cons ⟨_, rfl⟩ (.cons ru .nil), _, hT2, rfl, 0, rfl⟩
    refine ⟨.ref s.heap.objs.size, _, I2, rfl, ⟨_, v, rfl, hn0, fun ys hy => by rw [I.list_inj hy hq]; exact hx, rfl⟩, ⟨⟨y, ?_⟩, ?_⟩, fun b hb => ?_⟩
    · have e1 : ((st + i : Nat) : Int) + 1 = ((st + (i + 1) : Nat) : Int) := by omega
      rw [← e1]
      exact he2
    · have hl1 := st1.2.1
      have e2 : st + i + 1 - st = i + 1 := by omega
      rw [e2] at hl1
      exact hl1.at fun o q => (hs2.2 it hei.symm).trans q
    · rw [upd_ne ?_]
      · exact (hf b hb).1
      · rcases List.mem_cons.mp hb with rfl | hb
        · exact Nat.ne_of_lt helt
        · have : b = it := by simpa using hb
          subst this
          exact Nat.ne_of_lt hilt
  done := by
    intro X hP hw hK hc i pins s σ H E I hf x hg
    subst hP hw hK
    obtain ⟨xs, hq, hx⟩ := hg
    obtain ⟨its, rv, p, hz⟩ := I.list hq
    obtain ⟨⟨old, he⟩, hit⟩ := x
    have hl := rv.length
    have hT : s.TypeIs (.ref e) "enumerate" := ⟨_, he, rfl⟩
    unfold pyNext
    refine wpAny_bind (wpAny_attempt (wpAny_callSpecial?_slot (name := Str.ofString "__next__") hT PySem.F.slot_enumerate_next (wpAny_call_entry PySem.F.slot_enumerate_next hT PySem.F.entry_enumerate_next ?_ (PySem.F.args_enumerate_next_1 _))))
    show wpAny _ _ (field (.ref e) 2 >>= _) _ _ _
    refine wpAny_bind (wpAny_field he rfl (x := .ref it) rfl ?_)
    refine wpAny_bind (wpAny_nextOf_list_end (I.ok.hd hc) hit p.isList (by simp; omega) fun h' x he' hx' => ?_)
    obtain ⟨o, ho, hc'⟩ := hx'
    refine wpAny_bind (wpAny_isInstance (T := "StopIteration") (b := true) ⟨o, ho, hc'⟩ isSubtype_stop ?_)
    exact wpAny_pure ⟨rfl, I.turnedL (t' := s.toks) (ch := [e, it]) (fun b u hb q => he' b u (fun z => hb (by simp [z])) q) hf⟩
  self := fun _ _ _ _ _ x h => let ⟨_, he⟩ := x.1; wpAny_pyIter_enum he h
section
variable {X : Cx} {elts : List Expr} {k : Nat} {tpos : Pos}
def iEnum (K : PySem.W.Frag) (ta : TA) : TI := fun σ H R => ta σ H fun vs H1 => ∃ a, vs = [.ref a] ∧ (∃ xs, SqL K H1 a xs) ∧ R (Ite K a 0) H1
theorem pi_enum {l : Expr} {ta : TA} {p pos : Pos} (hg : Gl X "enumerate") (hm : X.mg "enumerate" = none) (ha : PA X [l] ta) (hs : starEach [l] X.env = [(false, eval l X.env)] := by rfl) :
    PI X (.Tuple elts k tpos) (.Call (.Name "enumerate" p) [l] [] pos) (iEnum X.K ta) := by
  intro pins s σ H R I h
  refine Call_ (ld_blt I hg hm boot_enumerate (PyProof.Rows.callWith_type1 (thn (ha pos pins s σ H _ I h) fun us s1 ⟨vs, H1, I1, r1, q1⟩ => ?_) hs rfl))
  obtain ⟨a, e, ⟨xs, hq⟩, q⟩ := q1
  subst e
  obtain ⟨u, rfl, ru⟩ := vals1 r1
  cases (show u = Value.ref a from ru)
  obtain ⟨its, rv, pl, hz⟩ := I1.list hq
  have hlt : a < s1.heap.objs.size := by obtain ⟨_, y, _⟩ := pl.isList; exact Heap.lt_size y
  refine call_enumerate_list pl.isList fun h' he hit hsz hk => ?_
  refine wpAny_pyIter_enum he ?_
  have I2 : Inv X pins σ H1 { s1 with heap := h' } := I1.kept (t' := s1.toks) hk
  refine ⟨_, [s1.heap.objs.size + 1, s1.heap.objs.size], _, _, H1, rfl, I2, turn_enum a (s1.heap.objs.size + 1) s1.heap.objs.size (Nat.succ_ne_self _) (Nat.ne_of_lt (Nat.lt_succ_of_lt hlt)) (Nat.ne_of_lt hlt) 0, ⟨⟨_, he⟩, hit⟩, fun b hb => ?_, q⟩
  rcases List.mem_cons.mp hb with rfl | hb
  · exact I1.fpOk (Nat.le_succ _) (I1.hok.fresh (Nat.le_succ _))
  · have : b = s1.heap.objs.size := by simpa using hb
    subst this
    exact I1.fpOk (Nat.le_refl _) (I1.hok.fresh (Nat.le_refl _))
theorem piK_enum {K : PySem.W.Frag} {l : Expr} {ta : TA} {p pos : Pos} (hK : X.K = K) (hg : Gl X "enumerate") (hm : X.mg "enumerate" = none) (ha : PA X [l] ta) (hs : starEach [l] X.env = [(false, eval l X.env)] := by rfl) :
    PI X (.Tuple elts k tpos) (.Call (.Name "enumerate" p) [l] [] pos) (iEnum K ta) := by subst hK; exact pi_enum hg hm ha hs
end
/-- over a list that the body leaves as it is -/
theorem for_enum {K : PySem.W.Frag} {a : Addr} {st : Nat} {xs : List V} {g : TG} {tb : TS} {D : Ends} {σ : St} {H : Hp} (Pv : Nat → St → Hp → Prop) (h0 : Pv 0 σ H) (hl : ∀ i σ H, i ≤ xs.length → Pv i σ H → SqL K H a xs)
    (hs : ∀ i x σ H r, xs[i]? = some x → Pv i σ H → H r = none → g (.ref r) σ (upd H r (.tup [.int ((st + i : Nat) : Int), x])) fun σ2 H2 => tb { D with nx := Pv (i + 1), ct := Pv (i + 1), bk := D.nx } σ2 H2) (hd : ∀ σ H, Pv xs.length σ H → D.nx σ H) :
    ∃ W : Nat → Nat → St → Hp → Prop, (∃ m, W 0 m σ H) ∧ ∀ i m σ H, W i m σ H →
      ((Ite K a st).stop i H ∧ D.nx σ H) ∨ ((Ite K a st).go i H ∧ ∃ N : St → Hp → Prop, (∀ σ' H', N σ' H' → ∃ m', m' < m ∧ W (i + 1) m' σ' H') ∧ ∀ x H', (Ite K a st).yld i H x H' → g x σ H' fun σ2 H2 => tb { D with nx := N, ct := N, bk := D.nx } σ2 H2) := by
  refine ⟨fun i m σ H => m = xs.length - i ∧ i ≤ xs.length ∧ Pv i σ H, ⟨xs.length, by simp, Nat.zero_le _, h0⟩, ?_⟩
  rintro i m σ H ⟨rfl, hi, p⟩
  have q := hl i σ H hi p
  by_cases hlt : i < xs.length
  · refine .inr ⟨⟨xs, xs[i], q, by simp [hlt]⟩, Pv (i + 1), fun σ' H' p' => ⟨xs.length - (i + 1), by omega, rfl, hlt, p'⟩, fun v H' y => ?_⟩
    obtain ⟨r, x, e1, hr, hx, e2⟩ := y
    subst e1 e2
    exact hs i x σ _ r (hx xs q) p hr
  · have e : i = xs.length := by omega
    subst e
    exact .inl ⟨⟨xs, q, Nat.le_refl _⟩, hd σ H p⟩
theorem comp_enum {K : PySem.W.Frag} {a D : Addr} {st0 : Nat} {xs : List V} {st : St} {g : TG} {tif : TT} {te : TE} {H1 : Hp} {Q : VK} (Pv : Nat → List V → Hp → Prop) (h0 : Pv 0 [] (upd H1 D (.lst [])))
    (hl : ∀ i ys H2, H2 D = some (.lst ys) → Pv i ys H2 → SqL K H2 a xs)
    (hs : ∀ i m x ys H2 r, m = xs.length - i → i < xs.length → xs[i]? = some x → H2 D = some (.lst ys) → ys.length ≤ i → Pv i ys H2 → H2 r = none → g (.ref r) st (upd H2 r (.tup [.int ((st0 + i : Nat) : Int), x])) fun σ3 H3 => tif σ3 H3 fun b H4 =>
      if b = true then te σ3 H4 fun y H5 => ∃ ys, H5 D = some (.lst ys) ∧ ys.length < sizeLine ∧ ∃ m', m' < m ∧ CW xs.length D Pv (i + 1) m' (upd H5 D (.lst (ys ++ [y]))) else ∃ m', m' < m ∧ CW xs.length D Pv (i + 1) m' H4)
    (hd : ∀ ys H2, H2 D = some (.lst ys) → Pv xs.length ys H2 → Q (.ref D) H2) :
    compW (Ite K a st0) D st g tif te Q H1 := by
  refine ⟨CW xs.length D Pv, ⟨xs.length, by simp, Nat.zero_le _, [], upd_same, Nat.le_refl _, h0⟩, ?_⟩
  rintro i m H2 ⟨hm, hi, ys, hy, hlen, p⟩
  have q := hl i ys H2 hy p
  by_cases hlt : i < xs.length
  · refine .inr ⟨⟨xs, xs[i], q, by simp [hlt]⟩, fun v H' y => ?_⟩
    obtain ⟨r, x, e1, hr, hx, e2⟩ := y
    subst e1 e2
    exact hs i m x ys _ r hm hlt (hx xs q) hy hlen p hr
  · have e : i = xs.length := by omega
    subst e
    exact .inl ⟨⟨xs, q, Nat.le_refl _⟩, hd ys H2 hy p⟩

/-! ### reversed of a list -/
def Itv (K : PySem.W.Frag) (a : Addr) (n : Nat) : It :=
  ⟨fun i H => i < n ∧ ∃ xs x, SqL K H a xs ∧ xs[n - 1 - i]? = some x, fun i H v H' => H' = H ∧ ∀ xs, SqL K H a xs → xs[n - 1 - i]? = some v, fun i H => i = n⟩
theorem turn_rev {P : Program} {w : World} {K : PySem.W.Frag} {tg : Expr} (a it : Addr) (n : Nat) : Turn P w K tg (Itv K a n) [it] it (fun i h => h.IsRevIter it a ((n : Int) - 1 - (i : Int))) where
  mem := by simp
  obj := fun i h st b hb => by
    have e : b = it := by simpa using hb
    subst e
    obtain ⟨o, e, c, d⟩ := st
    exact ⟨o, e, fun v z => by rw [d] at z; cases z⟩
  keep := fun i h h' st k => st.at fun o e => k it (by simp) o e
  item := by
    intro X hP hw hK hc i pins s σ H E I hf st hg
    subst hP hw hK
    obtain ⟨hin, xs, x, hq, hx⟩ := hg
    obtain ⟨its, rv, p, hz⟩ := I.list hq
    obtain ⟨u, hu, ru⟩ := rv.get hx
    obtain ⟨f0, f1, f2, f3, f4, f5⟩ := hf it (by simp)
    have e1 : (n : Int) - 1 - (i : Int) = ((n - 1 - i : Nat) : Int) := by omega
    rw [e1] at st
    refine wpAny_pyNext_rev_item st p.isList (x := u) (by simpa using hu) fun h' st' sb => ?_
    have I1 : Inv X pins σ H { s with heap := h' } := I.turned (t' := s.toks) (fun b o hb e => (sb.2 b hb).trans e) f0 f1 f3 f4 f5
    obtain ⟨o, e, c, d⟩ := id st'
    refine ⟨u, rfl, go_of (s := { s with heap := h' }) e c d (by decide) ⟨x, H, I1, ru, ⟨rfl, fun ys hy => by rw [I.list_inj hy hq]; exact hx⟩, ?_, fun b hb => (hf b hb).1⟩⟩
    have e2 : ((n - 1 - i : Nat) : Int) - 1 = (n : Int) - 1 - ((i + 1 : Nat) : Int) := by omega
    rw [e2] at st'
    exact st'
  done := by
    intro X hP hw hK hc i pins s σ H E I hf st hg
    subst hP hw hK
    obtain ⟨f0, f1, f2, f3, f4, f5⟩ := hf it (by simp)
    have hg' : i = n := hg
    have e1 : (n : Int) - 1 - (i : Int) = -1 := by omega
    rw [e1] at st
    exact wpAny_pyNext_rev_end (I.ok.hd hc) st fun h' eb => ⟨rfl, I.turned (t' := s.toks) (fun b o hb e => eb b o hb e) f0 f1 f3 f4 f5⟩
  self := fun _ _ _ _ _ st h => wpAny_pyIter_revIter st h
section
variable {X : Cx} {tg : Expr}
def iRev (K : PySem.W.Frag) (ta : TA) : TI := fun σ H R => ta σ H fun vs H1 => ∃ a xs, vs = [.ref a] ∧ SqL K H1 a xs ∧ R (Itv K a xs.length) H1
theorem pi_rev {l : Expr} {ta : TA} {p pos : Pos} (hg : Gl X "reversed") (hm : X.mg "reversed" = none) (ha : PA X [l] ta) (hs : starEach [l] X.env = [(false, eval l X.env)] := by rfl) :
    PI X tg (.Call (.Name "reversed" p) [l] [] pos) (iRev X.K ta) := by
  intro pins s σ H R I h
  refine Call_ (ld_blt I hg hm boot_reversed (PyProof.Rows.callWith_type1 (thn (ha pos pins s σ H _ I h) fun us s1 ⟨vs, H1, I1, r1, q1⟩ => ?_) hs rfl))
  obtain ⟨a, xs, e, hq, q⟩ := q1
  subst e
  obtain ⟨u, rfl, ru⟩ := vals1 r1
  cases (show u = Value.ref a from ru)
  obtain ⟨its, rv, pl, hz⟩ := I1.list hq
  refine call_reversed_list pl.isList ?_
  have hit : (s1.heap.push (revObj a ((its.toArray.size : Int) - 1))).IsRevIter s1.heap.objs.size a ((xs.length : Int) - 1 - ((0 : Nat) : Int)) := by
    refine ⟨_, Heap.get?_push_size _ rfl, rfl, ?_⟩
    rw [rv.length]
    simp [revObj]
  refine wpAny_pyIter_revIter (s := { s1 with heap := s1.heap.push (revObj a ((its.toArray.size : Int) - 1)) }) hit ?_
  refine ⟨_, [s1.heap.objs.size], _, _, H1, rfl, I1.kept (t' := s1.toks) fun b o e => Heap.get?_push_of_some _ e, turn_rev a s1.heap.objs.size xs.length, hit, fun b hb => ?_, q⟩
  have e : b = s1.heap.objs.size := by simpa using hb
  subst e
  exact I1.fpOk (Nat.le_refl _) (I1.hok.fresh (Nat.le_refl _))
theorem piK_rev {K : PySem.W.Frag} {l : Expr} {ta : TA} {p pos : Pos} (hK : X.K = K) (hg : Gl X "reversed") (hm : X.mg "reversed" = none) (ha : PA X [l] ta) (hs : starEach [l] X.env = [(false, eval l X.env)] := by rfl) :
    PI X tg (.Call (.Name "reversed" p) [l] [] pos) (iRev K ta) := by subst hK; exact pi_rev hg hm ha hs
end
theorem for_rev {K : PySem.W.Frag} {a : Addr} {xs : List V} {g : TG} {tb : TS} {D : Ends} {σ : St} {H : Hp} (Pv : Nat → St → Hp → Prop) (h0 : Pv 0 σ H) (hl : ∀ i σ H, i ≤ xs.length → Pv i σ H → SqL K H a xs)
    (hs : ∀ i x σ H, i < xs.length → xs[xs.length - 1 - i]? = some x → Pv i σ H → g x σ H fun σ2 H2 => tb { D with nx := Pv (i + 1), ct := Pv (i + 1), bk := D.nx } σ2 H2) (hd : ∀ σ H, Pv xs.length σ H → D.nx σ H) :
    ∃ W : Nat → Nat → St → Hp → Prop, (∃ m, W 0 m σ H) ∧ ∀ i m σ H, W i m σ H →
      ((Itv K a xs.length).stop i H ∧ D.nx σ H) ∨ ((Itv K a xs.length).go i H ∧ ∃ N : St → Hp → Prop, (∀ σ' H', N σ' H' → ∃ m', m' < m ∧ W (i + 1) m' σ' H') ∧ ∀ x H', (Itv K a xs.length).yld i H x H' → g x σ H' fun σ2 H2 => tb { D with nx := N, ct := N, bk := D.nx } σ2 H2) := by
  refine ⟨fun i m σ H => m = xs.length - i ∧ i ≤ xs.length ∧ Pv i σ H, ⟨xs.length, by simp, Nat.zero_le _, h0⟩, ?_⟩
  rintro i m σ H ⟨rfl, hi, p⟩
  have q := hl i σ H hi p
  by_cases hlt : i < xs.length
  · have hj : xs.length - 1 - i < xs.length := by omega
    refine .inr ⟨⟨hlt, xs, xs[xs.length - 1 - i], q, by simp [hj]⟩, Pv (i + 1), fun σ' H' p' => ⟨xs.length - (i + 1), by omega, rfl, hlt, p'⟩, fun x H' y => ?_⟩
    obtain ⟨e, y⟩ := y
    subst e
    exact hs i x σ _ hlt (y xs q) p
  · have e : i = xs.length := by omega
    subst e
    exact .inl ⟨rfl, hd σ H p⟩

/-! ### reversed of a range: hi - 1, hi - 2, .. lo -/
def Itd (top : Int) (n : Nat) : It := ⟨fun i _ => i < n, fun i H x H' => H' = H ∧ x = .int (top - i), fun i _ => n ≤ i⟩
theorem turn_down {P : Program} {w : World} {K : PySem.W.Frag} {tg : Expr} (it : Addr) (top : Int) (n : Nat) : Turn P w K tg (Itd top n) [it] it (fun i h => IsRangeIter h it (top + (i : Nat) * (-1)) ((n : Int) - (i : Nat)) (-1)) where
  mem := by simp
  obj := fun i h st b hb => by
    have e : b = it := by simpa using hb
    subst e
    exact ⟨_, st, fun v z => by
      have z' : Data.fields _ = Data.cell v := z
      cases z'⟩
  keep := fun i h h' st k => k it (by simp) _ st
  item := by
    intro X hP hw hK hc i pins s σ H E I hf st hg
    subst hP hw hK
    obtain ⟨f0, f1, f2, f3, f4, f5⟩ := hf it (by simp)
    have W := Walks.range (prog := X.prog) (w := X.w) (I.ok.hd hc) it top (-1) n
    refine W.item i s _ _ hg st fun v h' tk hv st' kk => ?_
    obtain ⟨t, rfl⟩ := hv
    have I1 : Inv X pins σ H { s with heap := h', toks := tk } := I.turned (fun b o hb e => kk b o (by simpa using hb) e) f0 f1 f3 f4 f5
    refine ⟨_, rfl, go_of (s := { s with heap := h', toks := tk }) (n := "range_iterator") st' rfl rfl (by decide) ⟨.int (top - i), H, I1, ⟨t, ?_⟩, ⟨rfl, rfl⟩, st', fun b hb => (hf b hb).1⟩⟩
    have e : top + (i : Int) * (-1) = top - (i : Int) := by omega
    rw [e]
  done := by
    intro X hP hw hK hc i pins s σ H E I hf st hg
    subst hP hw hK
    obtain ⟨f0, f1, f2, f3, f4, f5⟩ := hf it (by simp)
    exact wpAny_pyNext_range_end (I.ok.hd hc) st (by have : n ≤ i := hg; omega) fun h' eb => ⟨rfl, I.turned (t' := s.toks) (fun b o hb e => eb b o hb e) f0 f1 f3 f4 f5⟩
  self := fun _ _ _ _ _ st h => wpAny_pyIter_rangeiter st h
theorem rsize0 (hi : Int) : Builtin.Range.rangeSize 0 hi 1 = if 0 < hi then hi else 0 := by
  rw [rangeSize_one]
  by_cases h : 0 < hi
  · rw [if_pos h, if_pos h]; omega
  · rw [if_neg h, if_neg h]
theorem sub_ri_reversed : isSubtype (.type "range_iterator") (.type "reversed") = pure false := by rw [isSubtype_type]; kernel_rfl
theorem range_rev_meets (r : Addr) (a b c : Int) (t u v : Tok) (hc0 : ¬ (!(Builtin.Range.rangeFitsLong a && Builtin.Range.rangeFitsLong b && Builtin.Range.rangeFitsLong c && Builtin.Range.rangeFitsLong (-c) && Builtin.Range.rangeFitsLong (a - c) && Builtin.Range.rangeFitsLong (Builtin.Range.rangeSize a b c))) = true) :
    Meets (Builtin.«range.__reversed__» ⟨[.ref r], []⟩) (fun _ R s => s.heap.get? r = some { cls := .type "range", dict := none, data := .fields #[.int a t, .int b u, .int c v], slots := #[] } ∧
      R (.ok (.ret (Value.ref s.heap.objs.size))) { s with heap := s.heap.push { cls := Value.type (if (Builtin.Range.rangeFitsLong a && Builtin.Range.rangeFitsLong b && Builtin.Range.rangeFitsLong c && Builtin.Range.rangeFitsLong (-c) && Builtin.Range.rangeFitsLong (a - c) && Builtin.Range.rangeFitsLong (Builtin.Range.rangeSize a b c)) = true then "range_iterator" else "longrange_iterator"), data := Data.fields #[rawInt (a + (Builtin.Range.rangeSize a b c - 1) * c), rawInt (Builtin.Range.rangeSize a b c), rawInt (-c)] }, toks := s.toks }) :=
  .of_wp fun prog w A R s h => by obtain ⟨hp, g, d, tk, os⟩ := s; obtain ⟨hl, h⟩ := h; wp_walk; exact ⟨_, rfl, h⟩
section
variable {prog : Program} {w : World} {A : Around} {E : Value → Shared → Prop} {s : Shared}
theorem fits62 {x : Int} (h1 : -(2 ^ 62) - 2 ≤ x) (h2 : x ≤ 2 ^ 62 + 2) : Builtin.Range.rangeFitsLong x = true := by
  unfold Builtin.Range.rangeFitsLong
  simp only [Bool.and_eq_true, decide_eq_true_eq]
  omega
theorem call_range_rev {r : Addr} {hi : Int} {t u v : Tok} {Q : Value → Shared → Prop} (hr : IsRange s.heap r 0 hi 1 t u v) (h3 : -(2 ^ 62) ≤ hi) (h4 : hi < 2 ^ 62)
    (h : Q (.ref s.heap.objs.size) { s with heap := s.heap.push { cls := .type "range_iterator", data := .fields #[rawInt (0 + ((if 0 < hi then hi else 0) - 1) * 1), rawInt (if 0 < hi then hi else 0), rawInt (-1)] } }) :
    wpAny (model prog w) A (call (.builtin "range.__reversed__") [.ref r]) Q E s := by
  have hs : (Builtin.Range.rangeFitsLong 0 && Builtin.Range.rangeFitsLong hi && Builtin.Range.rangeFitsLong 1 && Builtin.Range.rangeFitsLong (-1) && Builtin.Range.rangeFitsLong (0 - 1) && Builtin.Range.rangeFitsLong (Builtin.Range.rangeSize 0 hi 1)) = true := by
    rw [rsize0]
    simp only [Bool.and_eq_true]
    refine ⟨⟨⟨⟨⟨fits62 (by decide) (by decide), fits62 (by omega) (by omega)⟩, fits62 (by decide) (by decide)⟩, fits62 (by decide) (by decide)⟩, fits62 (by decide) (by decide)⟩, ?_⟩
    split
    · exact fits62 (by omega) (by omega)
    · exact fits62 (by decide) (by decide)
  refine call_meets PySem.F.slot_range_reversed ⟨_, hr, rfl⟩ PySem.F.entry_range_reversed (PySem.F.args_range_reversed_1 _) (range_rev_meets r 0 hi 1 t u v (by rw [hs]; simp)) ⟨hr, ?_⟩
  rw [hs, rsize0]
  simp only [if_true]
  exact h
theorem code_revrange_new {r : Addr} {hi : Int} {t u v : Tok} {Q1 : Value → Shared → Prop} (hr : IsRange s.heap r 0 hi 1 t u v) (h3 : -(2 ^ 62) ≤ hi) (h4 : hi < 2 ^ 62)
    (h : Q1 (.ref s.heap.objs.size) { s with heap := s.heap.push { cls := .type "range_iterator", data := .fields #[rawInt (0 + ((if 0 < hi then hi else 0) - 1) * 1), rawInt (if 0 < hi then hi else 0), rawInt (-1)] } }) :
    codeAny (model prog w) A (.call (.builtin "reversed.__new__") ⟨[.type "reversed", .ref r], []⟩) (wants Q1 E) s := by
  have hT : s.TypeIs (.ref r) "range" := ⟨_, hr, rfl⟩
  refine codeAny_of_tree ?_
  show wpAny _ A.in1 (do checkBuiltinCall "reversed.__new__" ⟨[.type "reversed", .ref r], []⟩; again (.builtin "reversed.__new__" ⟨[.type "reversed", .ref r], []⟩)) _ _ s
  refine wpAny_bind (wpAny_of_eq (PySem.F.newCall_reversed_1 _) (wpAny_pure ⟨plainId_quiet PySem.F.plain_reversed_new _, codeAny_builtin PySem.F.entry_reversed_new ?_⟩))
  rw [Around.under_plainId PySem.F.plain_reversed_new _]
  unfold Builtin.«reversed.__new__»
  refine wpAny_bind (wpAny_of_eq (newClass_reversed _) ?_)
  try dsimp only
  refine wpAny_bind (wpAny_of_eq (a := ()) (by first | rfl | kernel_rfl) ?_)
  refine wpAny_bind (wpAny_of_eq (a := ()) (by first | rfl | kernel_rfl) ?_)
  try dsimp only
  refine wpAny_bind (wpAny_specialOf hT PySem.F.slot_range_reversed.lookup ?_)
  try dsimp only
  refine wpAny_bind (wpAny_of_eq (PySem.F.slot_range_reversed.bind _) ?_)
  try dsimp only
  have nn : ¬ ((Value.builtin "range.__reversed__" == Value.none) = true) := Bool.false_ne_true
  rw [if_neg nn]
  refine wpAny_bind (wpAny_rule ?_)
  refine wpAny_bind (m := runValue (.call (.builtin "range.__reversed__") ⟨[.ref r], []⟩)) (show wpAny _ _ (call (.builtin "range.__reversed__") [.ref r]) _ _ _ from call_range_rev hr h3 h4 ?_)
  first
  | exact wpAny_pure h
  | exact wpAny_bind (wpAny_pure (wpAny_pure h))
theorem call_reversed_range {r : Addr} {hi : Int} {t u v : Tok} {Q : Value → Shared → Prop} (hr : IsRange s.heap r 0 hi 1 t u v) (h3 : -(2 ^ 62) ≤ hi) (h4 : hi < 2 ^ 62)
    (h : Q (.ref s.heap.objs.size) { s with heap := s.heap.push { cls := .type "range_iterator", data := .fields #[rawInt (0 + ((if 0 < hi then hi else 0) - 1) * 1), rawInt (if 0 < hi then hi else 0), rawInt (-1)] } }) :
    wpAny (model prog w) A (call (.type "reversed") [.ref r]) Q E s := by
  refine callType_other (U := "range_iterator") (Q₁ := fun obj s₁ => obj = .ref s.heap.objs.size ∧ s₁ = { s with heap := s.heap.push { cls := .type "range_iterator", data := .fields #[rawInt (0 + ((if 0 < hi then hi else 0) - 1) * 1), rawInt (if 0 < hi then hi else 0), rawInt (-1)] } })
    (by decide +kernel) PySem.F.create_reversed ⟨_, _, PySem.F.mro_reversed⟩ PySem.F.made_reversed sub_ri_reversed (PySem.F.typeCall_reversed_1 _) (code_revrange_new hr h3 h4 ⟨rfl, rfl⟩) ?_
  rintro obj s1 ⟨rfl, rfl⟩
  exact ⟨⟨_, Heap.get?_push_size _ rfl, rfl⟩, h⟩
end
section
variable {X : Cx} {tg : Expr}
/-- range(n), as a value -/
def tRng (ta : TA) : TE := fun σ H Q => ta σ H fun vs H1 => ∃ j : Int, vs = [.int j] ∧ ∀ p, H1 p = none → Q (.ref p) (upd H1 p (.rng 0 j))
theorem pe_range {a : Expr} {ta : TA} {p pos : Pos} (hg : Gl X "range") (hm : X.mg "range" = none) (ha : PA X [a] ta) (hs : starEach [a] X.env = [(false, eval a X.env)] := by rfl) : PE X (.Call (.Name "range" p) [a] [] pos) (tRng ta) := by
  refine ⟨?_⟩
  intro pins s σ H Q I h
  refine Call_ (ld_blt I hg hm boot_range (PyProof.Rows.callWith_type1 (thn (ha pos pins s σ H _ I h) fun us s1 ⟨vs, H1, I1, r1, q1⟩ => ?_) hs rfl))
  obtain ⟨j, e, q⟩ := q1
  subst e
  obtain ⟨u, rfl, ru⟩ := vals1 r1
  obtain ⟨t, rfl⟩ := (show ∃ t, u = Value.int j t from ru)
  refine call_range_1 ?_
  exact ⟨.ref s1.heap.objs.size, _, I1.laid (o := .rng 0 j) (fun b o e => Heap.get?_push_of_some _ e) (Nat.le_refl _) ⟨_, _, _, Heap.get?_push_size _ rfl⟩, rfl, q _ I1.fresh⟩
def iRevR (ta : TA) : TI := fun σ H R => ta σ H fun vs H1 => ∃ a, ∃ n : Int, vs = [.ref a] ∧ H1 a = some (.rng 0 n) ∧ -(2 ^ 62) ≤ n ∧ n < 2 ^ 62 ∧ R (Itd (n - 1) n.toNat) H1
theorem pi_revR {l : Expr} {ta : TA} {p pos : Pos} (hg : Gl X "reversed") (hm : X.mg "reversed" = none) (ha : PA X [l] ta) (hs : starEach [l] X.env = [(false, eval l X.env)] := by rfl) :
    PI X tg (.Call (.Name "reversed" p) [l] [] pos) (iRevR ta) := by
  intro pins s σ H R I h
  refine Call_ (ld_blt I hg hm boot_reversed (PyProof.Rows.callWith_type1 (thn (ha pos pins s σ H _ I h) fun us s1 ⟨vs, H1, I1, r1, q1⟩ => ?_) hs rfl))
  obtain ⟨a, n, e, hq, h1, h2, q⟩ := q1
  subst e
  obtain ⟨u, rfl, ru⟩ := vals1 r1
  cases (show u = Value.ref a from ru)
  obtain ⟨t, u, v, hr⟩ := I1.hok a _ hq
  refine call_reversed_range hr h1 h2 ?_
  have en : ((n.toNat : Nat) : Int) = if 0 < n then n else 0 := by split <;> omega
  have hit : IsRangeIter (s1.heap.push { cls := .type "range_iterator", data := .fields #[rawInt (0 + ((if 0 < n then n else 0) - 1) * 1), rawInt (if 0 < n then n else 0), rawInt (-1)] }) s1.heap.objs.size (0 + ((if 0 < n then n else 0) - 1) * 1) (if 0 < n then n else 0) (-1) := Heap.get?_push_size _ rfl
  refine wpAny_pyIter_rangeiter (s := { s1 with heap := _ }) hit ?_
  by_cases hn : 0 < n
  · rw [if_pos hn] at en hit ⊢
    refine ⟨_, [s1.heap.objs.size], _, _, H1, rfl, I1.kept (t' := s1.toks) fun b o e => Heap.get?_push_of_some _ e, turn_down s1.heap.objs.size (n - 1) n.toNat, ?_, fun b hb => ?_, q⟩
    · have e1 : n - 1 + ((0 : Nat) : Int) * (-1) = 0 + (n - 1) * 1 := by omega
      have e2 : ((n.toNat : Nat) : Int) - ((0 : Nat) : Int) = n := by omega
      show IsRangeIter _ _ (n - 1 + ((0 : Nat) : Int) * (-1)) (((n.toNat : Nat) : Int) - ((0 : Nat) : Int)) (-1)
      rw [e1, e2]
      exact hit
    · have e : b = s1.heap.objs.size := by simpa using hb
      subst e
      exact I1.fpOk (Nat.le_refl _) (I1.hok.fresh (Nat.le_refl _))
  · rw [if_neg hn] at en hit ⊢
    have e0 : n.toNat = 0 := by omega
    rw [e0] at q
    have tr : Turn X.prog X.w X.K tg (Itd (n - 1) 0) [s1.heap.objs.size] s1.heap.objs.size (fun i h => IsRangeIter h s1.heap.objs.size (-1 + (i : Nat) * (-1)) (((0 : Nat) : Int) - (i : Nat)) (-1)) := by
      have T := turn_down (P := X.prog) (w := X.w) (K := X.K) (tg := tg) s1.heap.objs.size (-1) 0
      exact ⟨T.mem, T.obj, T.keep, fun X a b c d i pins s σ H E I hf st hg => absurd (show i < 0 from hg) (Nat.not_lt_zero _), T.done, T.self⟩
    refine ⟨_, [s1.heap.objs.size], _, _, H1, rfl, I1.kept (t' := s1.toks) fun b o e => Heap.get?_push_of_some _ e, tr, hit, fun b hb => ?_, q⟩
    have e : b = s1.heap.objs.size := by simpa using hb
    subst e
    exact I1.fpOk (Nat.le_refl _) (I1.hok.fresh (Nat.le_refl _))
end
theorem for_down {top : Int} {n : Nat} {g : TG} {tb : TS} {D : Ends} {σ : St} {H : Hp} (Pv : Nat → St → Hp → Prop) (h0 : Pv 0 σ H)
    (hs : ∀ i σ H, i < n → Pv i σ H → g (.int (top - i)) σ H fun σ2 H2 => tb { D with nx := Pv (i + 1), ct := Pv (i + 1), bk := D.nx } σ2 H2) (hd : ∀ σ H, Pv n σ H → D.nx σ H) :
    ∃ W : Nat → Nat → St → Hp → Prop, (∃ m, W 0 m σ H) ∧ ∀ i m σ H, W i m σ H →
      ((Itd top n).stop i H ∧ D.nx σ H) ∨ ((Itd top n).go i H ∧ ∃ N : St → Hp → Prop, (∀ σ' H', N σ' H' → ∃ m', m' < m ∧ W (i + 1) m' σ' H') ∧ ∀ x H', (Itd top n).yld i H x H' → g x σ H' fun σ2 H2 => tb { D with nx := N, ct := N, bk := D.nx } σ2 H2) := by
  refine ⟨fun i m σ H => m = n - i ∧ i ≤ n ∧ Pv i σ H, ⟨n, by simp, Nat.zero_le _, h0⟩, ?_⟩
  rintro i m σ H ⟨rfl, hi, p⟩
  by_cases hlt : i < n
  · refine .inr ⟨hlt, Pv (i + 1), fun σ' H' p' => ⟨n - (i + 1), by omega, rfl, hlt, p'⟩, fun x H' y => ?_⟩
    obtain ⟨e, y⟩ := y
    subst e y
    exact hs i σ _ hlt p
  · have e : i = n := by omega
    subst e
    exact .inl ⟨Nat.le_refl _, hd σ H p⟩
/-! ### while, without a look at how its test hangs on what follows -/
def WIn (tb : TS) (D : Ends) (Pv : St → Hp → Prop) (μ : St → Hp → Nat) (m : Nat) (σ : St) (H1 : Hp) : Prop :=
  ∃ N : St → Hp → Prop, (∀ σ' H', N σ' H' → ∃ m', m' < m ∧ (m' = μ σ' H' ∧ Pv σ' H')) ∧ tb { D with nx := N, ct := N, bk := D.nx } σ H1
theorem win {tb : TS} {D : Ends} {Pv : St → Hp → Prop} {μ : St → Hp → Nat} {m : Nat} {σ : St} {H1 : Hp} (h : tb { D with nx := fun σ' H' => Pv σ' H' ∧ μ σ' H' < m, ct := fun σ' H' => Pv σ' H' ∧ μ σ' H' < m, bk := D.nx } σ H1) : WIn tb D Pv μ m σ H1 :=
  ⟨_, fun σ' H' ⟨p, l⟩ => ⟨_, l, rfl, p⟩, h⟩
theorem while_in {c : TT} {tb : TS} {D : Ends} {σ : St} {H : Hp} (Pv : St → Hp → Prop) (μ : St → Hp → Nat) (h0 : Pv σ H)
    (hs : ∀ σ H, Pv σ H → c σ H fun b H1 => if b = true then WIn tb D Pv μ (μ σ H) σ H1 else D.nx σ H1) : tWhile c tb D σ H := by
  refine ⟨fun m σ H => m = μ σ H ∧ Pv σ H, ⟨_, rfl, h0⟩, ?_⟩
  rintro m σ H ⟨rfl, p⟩
  exact hs σ H p
/-- several ways meet: M is what each comes with (C is found by the first one) -/
theorem merge {C : St → Hp → Prop} {G : Prop} (M : St → Hp → Prop) (h1 : (∀ σ H, M σ H → C σ H) → G) (h2 : ∀ σ H, M σ H → C σ H) : G := h1 h2
end L2

set_option Elab.async false
set_option linter.all false
set_option maxRecDepth 100000
namespace L2
open PySem PySem.Spec PyProof.Rows
/-! ## polynomials as lists of whole numbers -/
def coef (f : List Int) (i : Nat) : Int := f.getD i 0
theorem coef_nil (i : Nat) : coef [] i = 0 := by simp [coef]
theorem coef_ge {f : List Int} {i : Nat} (h : f.length ≤ i) : coef f i = 0 := by
  unfold coef
  rw [List.getD_eq_getElem?_getD, List.getElem?_eq_none h]
  rfl
theorem coef_lt {f : List Int} {i : Nat} (h : i < f.length) : coef f i = f[i] := by
  unfold coef
  rw [List.getD_eq_getElem?_getD, List.getElem?_eq_getElem h]
  rfl
theorem coef_get {f : List Int} {i : Nat} {x : Int} (h : f[i]? = some x) : coef f i = x := by
  unfold coef
  rw [List.getD_eq_getElem?_getD, h]
  rfl
theorem ext_coef {f g : List Int} (hl : f.length = g.length) (h : ∀ i, i < f.length → coef f i = coef g i) : f = g := by
  refine List.ext_getElem hl fun i h1 h2 => ?_
  rw [← coef_lt h1, ← coef_lt h2]
  exact h i h1
theorem coef_map_range {n : Nat} {c : Nat → Int} {i : Nat} (h : i < n) : coef ((List.range n).map c) i = c i := by
  rw [coef_lt (by simpa using h)]
  simp
theorem coef_map_range' {n : Nat} {c : Nat → Int} (hc : ∀ i, n ≤ i → c i = 0) (i : Nat) : coef ((List.range n).map c) i = c i := by
  by_cases h : i < n
  · exact coef_map_range h
  · rw [coef_ge (by simp; omega), hc i (by omega)]
theorem coef_set {f : List Int} {k : Nat} {v : Int} (hk : k < f.length) (i : Nat) : coef (f.set k v) i = if i = k then v else coef f i := by
  unfold coef
  rw [List.getD_eq_getElem?_getD, List.getElem?_set]
  by_cases h : k = i
  · subst h
    simp [hk]
  · rw [if_neg h, if_neg (Ne.symm h), List.getD_eq_getElem?_getD]
theorem coef_take {f : List Int} {n i : Nat} (h : i < n) : coef (f.take n) i = coef f i := by
  unfold coef
  rw [List.getD_eq_getElem?_getD, List.getElem?_take, if_pos h, List.getD_eq_getElem?_getD]
theorem coef_take_ge {f : List Int} {n i : Nat} (h : n ≤ i) : coef (f.take n) i = 0 := coef_ge (by rw [List.length_take]; omega)
theorem coef_map {f : List Int} {g : Int → Int} (h0 : g 0 = 0) (i : Nat) : coef (f.map g) i = g (coef f i) := by
  by_cases h : i < f.length
  · rw [coef_lt (by simpa using h), coef_lt h]; simp
  · rw [coef_ge (by simp; omega), coef_ge (by omega), h0]
theorem coef_append {f g : List Int} (i : Nat) : coef (f ++ g) i = if i < f.length then coef f i else coef g (i - f.length) := by
  unfold coef
  rw [List.getD_eq_getElem?_getD, List.getElem?_append]
  split
  · rw [List.getD_eq_getElem?_getD]
  · rw [List.getD_eq_getElem?_getD]
theorem coef_replicate (n i : Nat) : coef (List.replicate n 0) i = 0 := by
  by_cases h : i < n
  · rw [coef_lt (by simpa using h)]; simp
  · exact coef_ge (by simp; omega)
theorem coef_pad (f : List Int) (n i : Nat) : coef (f ++ List.replicate n 0) i = coef f i := by
  rw [coef_append]
  split
  · rfl
  · rw [coef_replicate, coef_ge (by omega)]
/-- noughts behind left out -/
def tlen (f : List Int) : Nat → Nat
  | 0 => 0
  | n + 1 => if coef f n = 0 then tlen f n else n + 1
def trim (f : List Int) : List Int := f.take (tlen f f.length)
def Norm (f : List Int) : Prop := f = [] ∨ coef f (f.length - 1) ≠ 0
theorem tlen_le (f : List Int) : ∀ n, tlen f n ≤ n
  | 0 => Nat.le_refl _
  | n + 1 => by
    unfold tlen
    split
    · exact Nat.le_succ_of_le (tlen_le f n)
    · exact Nat.le_refl _
theorem tlen_top (f : List Int) : ∀ n, tlen f n = 0 ∨ coef f (tlen f n - 1) ≠ 0
  | 0 => .inl rfl
  | n + 1 => by
    unfold tlen
    split
    · exact tlen_top f n
    · rename_i h; exact .inr h
theorem tlen_zero (f : List Int) : ∀ n i, tlen f n ≤ i → i < n → coef f i = 0
  | 0, i, _, h => absurd h (Nat.not_lt_zero _)
  | n + 1, i, h1, h2 => by
    unfold tlen at h1
    split at h1
    · rename_i h
      by_cases e : i = n
      · rw [e]; exact h
      · exact tlen_zero f n i h1 (by omega)
    · omega
theorem trim_length (f : List Int) : (trim f).length = tlen f f.length := by
  unfold trim
  rw [List.length_take, Nat.min_eq_left (tlen_le f _)]
theorem coef_trim (f : List Int) (i : Nat) : coef (trim f) i = coef f i := by
  unfold trim
  by_cases h : i < tlen f f.length
  · exact coef_take h
  · rw [coef_take_ge (by omega)]
    by_cases h2 : i < f.length
    · exact (tlen_zero f _ i (by omega) h2).symm
    · exact (coef_ge (by omega)).symm
theorem norm_trim (f : List Int) : Norm (trim f) := by
  rcases tlen_top f f.length with h | h
  · left
    have : (trim f).length = 0 := by rw [trim_length]; exact h
    exact List.length_eq_zero_iff.mp this
  · right
    rw [coef_trim, trim_length]
    exact h
/-- two without noughts behind are one where their terms are -/
theorem norm_ext {f g : List Int} (hf : Norm f) (hg : Norm g) (h : ∀ i, coef f i = coef g i) : f = g := by
  have key : ∀ {f g : List Int}, Norm f → (∀ i, coef f i = coef g i) → f.length ≤ g.length := by
    intro f g hf h
    rcases hf with rfl | hf
    · exact Nat.zero_le _
    · refine Classical.byContradiction fun hn => hf ?_
      rw [h]
      exact coef_ge (by omega)
  have hl : f.length = g.length := Nat.le_antisymm (key hf h) (key hg fun i => (h i).symm)
  exact ext_coef hl fun i _ => h i
theorem trim_ext {f g : List Int} (h : ∀ i, coef f i = coef g i) : trim f = trim g := norm_ext (norm_trim f) (norm_trim g) fun i => by rw [coef_trim, coef_trim, h]
theorem trim_norm {f : List Int} (h : Norm f) : trim f = f := norm_ext (norm_trim f) h fun i => coef_trim f i
theorem Norm.last {f : List Int} (h : Norm f) (hne : f ≠ []) : coef f (f.length - 1) ≠ 0 := by
  rcases h with h | h
  · exact absurd h hne
  · exact h
theorem norm_of_len {f : List Int} {n : Nat} (hl : f.length = n + 1) (h : coef f n ≠ 0) : Norm f := .inr (by rw [hl]; exact h)
/-! ### sums and products -/
def addc (f g : List Int) : List Int := (List.range (max f.length g.length)).map fun i => coef f i + coef g i
theorem coef_addc (f g : List Int) (i : Nat) : coef (addc f g) i = coef f i + coef g i :=
  coef_map_range' (fun i h => by rw [coef_ge (by omega), coef_ge (by omega)]; rfl) i
def padd (f g : List Int) : List Int := trim (addc f g)
theorem coef_padd (f g : List Int) (i : Nat) : coef (padd f g) i = coef f i + coef g i := by
  unfold padd
  rw [coef_trim, coef_addc]
theorem norm_padd (f g : List Int) : Norm (padd f g) := norm_trim _
/-- the sum of the terms of f below i, each times g, at power m -/
def rowS (f g : List Int) : Nat → Nat → Int
  | 0, _ => 0
  | i + 1, m => rowS f g i m + (if i ≤ m then coef f i * coef g (m - i) else 0)
def conv (f g : List Int) (m : Nat) : Int := rowS f g f.length m
/-- .. and of term i so far as the j-th of g -/
def cellS (f g : List Int) (i j m : Nat) : Int := rowS f g i m + (if i ≤ m ∧ m - i < j then coef f i * coef g (m - i) else 0)
theorem cellS_zero (f g : List Int) (i m : Nat) : cellS f g i 0 m = rowS f g i m := by
  unfold cellS
  rw [if_neg (by omega), Int.add_zero]
theorem cellS_end (f g : List Int) (i m : Nat) : cellS f g i g.length m = rowS f g (i + 1) m := by
  show _ = rowS f g i m + _
  unfold cellS
  congr 1
  by_cases h : i ≤ m
  · by_cases h2 : m - i < g.length
    · rw [if_pos ⟨h, h2⟩, if_pos h]
    · rw [if_neg (by omega), if_pos h, coef_ge (f := g) (by omega), Int.mul_zero]
  · rw [if_neg (by omega), if_neg h]
theorem cellS_step (f g : List Int) (i j m : Nat) : cellS f g i (j + 1) m = if m = i + j then cellS f g i j m + coef f i * coef g j else cellS f g i j m := by
  unfold cellS
  by_cases h : m = i + j
  · subst h
    have e : i + j - i = j := by omega
    rw [if_pos rfl, if_pos ⟨by omega, by omega⟩, if_neg (by omega), e]
    omega
  · rw [if_neg h]
    congr 1
    by_cases h1 : i ≤ m ∧ m - i < j
    · rw [if_pos h1, if_pos ⟨h1.1, by omega⟩]
    · rw [if_neg h1, if_neg (by omega)]
theorem rowS_beyond (f g : List Int) : ∀ (i m : Nat), f.length ≤ i → rowS f g i m = rowS f g f.length m
  | 0, m, h => by
    have : f.length = 0 := by omega
    rw [this]
  | i + 1, m, h => by
    by_cases e : f.length = i + 1
    · rw [e]
    · show rowS f g i m + _ = _
      rw [rowS_beyond f g i m (by omega), coef_ge (f := f) (i := i) (by omega)]
      simp
theorem rowS_zero (f g : List Int) : ∀ (i m : Nat), (∀ a, a < i → a ≤ m → coef f a * coef g (m - a) = 0) → rowS f g i m = 0
  | 0, m, _ => rfl
  | i + 1, m, h => by
    show rowS f g i m + _ = 0
    rw [rowS_zero f g i m fun a h1 h2 => h a (by omega) h2]
    by_cases hi : i ≤ m
    · rw [if_pos hi, h i (by omega) hi]; rfl
    · rw [if_neg hi]; rfl
theorem conv_beyond (f g : List Int) (m : Nat) (h : f.length + g.length ≤ m + 1) : conv f g m = 0 :=
  rowS_zero f g f.length m fun a h1 h2 => by rw [coef_ge (f := g) (by omega), Int.mul_zero]
theorem conv_top {f g : List Int} (hf : f ≠ []) (hg : g ≠ []) : conv f g (f.length + g.length - 2) = coef f (f.length - 1) * coef g (g.length - 1) := by
  have h1 : 0 < f.length := List.length_pos_iff.mpr hf
  have h2 : 0 < g.length := List.length_pos_iff.mpr hg
  obtain ⟨n, hn⟩ : ∃ n, f.length = n + 1 := ⟨f.length - 1, by omega⟩
  unfold conv
  rw [hn]
  show rowS f g n _ + _ = _
  rw [rowS_zero f g n _ fun a h3 h4 => by rw [coef_ge (f := g) (by omega), Int.mul_zero], if_pos (by omega)]
  have e1 : n + 1 + g.length - 2 - n = g.length - 1 := by omega
  have e2 : n + 1 - 1 = n := by omega
  rw [e1, e2, Int.zero_add]
def pmul (f g : List Int) : List Int := if f = [] ∨ g = [] then [] else (List.range (f.length + g.length - 1)).map (conv f g)
theorem coef_pmul (f g : List Int) (m : Nat) : coef (pmul f g) m = conv f g m := by
  unfold pmul
  by_cases h : f = [] ∨ g = []
  · rw [if_pos h, coef_nil]
    rcases h with rfl | rfl
    · rfl
    · exact (rowS_zero f [] f.length m fun a _ _ => by rw [coef_nil, Int.mul_zero]).symm
  · rw [if_neg h]
    refine coef_map_range' (fun i hi => conv_beyond f g i ?_) m
    have : 0 < f.length := List.length_pos_iff.mpr fun z => h (.inl z)
    omega
theorem norm_pmul {f g : List Int} (hf : Norm f) (hg : Norm g) : Norm (pmul f g) := by
  by_cases h : f = [] ∨ g = []
  · left; unfold pmul; rw [if_pos h]
  · have hf' : f ≠ [] := fun z => h (.inl z)
    have hg' : g ≠ [] := fun z => h (.inr z)
    have h1 : 0 < f.length := List.length_pos_iff.mpr hf'
    have h2 : 0 < g.length := List.length_pos_iff.mpr hg'
    right
    rw [coef_pmul]
    have e : (pmul f g).length - 1 = f.length + g.length - 2 := by
      unfold pmul
      rw [if_neg h, List.length_map, List.length_range]
      omega
    rw [e, conv_top hf' hg']
    exact Int.mul_ne_zero (hf.last hf') (hg.last hg')
/-! ### how great the terms are -/
def Bds (m : Nat) (f : List Int) : Prop := ∀ x ∈ f, Bd m x
theorem Bds.coef {m : Nat} {f : List Int} (h : Bds m f) (i : Nat) : Bd m (coef f i) := by
  by_cases hi : i < f.length
  · rw [coef_lt hi]; exact h _ (List.getElem_mem hi)
  · rw [coef_ge (by omega)]
    show Int.natAbs 0 < 2 ^ m
    exact Nat.pow_pos (by decide)
theorem Bds.mono {m n : Nat} {f : List Int} (h : Bds m f) (hmn : m ≤ n) : Bds n f := fun x hx => (h x hx).mono hmn
theorem bds_of {m : Nat} {f : List Int} (h : ∀ i, i < f.length → Bd m (coef f i)) : Bds m f := fun x hx => by
  obtain ⟨i, hi, rfl⟩ := List.getElem_of_mem hx
  rw [← coef_lt hi]
  exact h i hi
theorem Bds.trim {m : Nat} {f : List Int} (h : Bds m f) : Bds m (trim f) := fun x hx => h x (List.mem_of_mem_take hx)
theorem bd_zero (m : Nat) : Bd m 0 := Nat.pow_pos (by decide)
theorem Bds.rowS {m n : Nat} {f g : List Int} (hf : Bds m f) (hg : Bds n g) : ∀ (i k : Nat), Bd (m + n + i) (rowS f g i k)
  | 0, k => bd_zero _
  | i + 1, k => by
    have ih := Bds.rowS hf hg i k
    have h2 : Bd (m + n + i) (if i ≤ k then L2.coef f i * L2.coef g (k - i) else 0) := by
      split
      · exact ((hf.coef i).mul (hg.coef (k - i))).mono (by omega)
      · exact bd_zero _
    exact (ih.add h2).mono (by omega)
theorem Bds.pmul {m n : Nat} {f g : List Int} (hf : Bds m f) (hg : Bds n g) : Bds (m + n + f.length) (pmul f g) := bds_of fun i _ => by
  rw [coef_pmul]
  exact Bds.rowS hf hg _ _
theorem Bds.padd {m n : Nat} {f g : List Int} (hf : Bds m f) (hg : Bds n g) : Bds (max m n + 1) (padd f g) := bds_of fun i _ => by
  rw [coef_padd]
  exact (hf.coef i).add (hg.coef i)
/-! ### told lists -/
/-- a new list of whole numbers is told -/
def New (H : Hp) (Q : VK) (ns : List Int) : Prop := ∀ p H', Same H H' → H p = none → H' p = some (.lst (ns.map V.int)) → Q (.ref p) H'
theorem cutV_take (ns : List Int) (k : Nat) (h : k ≤ ns.length) : cutV (ns.map V.int) none (some (k : Int)) = (ns.take k).map V.int := by
  unfold cutV
  have e1 : HT.sIx (ns.map V.int).length 0 none = 0 := rfl
  have e2 : HT.sIx (ns.map V.int).length (ns.map V.int).length (some (k : Int)) = k := by
    rw [HT.sIx_nat, List.length_map]; omega
  rw [e1, e2]
  simp
theorem rep_zero (n : Nat) : (List.replicate n [V.int 0]).flatten = (List.replicate n (0 : Int)).map V.int := by
  induction n with
  | zero => rfl
  | succ n ih => rw [List.replicate_succ, List.flatten_cons, ih, List.replicate_succ]; rfl
theorem map_int_get {ns : List Int} {i : Nat} {x : V} (h : (ns.map V.int)[i]? = some x) : ∃ n, ns[i]? = some n ∧ x = .int n := by
  rw [List.getElem?_map] at h
  cases e : ns[i]? with
  | none => rw [e] at h; cases h
  | some n => rw [e] at h; exact ⟨n, rfl, (Option.some.inj h).symm⟩
theorem map_int_at {ns : List Int} {i : Nat} (h : i < ns.length) : (ns.map V.int)[i]? = some (.int (coef ns i)) := by
  rw [List.getElem?_map, List.getElem?_eq_getElem h, coef_lt h]
  rfl
theorem atI_int {ns : List Int} {i : Int} (h0 : 0 ≤ i) (h1 : i < (ns.length : Int)) : atI (ns.map V.int) i = some (.int (coef ns i.toNat)) := by
  have hi : i.toNat < (ns.map V.int).length := by rw [List.length_map]; omega
  rw [atI_get_nat h0 hi]
  rw [coef_lt (by rw [List.length_map] at hi; exact hi)]
  simp
theorem map_int_set (ns : List Int) (i : Nat) (v : Int) : (ns.map V.int).set i (.int v) = (ns.set i v).map V.int := by rw [List.map_set]
theorem ixN_nat {n : Nat} {k : Int} (h0 : 0 ≤ k) (h1 : k < (n : Int)) : ixN n k = some k.toNat := by
  unfold ixN
  rw [if_pos h0]
  first
    | rw [if_pos h1]
    | rw [if_pos (by omega)]
def rGetL (K : PySem.W.Frag) : V → V → Hp → VK → Prop := fun x y H Q => ∃ p xs i v, x = .ref p ∧ y = .int i ∧ SqL K H p xs ∧ 0 ≤ i ∧ xs[i.toNat]? = some v ∧ Q v H
theorem get_list {X : Cx} : PGet X (rGetL X.K) := by
  intro pins s σ H o i ov iv Q I ro ri h
  obtain ⟨p, xs, k, v, rfl, rfl, hq, h0, hx, q⟩ := h
  cases ro
  obtain ⟨t, rfl⟩ := ri
  obtain ⟨its, r, pl, hz⟩ := I.list hq
  obtain ⟨u, hu, ru⟩ := r.get hx
  have hl := r.length
  have hi : k.toNat < its.length := (List.getElem?_eq_some_iff.mp hu).1
  have hn := line63
  exact wpAny_getItem_list pl.isList h0 (by omega) (by simpa using hu) ⟨v, H, I, ru, q⟩
theorem getK_list {X : Cx} {K : PySem.W.Frag} (h : X.K = K) : PGet X (rGetL K) := by subst h; exact get_list
theorem atI_neg1 {ns : List Int} (h : ns ≠ []) : atI (ns.map V.int) (-1) = some (.int (coef ns (ns.length - 1))) := by
  have hl : 0 < ns.length := List.length_pos_iff.mpr h
  unfold atI ixN
  rw [if_neg (by decide), if_pos (by rw [List.length_map]; omega), List.length_map]
  have e : (-1 + (ns.length : Int)).toNat = ns.length - 1 := by omega
  show (ns.map V.int)[(-1 + (ns.length : Int)).toNat]? = _
  rw [e]
  exact map_int_at (by omega)
theorem all_true (n : Nat) : (List.replicate n true).all id = true := by
  induction n with
  | zero => rfl
  | succ n ih => rw [List.replicate_succ, List.all_cons, ih]; rfl
theorem rep_true_succ (n : Nat) : (List.replicate (n + 1) true).map V.bl = (List.replicate n true).map V.bl ++ [.bl true] := by
  rw [List.replicate_succ', List.map_append]
  rfl
theorem Bds.snoc {m : Nat} {f : List Int} {x : Int} (h : Bds m f) (hx : Bd m x) : Bds m (f ++ [x]) := fun y hy => by
  rcases List.mem_append.mp hy with z | z
  · exact h y z
  · have : y = x := by simpa using z
    rw [this]; exact hx
theorem map_int_snoc (f : List Int) (x : Int) : f.map V.int ++ [V.int x] = (f ++ [x]).map V.int := by simp
theorem cutV_takeL (ns : List Int) (k : Nat) : cutV (ns.map V.int) none (some (k : Int)) = (ns.take k).map V.int := by
  by_cases h : k ≤ ns.length
  · exact cutV_take ns k h
  · unfold cutV
    have e1 : HT.sIx (ns.map V.int).length 0 none = 0 := rfl
    have e2 : HT.sIx (ns.map V.int).length (ns.map V.int).length (some (k : Int)) = ns.length := by
      rw [HT.sIx_nat, List.length_map]; omega
    rw [e1, e2, List.take_of_length_le (by simp), List.take_of_length_le (by omega)]
    simp
theorem Bds.take {m : Nat} {f : List Int} (h : Bds m f) (n : Nat) : Bds m (f.take n) := fun x hx => h x (List.mem_of_mem_take hx)
theorem Bds.map {m n : Nat} {f : List Int} {h : Int → Int} (hf : Bds m f) (hh : ∀ x, Bd m x → Bd n (h x)) : Bds n (f.map h) := fun x hx => by
  obtain ⟨y, hy, rfl⟩ := List.mem_map.mp hx
  exact hh y (hf y hy)
theorem Norm.map {f : List Int} {h : Int → Int} (nf : Norm f) (hh : ∀ x, x ≠ 0 → h x ≠ 0) (h0 : h 0 = 0) : Norm (f.map h) := by
  rcases nf with rfl | nf
  · exact .inl rfl
  · right
    rw [coef_map h0, List.length_map]
    exact hh _ nf
end L2

set_option Elab.async false
set_option linter.all false
set_option maxRecDepth 100000
namespace L2
open PySem PySem.Spec PyProof.Rows
/-! ## products by their terms, division by a monic one -/
theorem rowS_short (f g : List Int) : ∀ (i m : Nat), m + 1 ≤ i → rowS f g i m = rowS f g (m + 1) m
  | 0, m, h => absurd h (by omega)
  | i + 1, m, h => by
    by_cases e : m = i
    · rw [e]
    · show rowS f g i m + _ = _
      rw [rowS_short f g i m (by omega), if_neg (by omega), Int.add_zero]
theorem conv_eq (f g : List Int) (m : Nat) : conv f g m = rowS f g (m + 1) m := by
  unfold conv
  by_cases h : f.length ≤ m + 1
  · exact (rowS_beyond f g (m + 1) m h).symm
  · exact rowS_short f g f.length m (by omega)
theorem rowS_lin {u f h g : List Int} {c : Int} (hc : ∀ a, coef u a = coef f a + c * coef h a) : ∀ (i m : Nat), rowS u g i m = rowS f g i m + c * rowS h g i m
  | 0, m => by simp [rowS]
  | i + 1, m => by
    show rowS u g i m + _ = rowS f g i m + _ + c * (rowS h g i m + _)
    rw [rowS_lin hc i m]
    by_cases hi : i ≤ m
    · rw [if_pos hi, if_pos hi, if_pos hi, hc, Int.add_mul, Int.mul_add, Int.mul_assoc]
      omega
    · rw [if_neg hi, if_neg hi, if_neg hi, Int.mul_add, Int.mul_zero]
      omega
theorem conv_lin {u f h g : List Int} {c : Int} (hc : ∀ a, coef u a = coef f a + c * coef h a) (m : Nat) : conv u g m = conv f g m + c * conv h g m := by
  rw [conv_eq, conv_eq, conv_eq, rowS_lin hc]
theorem rowS_congr {f f' g g' : List Int} (hf : ∀ a, coef f a = coef f' a) (hg : ∀ a, coef g a = coef g' a) : ∀ (i m : Nat), rowS f g i m = rowS f' g' i m
  | 0, m => rfl
  | i + 1, m => by
    show rowS f g i m + _ = rowS f' g' i m + _
    rw [rowS_congr hf hg i m, hf, hg]
theorem conv_congr {f f' g g' : List Int} (hf : ∀ a, coef f a = coef f' a) (hg : ∀ a, coef g a = coef g' a) (m : Nat) : conv f g m = conv f' g' m := by
  rw [conv_eq, conv_eq, rowS_congr hf hg]
theorem rowS_one {u f g : List Int} {t : Nat} {c : Int} (hc : ∀ a, coef u a = coef f a + if a = t then c else 0) : ∀ (i m : Nat), rowS u g i m = rowS f g i m + if t < i ∧ t ≤ m then c * coef g (m - t) else 0
  | 0, m => by
    rw [if_neg (by omega)]; simp [rowS]
  | i + 1, m => by
    show rowS u g i m + _ = rowS f g i m + _ + _
    rw [rowS_one hc i m, hc]
    by_cases hi : i ≤ m
    · rw [if_pos hi, if_pos hi]
      by_cases e : i = t
      · subst e
        rw [if_neg (by omega), if_pos rfl, if_pos ⟨by omega, hi⟩, Int.add_mul]
        omega
      · rw [if_neg e, Int.add_zero]
        by_cases h2 : t < i ∧ t ≤ m
        · rw [if_pos h2, if_pos ⟨by omega, h2.2⟩]; omega
        · rw [if_neg h2, if_neg (by omega)]; omega
    · rw [if_neg hi, if_neg hi]
      by_cases h2 : t < i ∧ t ≤ m
      · rw [if_pos h2, if_pos ⟨by omega, h2.2⟩]; omega
      · rw [if_neg h2, if_neg (by omega)]
theorem conv_one {u f g : List Int} {t : Nat} {c : Int} (hc : ∀ a, coef u a = coef f a + if a = t then c else 0) (m : Nat) : conv u g m = conv f g m + if t ≤ m then c * coef g (m - t) else 0 := by
  rw [conv_eq, conv_eq, rowS_one hc]
  congr 1
  by_cases h : t ≤ m
  · rw [if_pos h, if_pos ⟨by omega, h⟩]
  · rw [if_neg h, if_neg (by omega)]
theorem conv_nil (g : List Int) (m : Nat) : conv [] g m = 0 := rfl
def Monic (g : List Int) : Prop := g ≠ [] ∧ coef g (g.length - 1) = 1
theorem tlen_le_of {f : List Int} {d : Nat} : ∀ n, (∀ m, d ≤ m → m < n → coef f m = 0) → tlen f n ≤ d
  | 0, _ => Nat.zero_le _
  | n + 1, h => by
    unfold tlen
    split
    · exact tlen_le_of n fun m h1 h2 => h m h1 (by omega)
    · rename_i hne
      refine Classical.byContradiction fun hn => hne ?_
      exact h n (by omega) (by omega)
/-- quotient and rest -/
structure IsDiv (f g q r : List Int) : Prop where
  eq : ∀ m, coef f m = conv q g m + coef r m
  nq : Norm f → Norm q
  nr : Norm r
  len : r.length < g.length
  lq : q.length = f.length - (g.length - 1)
theorem IsDiv.uniq {f g q r q' r' : List Int} (hg : Monic g) (a : IsDiv f g q r) (e' : ∀ m, coef f m = conv q' g m + coef r' m) (l' : r'.length < g.length) (nr' : Norm r') : (∀ m, coef q m = coef q' m) ∧ r = r' := by
  have hgl : 0 < g.length := List.length_pos_iff.mpr hg.1
  have hu : ∀ m, coef (addc q (q'.map fun x => -1 * x)) m = coef q m + (-1) * coef q' m := fun m => by rw [coef_addc, coef_map (by decide)]
  have hd : ∀ m, conv (addc q (q'.map fun x => -1 * x)) g m = coef r' m - coef r m := fun m => by
    rw [conv_lin (c := -1) hu]
    have h1 := a.eq m
    have h2 := e' m
    omega
  have hz : trim (addc q (q'.map fun x => -1 * x)) = [] := by
    refine Classical.byContradiction fun hn => ?_
    have ct := conv_top (f := trim (addc q (q'.map fun x => -1 * x))) hn hg.1
    rw [conv_congr (f' := addc q (q'.map fun x => -1 * x)) (g' := g) (fun a => coef_trim _ a) (fun _ => rfl), hd, hg.2, Int.mul_one] at ct
    have hl : 0 < (trim (addc q (q'.map fun x => -1 * x))).length := List.length_pos_iff.mpr hn
    have h1 := a.len
    rw [coef_ge (f := r') (by omega), coef_ge (f := r) (by omega)] at ct
    exact (norm_trim _).last hn (by omega)
  have hq : ∀ m, coef q m = coef q' m := fun m => by
    have h1 := hu m
    rw [← coef_trim, hz, coef_nil] at h1
    omega
  refine ⟨hq, norm_ext a.nr nr' fun m => ?_⟩
  have h1 := a.eq m
  have h2 := e' m
  rw [conv_congr (f' := q') (g' := g) hq (fun _ => rfl)] at h1
  omega
/-! ### the loop's own side -/
/-- so far: Qr the leads told, the last ones first -/
def qSo (N i : Nat) (Qr : List Int) : List Int := List.replicate (N - i) 0 ++ Qr.reverse
theorem coef_rev {l : List Int} {i : Nat} (h : i < l.length) : coef l.reverse i = coef l (l.length - 1 - i) := by
  rw [coef_lt (by rw [List.length_reverse]; exact h), coef_lt (by omega)]
  rw [List.getElem_reverse]
theorem qSo_next {N i : Nat} {Qr : List Int} {c : Int} (hl : Qr.length = i) (hi : i < N) (a : Nat) : coef (qSo N (i + 1) (Qr ++ [c])) a = coef (qSo N i Qr) a + if a = N - 1 - i then c else 0 := by
  unfold qSo
  have e0 : (Qr ++ [c]).reverse = c :: Qr.reverse := by simp
  rw [e0, coef_append (f := List.replicate (N - (i + 1)) 0), coef_append (f := List.replicate (N - i) 0), List.length_replicate, List.length_replicate]
  by_cases h1 : a < N - (i + 1)
  · rw [if_pos h1, if_pos (by omega), if_neg (by omega), coef_replicate, coef_replicate]; rfl
  · rw [if_neg h1]
    by_cases h2 : a = N - 1 - i
    · rw [if_pos h2, if_pos (by omega), coef_replicate]
      have e : a - (N - (i + 1)) = 0 := by omega
      rw [e]
      show c = 0 + c
      omega
    · rw [if_neg h2, if_neg (by omega)]
      have e : a - (N - (i + 1)) = (a - (N - i)) + 1 := by omega
      rw [e]
      show coef (c :: Qr.reverse) ((a - (N - i)) + 1) = _
      have : coef (c :: Qr.reverse) ((a - (N - i)) + 1) = coef Qr.reverse (a - (N - i)) := by simp [coef]
      rw [this]
      omega
theorem qSo_end {N : Nat} {Qr : List Int} (hl : Qr.length = N) : qSo N N Qr = Qr.reverse := by
  unfold qSo
  rw [Nat.sub_self]
  rfl
/-- after i turns -/
structure DivSo (f g : List Int) (N i : Nat) (Qr R : List Int) : Prop where
  lq : Qr.length = i
  lr : R.length = f.length
  eq : ∀ m, m < R.length → coef R m = coef f m - conv (qSo N i Qr) g m
  top : ∀ m, f.length - i ≤ m → m < R.length → coef R m = 0
  lead : 0 < i → coef Qr 0 = coef f (f.length - 1)
/-- within turn i, j of g gone through -/
def RIn (g : List Int) (R R' : List Int) (t : Nat) (lead : Int) (j : Nat) : Prop := R'.length = R.length ∧ ∀ m, m < R.length → coef R' m = coef R m - if t ≤ m ∧ m - t < j then lead * coef g (m - t) else 0
theorem RIn.start (g R : List Int) (t : Nat) (lead : Int) : RIn g R R t lead 0 := ⟨rfl, fun m _ => by rw [if_neg (by omega)]; omega⟩
theorem RIn.step {g R R' : List Int} {t : Nat} {lead : Int} {j : Nat} (h : RIn g R R' t lead j) (hj : t + j < R.length) : RIn g R (R'.set (t + j) (coef R' (t + j) - lead * coef g j)) t lead (j + 1) := by
  refine ⟨by rw [List.length_set]; exact h.1, fun m hm => ?_⟩
  rw [coef_set (by rw [h.1]; exact hj)]
  by_cases e : m = t + j
  · subst e
    have e2 : t + j - t = j := by omega
    rw [if_pos rfl, if_pos ⟨by omega, by omega⟩, h.2 _ hm, if_neg (by omega), e2]
    omega
  · rw [if_neg e, h.2 m hm]
    congr 1
    by_cases h1 : t ≤ m ∧ m - t < j
    · rw [if_pos h1, if_pos ⟨h1.1, by omega⟩]
    · rw [if_neg h1, if_neg (by omega)]
theorem DivSo.next {f g Qr R R' : List Int} {N i : Nat} (hg : Monic g) (hN : N = f.length - (g.length - 1)) (D : DivSo f g N i Qr R) (hi : i < N) (h : RIn g R R' (N - 1 - i) (coef R (N - 1 - i + (g.length - 1))) g.length) :
    DivSo f g N (i + 1) (Qr ++ [coef R (N - 1 - i + (g.length - 1))]) R' := by
  have hgl : 0 < g.length := List.length_pos_iff.mpr hg.1
  have lr := D.lr
  have lq := D.lq
  refine ⟨by rw [List.length_append, D.lq]; rfl, h.1.trans D.lr, fun m hm => ?_, fun m h1 h2 => ?_, fun _ => ?_⟩
  · rw [h.1] at hm
    rw [h.2 m hm, D.eq m hm, conv_one (qSo_next (c := coef R (N - 1 - i + (g.length - 1))) D.lq hi)]
    have : (if N - 1 - i ≤ m ∧ m - (N - 1 - i) < g.length then coef R (N - 1 - i + (g.length - 1)) * coef g (m - (N - 1 - i)) else 0) = if N - 1 - i ≤ m then coef R (N - 1 - i + (g.length - 1)) * coef g (m - (N - 1 - i)) else 0 := by
      by_cases h1 : N - 1 - i ≤ m
      · by_cases h2 : m - (N - 1 - i) < g.length
        · rw [if_pos ⟨h1, h2⟩, if_pos h1]
        · rw [if_neg (by omega), if_pos h1, coef_ge (f := g) (by omega), Int.mul_zero]
      · rw [if_neg (by omega), if_neg h1]
    rw [this]
    omega
  · have h2' : m < R.length := by rw [h.1] at h2; exact h2
    rw [h.2 m h2']
    by_cases e : m = f.length - (i + 1)
    · have e1 : m - (N - 1 - i) = g.length - 1 := by omega
      have e2 : N - 1 - i + (g.length - 1) = m := by omega
      rw [if_pos ⟨by omega, by omega⟩, e1, hg.2, e2, Int.mul_one]
      omega
    · rw [D.top m (by omega) h2']
      have e1 : g.length ≤ m - (N - 1 - i) := by omega
      rw [if_neg (by omega)]
      rfl
  · rw [coef_append]
    by_cases h0 : 0 < i
    · rw [if_pos (by omega)]; exact D.lead h0
    · have e0 : i = 0 := by omega
      subst e0
      rw [if_neg (by omega)]
      have e1 : N - 1 - 0 + (g.length - 1) = f.length - 1 := by omega
      have hnil : Qr = [] := List.length_eq_zero_iff.mp D.lq
      rw [e1, D.eq _ (by omega)]
      have hz : conv (qSo N 0 Qr) g (f.length - 1) = 0 := by
        rw [conv_congr (f' := []) (g' := g) (fun a => ?_) (fun _ => rfl)]
        · rfl
        · unfold qSo
          rw [hnil, List.reverse_nil, List.append_nil, coef_replicate, coef_nil]
      rw [hz]
      have : coef [coef f (f.length - 1) - 0] (0 - Qr.length) = coef f (f.length - 1) - 0 := by rw [hnil]; rfl
      rw [this]
      omega
theorem DivSo.done {f g Qr R : List Int} {N : Nat} (hg : Monic g) (hN : N = f.length - (g.length - 1)) (D : DivSo f g N N Qr R) : IsDiv f g Qr.reverse (trim R) := by
  have hgl : 0 < g.length := List.length_pos_iff.mpr hg.1
  refine ⟨fun m => ?_, fun nf => ?_, norm_trim R, ?_, by rw [List.length_reverse, D.lq, hN]⟩
  · rw [coef_trim]
    by_cases hm : m < R.length
    · have := D.eq m hm
      rw [qSo_end D.lq] at this
      omega
    · have lr := D.lr
      have lq := D.lq
      rw [coef_ge (f := f) (by omega), coef_ge (f := R) (by omega)]
      have hb : conv Qr.reverse g m = 0 := by
        by_cases hz : Qr = []
        · subst hz; rfl
        · have : 0 < Qr.length := List.length_pos_iff.mpr hz
          exact conv_beyond _ _ _ (by rw [List.length_reverse]; omega)
      rw [hb]
      rfl
  · by_cases hz : Qr = []
    · left; rw [hz]; rfl
    · right
      have hl : 0 < Qr.length := List.length_pos_iff.mpr hz
      have lq := D.lq
      rw [coef_rev (by rw [List.length_reverse]; omega), List.length_reverse]
      have e : Qr.length - 1 - (Qr.length - 1) = 0 := by omega
      rw [e, D.lead (by omega)]
      exact nf.last fun z => by rw [z] at hN; simp at hN; omega
  · rw [trim_length]
    have : tlen R R.length ≤ g.length - 1 := tlen_le_of _ fun m h1 h2 => D.top m (by have := D.lr; omega) h2
    omega
end L2

set_option Elab.async false
set_option linter.all false
set_option maxRecDepth 100000
namespace L2
open PySem PySem.Spec PyProof.Rows
/-! ## sums, and products of power rows -/
def sumN : Nat → (Nat → Int) → Int
  | 0, _ => 0
  | n + 1, f => sumN n f + f n
theorem sumN_congr {f g : Nat → Int} : ∀ {n : Nat}, (∀ i, i < n → f i = g i) → sumN n f = sumN n g
  | 0, _ => rfl
  | n + 1, h => by
    show sumN n f + f n = sumN n g + g n
    rw [sumN_congr fun i hi => h i (by omega), h n (by omega)]
theorem sumN_add (f g : Nat → Int) : ∀ n, sumN n (fun i => f i + g i) = sumN n f + sumN n g
  | 0 => rfl
  | n + 1 => by
    show sumN n (fun i => f i + g i) + (f n + g n) = sumN n f + f n + (sumN n g + g n)
    rw [sumN_add f g n]
    omega
theorem sumN_mul (c : Int) (f : Nat → Int) : ∀ n, sumN n (fun i => c * f i) = c * sumN n f
  | 0 => by simp [sumN]
  | n + 1 => by
    show sumN n (fun i => c * f i) + c * f n = c * (sumN n f + f n)
    rw [sumN_mul c f n, Int.mul_add]
theorem sumN_mulR (c : Int) (f : Nat → Int) (n : Nat) : sumN n (fun i => f i * c) = sumN n f * c := by
  rw [Int.mul_comm, ← sumN_mul]
  exact sumN_congr fun i _ => Int.mul_comm _ _
theorem sumN_zero {f : Nat → Int} : ∀ {n : Nat}, (∀ i, i < n → f i = 0) → sumN n f = 0
  | 0, _ => rfl
  | n + 1, h => by
    show sumN n f + f n = 0
    rw [sumN_zero fun i hi => h i (by omega), h n (by omega)]
    rfl
theorem sumN_head (f : Nat → Int) : ∀ n, sumN (n + 1) f = f 0 + sumN n fun i => f (i + 1)
  | 0 => by simp [sumN]
  | n + 1 => by
    show sumN (n + 1) f + f (n + 1) = f 0 + (sumN n (fun i => f (i + 1)) + f (n + 1))
    rw [sumN_head f n]
    omega
theorem sumN_rev (f : Nat → Int) : ∀ n, sumN n f = sumN n fun i => f (n - 1 - i)
  | 0 => rfl
  | n + 1 => by
    rw [sumN_head fun i => f (n + 1 - 1 - i)]
    show sumN n f + f n = _
    rw [sumN_rev f n]
    have e0 : n + 1 - 1 - 0 = n := by omega
    have e1 : sumN n (fun i => f (n - 1 - i)) = sumN n fun i => f (n + 1 - 1 - (i + 1)) := sumN_congr fun i hi => by
      have : n - 1 - i = n + 1 - 1 - (i + 1) := by omega
      rw [this]
    rw [e0, e1]
    omega
theorem sumN_split (f : Nat → Int) (a : Nat) : ∀ b, sumN (a + b) f = sumN a f + sumN b fun i => f (a + i)
  | 0 => by simp [sumN]
  | b + 1 => by
    show sumN (a + b) f + f (a + b) = sumN a f + (sumN b (fun i => f (a + i)) + f (a + b))
    rw [sumN_split f a b]
    omega
theorem sumN_one {f : Nat → Int} {k : Nat} : ∀ {n : Nat}, k < n → (∀ i, i < n → i ≠ k → f i = 0) → sumN n f = f k
  | 0, h, _ => absurd h (Nat.not_lt_zero _)
  | n + 1, h, z => by
    show sumN n f + f n = f k
    by_cases e : k = n
    · subst e
      rw [sumN_zero fun i hi => z i (by omega) (by omega)]
      omega
    · rw [sumN_one (n := n) (by omega) fun i hi => z i (by omega), z n (by omega) (Ne.symm e)]
      omega
theorem sumN_tri (F : Nat → Nat → Int) : ∀ m, sumN (m + 1) (fun k => sumN (k + 1) fun i => F i k) = sumN (m + 1) fun i => sumN (m - i + 1) fun j => F i (i + j)
  | 0 => by simp [sumN]
  | m + 1 => by
    show sumN (m + 1) (fun k => sumN (k + 1) fun i => F i k) + sumN (m + 1 + 1) (fun i => F i (m + 1)) = _
    rw [sumN_tri F m]
    show _ = sumN (m + 1) (fun i => sumN (m + 1 - i + 1) fun j => F i (i + j)) + sumN (m + 1 - (m + 1) + 1) (fun j => F (m + 1) (m + 1 + j))
    have e1 : sumN (m + 1) (fun i => sumN (m + 1 - i + 1) fun j => F i (i + j)) = sumN (m + 1) (fun i => sumN (m - i + 1) (fun j => F i (i + j)) + F i (m + 1)) := sumN_congr fun i hi => by
      have h1 : m + 1 - i + 1 = (m - i + 1) + 1 := by omega
      rw [h1]
      show sumN (m - i + 1) _ + F i (i + (m - i + 1)) = _
      have h2 : i + (m - i + 1) = m + 1 := by omega
      rw [h2]
    rw [e1, sumN_add]
    have e2 : m + 1 - (m + 1) + 1 = 1 := by omega
    rw [e2]
    show _ + (sumN (m + 1) (fun i => F i (m + 1)) + F (m + 1) (m + 1)) = _ + (0 + F (m + 1) (m + 1 + 0))
    have e3 : m + 1 + 0 = m + 1 := by omega
    rw [e3]
    omega
def cv (a b : Nat → Int) (m : Nat) : Int := sumN (m + 1) fun i => a i * b (m - i)
theorem cv_congr {a a' b b' : Nat → Int} {m : Nat} (ha : ∀ i, i ≤ m → a i = a' i) (hb : ∀ i, i ≤ m → b i = b' i) : cv a b m = cv a' b' m := sumN_congr fun i hi => by rw [ha i (by omega), hb (m - i) (by omega)]
theorem cv_comm (a b : Nat → Int) (m : Nat) : cv a b m = cv b a m := by
  unfold cv
  rw [sumN_rev]
  refine sumN_congr fun i hi => ?_
  have e1 : m + 1 - 1 - i = m - i := by omega
  have e2 : m - (m - i) = i := by omega
  rw [e1, e2, Int.mul_comm]
theorem cv_assoc (a b c : Nat → Int) (m : Nat) : cv (cv a b) c m = cv a (cv b c) m := by
  have l : cv (cv a b) c m = sumN (m + 1) fun k => sumN (k + 1) fun i => a i * b (k - i) * c (m - k) := sumN_congr fun k _ => by
    show sumN (k + 1) (fun i => a i * b (k - i)) * c (m - k) = _
    rw [← sumN_mulR]
  rw [l, sumN_tri fun i k => a i * b (k - i) * c (m - k)]
  refine sumN_congr fun i hi => ?_
  show _ = a i * sumN (m - i + 1) fun j => b j * c (m - i - j)
  rw [← sumN_mul]
  refine sumN_congr fun j hj => ?_
  have e1 : i + j - i = j := by omega
  have e2 : m - (i + j) = m - i - j := by omega
  rw [e1, e2, Int.mul_assoc]
theorem cv_add (a b c : Nat → Int) (m : Nat) : cv (fun i => a i + b i) c m = cv a c m + cv b c m := by
  unfold cv
  rw [← sumN_add]
  exact sumN_congr fun i _ => Int.add_mul ..
theorem cv_addR (a b c : Nat → Int) (m : Nat) : cv a (fun i => b i + c i) m = cv a b m + cv a c m := by
  rw [cv_comm, cv_add, cv_comm b, cv_comm c]
theorem cv_zero (b : Nat → Int) (m : Nat) : cv (fun _ => 0) b m = 0 := sumN_zero fun i _ => Int.zero_mul _
theorem cv_unit {a b : Nat → Int} {c : Int} (h0 : a 0 = c) (hs : ∀ i, 0 < i → a i = 0) (m : Nat) : cv a b m = c * b m := by
  unfold cv
  rw [sumN_one (k := 0) (by omega) fun i _ hi => by rw [hs i (by omega), Int.zero_mul], h0, Nat.sub_zero]
theorem rowS_sum (f g : List Int) : ∀ (i m : Nat), i ≤ m + 1 → rowS f g i m = sumN i fun a => coef f a * coef g (m - a)
  | 0, m, _ => rfl
  | i + 1, m, h => by
    show rowS f g i m + _ = sumN i _ + _
    rw [rowS_sum f g i m (by omega), if_pos (by omega)]
theorem conv_cv (f g : List Int) (m : Nat) : conv f g m = cv (coef f) (coef g) m := by
  rw [conv_eq, rowS_sum f g (m + 1) m (Nat.le_refl _)]
  rfl
theorem cp (f g : List Int) (m : Nat) : coef (pmul f g) m = cv (coef f) (coef g) m := by rw [coef_pmul, conv_cv]
theorem cpf (f g : List Int) : coef (pmul f g) = cv (coef f) (coef g) := funext fun m => cp f g m
theorem caf (f g : List Int) : coef (padd f g) = fun m => coef f m + coef g m := funext fun m => coef_padd f g m
theorem ctf (f : List Int) : coef (trim f) = coef f := funext fun m => coef_trim f m
/-! ### put together by a key -/
def pjoin (key : List Int) : List (List Int) → List Int
  | [] => []
  | d :: r => padd (pmul (pjoin key r) key) d
theorem norm_pjoin (key : List Int) : ∀ ds, Norm (pjoin key ds)
  | [] => .inl rfl
  | _ :: _ => norm_padd _ _
/-- the law's way: from the lowest on -/
def jl (key : List Int) (found step : List Int) : List (List Int) → List Int
  | [] => found
  | d :: r => jl key (padd found (trim (pmul d step))) (trim (pmul step key)) r
theorem jl_eq (key : List Int) : ∀ (ds : List (List Int)) (found step : List Int) (m : Nat), coef (jl key found step ds) m = coef found m + cv (coef (pjoin key ds)) (coef step) m
  | [], found, step, m => by
    show coef found m = coef found m + cv (coef []) (coef step) m
    have e : cv (coef []) (coef step) m = 0 := sumN_zero fun i _ => by rw [coef_nil, Int.zero_mul]
    rw [e, Int.add_zero]
  | d :: r, found, step, m => by
    show coef (jl key (padd found (trim (pmul d step))) (trim (pmul step key)) r) m = coef found m + cv (coef (padd (pmul (pjoin key r) key) d)) (coef step) m
    rw [jl_eq key r, caf, caf, ctf, ctf, cpf, cpf, cpf, cv_add]
    have e1 : cv (coef (pjoin key r)) (cv (coef step) (coef key)) m = cv (cv (coef (pjoin key r)) (coef key)) (coef step) m := by
      rw [cv_assoc]
      exact cv_congr (fun _ _ => rfl) fun i _ => cv_comm _ _ i
    rw [e1]
    show coef found m + cv (coef d) (coef step) m + _ = _
    omega
theorem norm_jl (key : List Int) : ∀ (ds : List (List Int)) (found step : List Int), Norm found → Norm (jl key found step ds)
  | [], _, _, h => h
  | _ :: r, _, _, _ => norm_jl key r _ _ (norm_padd _ _)
theorem jl_pjoin (key : List Int) (ds : List (List Int)) : jl key [] [1] ds = pjoin key ds := by
  refine norm_ext (norm_jl key ds _ _ (.inl rfl)) (norm_pjoin key ds) fun m => ?_
  rw [jl_eq, coef_nil, Int.zero_add, cv_comm, cv_unit (c := 1) rfl fun i hi => coef_ge (by show 1 ≤ i; omega), Int.one_mul]
/-! ### digits -/
structure IsDig (key : List Int) (ds : List (List Int)) : Prop where
  nm : ∀ d ∈ ds, Norm d
  ln : ∀ d ∈ ds, d.length < key.length
  last : ds.getLast? ≠ some []
theorem IsDig.tail {key d : List Int} {ds : List (List Int)} (h : IsDig key (d :: ds)) : IsDig key ds := by
  refine ⟨fun x hx => h.nm x (List.mem_cons_of_mem _ hx), fun x hx => h.ln x (List.mem_cons_of_mem _ hx), fun z => h.last ?_⟩
  cases ds with
  | nil => simp at z
  | cons y r => simpa using z
theorem IsDig.cons {key d : List Int} {ds : List (List Int)} (h : IsDig key ds) (nd : Norm d) (ld : d.length < key.length) (hne : ds = [] → d ≠ []) : IsDig key (d :: ds) := by
  refine ⟨fun x hx => (List.mem_cons.mp hx).elim (fun z => z ▸ nd) (h.nm x), fun x hx => (List.mem_cons.mp hx).elim (fun z => z ▸ ld) (h.ln x), fun z => ?_⟩
  cases ds with
  | nil =>
    have : d = [] := by simpa using z
    exact hne rfl this
  | cons y r => exact h.last (by simpa using z)
theorem pjoin_eq (key d : List Int) (r : List (List Int)) (m : Nat) : coef (pjoin key (d :: r)) m = conv (pjoin key r) key m + coef d m := by
  show coef (padd (pmul (pjoin key r) key) d) m = _
  rw [coef_padd, coef_pmul]
theorem pjoin_nil {key : List Int} (hk : Monic key) : ∀ {ds : List (List Int)}, IsDig key ds → pjoin key ds = [] → ds = []
  | [], _, _ => rfl
  | d :: r, h, e => by
    exfalso
    have hkl : 0 < key.length := List.length_pos_iff.mpr hk.1
    have ld := h.ln d List.mem_cons_self
    have hr : pjoin key r = [] := by
      refine Classical.byContradiction fun hn => ?_
      have ct := conv_top hn hk.1
      have hl : 0 < (pjoin key r).length := List.length_pos_iff.mpr hn
      have c0 := pjoin_eq key d r ((pjoin key r).length + key.length - 2)
      rw [e, coef_nil, ct, hk.2, Int.mul_one, coef_ge (f := d) (by omega), Int.add_zero] at c0
      exact (norm_pjoin key r).last hn c0.symm
    have hrn := pjoin_nil hk h.tail hr
    subst hrn
    have hd : d = [] := norm_ext (h.nm d List.mem_cons_self) (.inl rfl) fun m => by
      have c0 := pjoin_eq key d [] m
      rw [e, coef_nil] at c0
      have : conv (pjoin key []) key m = 0 := rfl
      rw [this] at c0
      rw [coef_nil]
      omega
    exact h.last (by rw [hd]; rfl)
theorem dig_uniq {key : List Int} (hk : Monic key) : ∀ {ds es : List (List Int)}, IsDig key ds → IsDig key es → pjoin key ds = pjoin key es → ds = es
  | [], es, _, he, e => (pjoin_nil hk he e.symm).symm
  | d :: r, [], hd, _, e => absurd (pjoin_nil hk hd e) (by simp)
  | d :: r, x :: s, hd, he, e => by
    have hkl : 0 < key.length := List.length_pos_iff.mpr hk.1
    have a : ∀ m, conv (pjoin key r) key m + coef d m = conv (pjoin key s) key m + coef x m := fun m => by rw [← pjoin_eq, ← pjoin_eq, e]
    -- the difference of both quotients
    have hu : ∀ m, coef (addc (pjoin key r) ((pjoin key s).map fun x => -1 * x)) m = coef (pjoin key r) m + (-1) * coef (pjoin key s) m := fun m => by rw [coef_addc, coef_map (by decide)]
    have hz : trim (addc (pjoin key r) ((pjoin key s).map fun x => -1 * x)) = [] := by
      refine Classical.byContradiction fun hn => ?_
      have ct := conv_top (f := trim (addc (pjoin key r) ((pjoin key s).map fun x => -1 * x))) hn hk.1
      have hl : 0 < (trim (addc (pjoin key r) ((pjoin key s).map fun x => -1 * x))).length := List.length_pos_iff.mpr hn
      rw [conv_congr (f' := addc (pjoin key r) ((pjoin key s).map fun x => -1 * x)) (g' := key) (fun a => coef_trim _ a) (fun _ => rfl), conv_lin (c := -1) hu, hk.2, Int.mul_one] at ct
      have a1 := a ((trim (addc (pjoin key r) ((pjoin key s).map fun x => -1 * x))).length + key.length - 2)
      have l1 := hd.ln d List.mem_cons_self
      have l2 := he.ln x List.mem_cons_self
      rw [coef_ge (f := d) (by omega), coef_ge (f := x) (by omega)] at a1
      exact (norm_trim _).last hn (by omega)
    have hq : pjoin key r = pjoin key s := norm_ext (norm_pjoin key r) (norm_pjoin key s) fun m => by
      have h1 := hu m
      rw [← coef_trim, hz, coef_nil] at h1
      omega
    have hx : d = x := norm_ext (hd.nm d List.mem_cons_self) (he.nm x List.mem_cons_self) fun m => by
      have := a m
      rw [hq] at this
      omega
    rw [hx, dig_uniq hk hd.tail he.tail hq]
end L2

set_option Elab.async false
set_option linter.all false
set_option maxRecDepth 100000
namespace L2
open PySem PySem.Spec PyProof.Rows
/-! ## lists of lists of whole numbers -/
abbrev LP := Addr × List Int
abbrev lrefs (ts : List LP) : List V := ts.map fun t => V.ref t.1
abbrev lvals (ts : List LP) : List (List Int) := ts.map fun t => t.2
structure LLs (H : Hp) (p : Addr) (ts : List LP) : Prop where
  top : H p = some (.lst (lrefs ts))
  it : ∀ t ∈ ts, H t.1 = some (.lst (t.2.map V.int))
theorem LLs.same {H H' : Hp} {p : Addr} {ts : List LP} (h : LLs H p ts) (g : Same H H') : LLs H' p ts := ⟨g _ _ h.top, fun t ht => g _ _ (h.it t ht)⟩
theorem LLs.snoc {H : Hp} {p : Addr} {ts : List LP} {t : LP} (h : LLs H p ts) (hp : ∀ t ∈ ts, t.1 ≠ p) (ht : H t.1 = some (.lst (t.2.map V.int))) (hn : t.1 ≠ p) : LLs (upd H p (.lst (lrefs ts ++ [.ref t.1]))) p (ts ++ [t]) := by
  refine ⟨?_, fun x hx => ?_⟩
  · rw [upd_same]; simp [lrefs]
  · rcases List.mem_append.mp hx with z | z
    · rw [upd_ne (hp x z)]; exact h.it x z
    · have : x = t := by simpa using z
      subst this
      rw [upd_ne hn]; exact ht
abbrev dLL (ls : List (List Int)) : PyData := .list (ls.map dI)
theorem fl_ll (ls : List (List Int)) : Fl 2 (dLL ls) := .lst fun d hd => by
  obtain ⟨i, _, rfl⟩ := List.mem_map.mp hd
  exact fl_ints i
theorem dLL_inj {a b : List (List Int)} (h : dLL a = dLL b) : a = b := by
  have h' : a.map dI = b.map dI := PyData.list.inj h
  induction a generalizing b with
  | nil =>
    cases b with
    | nil => rfl
    | cons _ _ => simp at h'
  | cons x a ih =>
    cases b with
    | nil => simp at h'
    | cons y b =>
      have h2 : dI x = dI y ∧ a.map dI = b.map dI := List.cons.inj h'
      rw [dI_inj h2.1, ih (congrArg PyData.list h2.2) h2.2]
theorem eqv_ll (a b : List (List Int)) : PyData.eqv (dLL a) (dLL b) = decide (a = b) := by
  rw [eqv_dec (fl_ll a) (fl_ll b)]
  by_cases h : a = b
  · rw [decide_eq_true h, decide_eq_true (congrArg dLL h)]
  · rw [decide_eq_false h, decide_eq_false fun z => h (dLL_inj z)]
theorem den_ll {K : PySem.W.Frag} {H : Hp} {p : Addr} {ts : List LP} (ht : SqL K H p (lrefs ts)) (hi : ∀ t ∈ ts, SqL K H t.1 (t.2.map V.int)) : Den K H (.ref p) (dLL (lvals ts)) := by
  refine .lst ht (by simp) fun i x d h1 h2 => ?_
  rw [List.getElem?_map] at h1 h2
  cases e : ts[i]? with
  | none => rw [e] at h1; cases h1
  | some t =>
    rw [e] at h1
    rw [List.getElem?_map, e] at h2
    have hm : t ∈ ts := List.mem_of_getElem? e
    cases h1
    cases h2
    exact den_lst (hi t hm) (scalDs_ints _)
theorem LLs.den {K : PySem.W.Frag} {H : Hp} {p : Addr} {ts : List LP} (h : LLs H p ts) : Den K H (.ref p) (dLL (lvals ts)) := den_ll (SqL.of h.top) fun t ht => SqL.of (h.it t ht)
theorem LLs.sql {K : PySem.W.Frag} {H : Hp} {p : Addr} {ts : List LP} (h : LLs H p ts) : SqL K H p (lrefs ts) := SqL.of h.top
theorem LLs.its {K : PySem.W.Frag} {H : Hp} {p : Addr} {ts : List LP} (h : LLs H p ts) : ∀ t ∈ ts, SqL K H t.1 (t.2.map V.int) := fun t ht => SqL.of (h.it t ht)
theorem eqLL {K : PySem.W.Frag} {H : Hp} {x y : V} {a b : List (List Int)} {Q : VK} (hx : Den K H x (dLL a)) (hy : Den K H y (dLL b)) (q : Q (.bl (decide (a = b))) H) : rEqD K false x y H Q :=
  ⟨_, _, hx, hy, (fl_ll _).shaped (by decide), (fl_ll _).shaped (by decide), by show Q (.bl (PyData.eqv (dLL a) (dLL b))) H; rw [eqv_ll]; exact q⟩
theorem neLL {K : PySem.W.Frag} {H : Hp} {x y : V} {a b : List (List Int)} {Q : VK} (hx : Den K H x (dLL a)) (hy : Den K H y (dLL b)) (q : Q (.bl (!decide (a = b))) H) : rEqD K true x y H Q :=
  ⟨_, _, hx, hy, (fl_ll _).shaped (by decide), (fl_ll _).shaped (by decide), by show Q (.bl (!PyData.eqv (dLL a) (dLL b))) H; rw [eqv_ll]; exact q⟩
theorem den_nilLL {K : PySem.W.Frag} {H : Hp} {p : Addr} (h : SqL K H p []) : Den K H (.ref p) (dLL []) := .lst h rfl fun i x d h1 _ => by simp at h1
theorem lrefs_get {ts : List LP} {i : Nat} {x : V} (h : (lrefs ts)[i]? = some x) : ∃ hi : i < ts.length, x = .ref ts[i].1 := by
  rw [List.getElem?_map] at h
  cases e : ts[i]? with
  | none => rw [e] at h; cases h
  | some t =>
    rw [e] at h
    obtain ⟨hi, e2⟩ := List.getElem?_eq_some_iff.mp e
    subst e2
    exact ⟨hi, (Option.some.inj h).symm⟩
theorem atI_lneg1 {ts : List LP} (h : ts ≠ []) : atI (lrefs ts) (-1) = some (.ref (ts.getLast h).1) := by
  have hl : 0 < ts.length := List.length_pos_iff.mpr h
  unfold atI ixN
  rw [if_neg (by decide), if_pos (by rw [List.length_map]; omega), List.length_map]
  have e : (-1 + (ts.length : Int)).toNat = ts.length - 1 := by omega
  show (lrefs ts)[(-1 + (ts.length : Int)).toNat]? = _
  rw [e, List.getElem?_map, List.getElem?_eq_getElem (by omega), List.getLast_eq_getElem]
  rfl
/-- a copy of a list, as a value of any context -/
def rListOf (K : PySem.W.Frag) : List V → Hp → VK → Prop := fun xs H Q => ∃ p ys, xs = [.ref p] ∧ (SqL K H p ys ∨ SqT K H p ys) ∧ ∀ l, H l = none → Q (.ref l) (upd H l (.lst ys))
theorem callK_list {X : Cx} {K : PySem.W.Frag} (h : X.K = K) : CallR X (.type "list") (rListOf K) := by subst h; exact call_list_of
def rTupOf (K : PySem.W.Frag) : List V → Hp → VK → Prop := fun xs H Q => ∃ p ys, xs = [.ref p] ∧ ((SqL K H p ys ∧ ∀ l, H l = none → Q (.ref l) (upd H l (.tup ys))) ∨ (SqT K H p ys ∧ Q (.ref p) H))
theorem callK_tuple {X : Cx} {K : PySem.W.Frag} (h : X.K = K) : CallR X (.type "tuple") (rTupOf K) := by subst h; exact call_tuple_of
end L2

set_option Elab.async false
set_option linter.all false
set_option maxRecDepth 100000
namespace L2
open PySem PySem.Spec PyProof.Rows
/-! ## max of a list of whole numbers; min of one with a value for none -/
theorem ints_items : ∀ {ns : List Int} {us : List Value}, Vals (ns.map V.int) us → ∃ xs : Array (Int × Tok), us.toArray = intItems xs ∧ xs.toList.map (·.1) = ns
  | [], _, .nil => ⟨#[], by simp [intItems], rfl⟩
  | n :: ns, _, .cons r rr => by
    obtain ⟨t, rfl⟩ := (show ∃ t, _ = Value.int n t from r)
    obtain ⟨xs, e1, e2⟩ := ints_items rr
    refine ⟨((n, t) :: xs.toList).toArray, ?_, by simp [e2]⟩
    have e3 := congrArg Array.toList e1
    apply Array.toList_inj.mp
    simp only [intItems, Array.toList_map] at e3 ⊢
    simp [e3]
theorem numAt_coef {xs : Array (Int × Tok)} {ns : List Int} (h : xs.toList.map (·.1) = ns) (i : Nat) : numAt xs i = coef ns i := by
  unfold numAt coef
  rw [← h, List.getD_eq_getElem?_getD, List.getElem?_map]
  simp
section
variable {X : Cx}
def rMaxL (K : PySem.W.Frag) : List V → Hp → VK → Prop := fun xs H Q => ∃ p, ∃ ns : List Int, xs = [.ref p] ∧ SqL K H p (ns.map V.int) ∧ ns ≠ [] ∧ ∀ M, M ∈ ns → (∀ a ∈ ns, a ≤ M) → Q (.int M) H
theorem call_maxL (hc : X.calm = true) : CallR X (.builtin "max") (rMaxL X.K) := by
  intro pins s σ H xs us Q I rv h
  obtain ⟨p, ns, rfl, hq, hne, q⟩ := h
  obtain ⟨u, rfl, ru⟩ := vals1 rv
  cases (show u = Value.ref p from ru)
  obtain ⟨its, r, hp, _⟩ := I.list hq
  obtain ⟨ys, e1, e2⟩ := ints_items r
  have hl := hp.isList
  rw [e1] at hl
  have hsz : ys.size = ns.length := by rw [← e2]; simp
  have hpos : 0 < ns.length := List.length_pos_iff.mpr hne
  refine max_intList (I.ok.hd hc) hl (by omega) fun v h' tk hv hk => ?_
  obtain ⟨t, rfl⟩ := intItems_at hv
  obtain ⟨h1, h2⟩ := argBest_gt (numAt ys) (ys.size - 1)
  refine ⟨.int _, H, I.kept (h' := h') (t' := tk) hk, ⟨t, rfl⟩, q _ ?_ fun a ha => ?_⟩
  · rw [numAt_coef e2, coef_lt (by omega)]; exact List.getElem_mem _
  · obtain ⟨j, hj, rfl⟩ := List.getElem_of_mem ha
    have := h2 j (by omega)
    rw [numAt_coef e2, coef_lt hj] at this
    exact this
theorem callK_maxL {K : PySem.W.Frag} (h : X.K = K) (hc : X.calm = true) : CallR X (.builtin "max") (rMaxL K) := by subst h; exact call_maxL hc
end
/-! ### a built-in called with keywords -/
section
variable {X : Cx} {x : Str} {id : String} {p pos : Pos} {e : Expr} {es : List Expr} {kws : List Keyword} {t tk : TA} {ks : List Str}
def CallKR (X : Cx) (f : Value) (ks : List Str) (r : List V → List V → Hp → VK → Prop) : Prop :=
  ∀ (pins : List (Addr × Obj)) (s : Shared) (σ : St) (H : Hp) (xs ys : List V) (us ws : List Value) (Q : VK), Inv X pins σ H s → Vals xs us → Vals ys ws → r xs ys H Q → wpAny (model X.prog X.w) X.A (call f us (ks.zip ws)) (EP X pins σ Q) X.xe s
def tCBK (r : List V → List V → Hp → VK → Prop) (t tk : TA) : TE := fun σ H Q => t σ H fun vs H1 => tk σ H1 fun ws H2 => r vs ws H2 Q
theorem pe_callBk {r : List V → List V → Hp → VK → Prop} (hc : CallKR X (.builtin id) ks r) (hg : Gl X x) (hm : X.mg x = none) (hv : bootBuiltins x = some (.builtin id)) (ha : PA X (e :: es) t) (hk : PK X kws tk)
    (hks : (backToKw pos (keywordEach kws X.env)).filterMap (·.1) = ks := by rfl)
    (hn : x ≠ "__name__" := by decide) (hdb : (x == ("__debug__" : Str)) = false := by decide)
    (he : backTo pos (starEach (e :: es) X.env) = (false, eval e X.env) :: backTo pos (starEach es X.env) := by rfl)
    (hplain : (backTo pos (starEach (e :: es) X.env)).any (·.1) = false := by rfl)
    (hall : (backToKw pos (keywordEach kws X.env)).all (·.1.isSome) = true := by rfl)
    (hkw : (backToKw pos (keywordEach kws X.env)).any (·.1.isNone) = false := by rfl) : PE X (.Call (.Name x p) (e :: es) kws pos) (tCBK r t tk) := by
  refine ⟨?_⟩
  intro pins s σ H Q I h
  refine wpAny_Call_Name_kw (ld_blt I hg hm hv ?_ hn hdb)
  refine callWith_builtin_kwB hplain hkw ?_
  have hb := ha pos pins s σ H _ I h
  rw [he] at hb ⊢
  refine evalArgs_kwB hall (thn hb fun us s1 ⟨vs, H1, I1, r1, q1⟩ => ?_)
  refine thn (hk pos pins s1 σ H1 _ I1 q1) fun ws s2 ⟨ys, H2, I2, r2, q2⟩ => ?_
  rw [hks]
  exact hc pins s2 σ H2 vs ys us ws Q I2 r1 r2 q2
end
/-! ### min(.., default=d) -/
section
variable {prog : Program} {w : World} {A : Around} {R : Result → Shared → Prop} {J : Addr} {fp wr : List Addr} {n : Nat} {P : Nat → Value → Prop} {St : Nat → Heap → Prop}
theorem minD_turns (W : Walks prog w A.in1 J fp wr n P St) (bt : Nat → Nat → Bool) (hcmp : CmpOf prog w A.in1 .Lt P bt) (S : Addr) (hSf : S ∉ fp) (kw : List (Str × Value)) :
    ∀ (k j : Nat) (s : Shared) (vb : Value) (c : Nat), n - (j + 1) = k → j + 1 ≤ n → St (j + 1) s.heap → P (argBest bt j) vb →
    s.heap.get? S = some { cls := .type "list", dict := none, data := .seq #[vb, vb] c, slots := #[] } →
    (∀ v h' tk, P (argBest bt (n - 1)) v → (∀ b o, b ∉ wr → b ≠ S → s.heap.get? b = some o → h'.get? b = some o) → R (.ok (.ret v)) { s with heap := h', toks := tk }) →
    codeAny (model prog w) A (.builtin "min.loop" ⟨[.ref J, .none, .ref S], kw⟩) R s := by
  have hSw : S ∉ wr := fun h => hSf (W.sub _ h)
  have nm : (toString "min" ++ toString ".loop" : String) = "min.loop" := by decide
  intro k
  induction k with
  | zero =>
    intro j s vb c hk hj hst hPb hS hR
    have hin : j + 1 = n := by omega
    refine codeAny_builtin PySem.F.entry_min_loop ?_
    rw [Around.under_plainId PySem.F.plain_min_loop _]
    show wpAny _ A.in1 (seqItems? (.ref S) >>= _) _ _ s
    refine wpAny_bind (wpAny_seqItems hS rfl ?_)
    show wpAny _ A.in1 (tryCatch (pyNext (.ref J)) _ >>= _) _ _ s
    refine wpAny_bind (wpAny_tryCatch (W.done s _ _ (hin ▸ hst) fun h' tk kk => ?_))
    have hS' := kk S _ hSw hS
    show wpAny _ A.in1 (updateSeq S (fun _ => #[]) >>= _) _ _ _
    refine wpAny_bind (wpAny_updateSeq hS' rfl (wpAny_bind (wpAny_letGo (wpAny_pure ?_))))
    exact hR vb _ tk (by rw [← hin]; exact hPb) fun b o hbw hbS e => (Heap.get?_update_other _ _ (Ne.symm hbS)).trans (kk b o hbw e)
  | succ k ih =>
    intro j s vb c hk hj hst hPb hS hR
    refine codeAny_builtin PySem.F.entry_min_loop ?_
    rw [Around.under_plainId PySem.F.plain_min_loop _]
    show wpAny _ A.in1 (seqItems? (.ref S) >>= _) _ _ s
    refine wpAny_bind (wpAny_seqItems hS rfl ?_)
    show wpAny _ A.in1 (tryCatch (pyNext (.ref J)) _ >>= _) _ _ s
    refine wpAny_bind (wpAny_tryCatch (W.item (j + 1) s _ _ (by omega) hst fun v h' tk hP hst' kk => ?_))
    have hS' := kk S _ hSw hS
    show wpAny _ A.in1 (tryCatch (holding [v, v] (richCompare .Lt v vb >>= _)) _ >>= _) _ _ _
    refine wpAny_bind (wpAny_tryCatch (wpAny_holding (wpAny_bind (hcmp (j + 1) (argBest bt j) v vb _ _ _ hP hPb ?_))))
    refine wpAny_bind (wpAny_holding (wpAny_truthy_bool (wpAny_bind (wpAny_letGo (wpAny_pure ?_)))))
    cases hb : bt (j + 1) (argBest bt j) with
    | true =>
      simp only [if_true]
      refine wpAny_bind (wpAny_updateSeq hS' rfl (wpAny_bind (wpAny_letGo ?_)))
      rw [nm]
      refine wpAny_pure ⟨plainId_quiet PySem.F.plain_min_loop _, ih (j + 1) _ v _ (by omega) (by omega) (W.frame _ _ _ hst' fun b hbf o e => ?_) (by simp only [argBest, hb, if_true]; exact hP) (Heap.get?_update_self _ hS' rfl) fun v2 h2 tk2 hP2 kk2 => ?_⟩
      · exact (Heap.get?_update_other _ _ (fun h : S = b => hSf (by rw [h]; exact hbf))).trans e
      · exact hR v2 h2 tk2 hP2 fun b o hbw hbS e => kk2 b o hbw hbS ((Heap.get?_update_other _ _ (Ne.symm hbS)).trans (kk b o hbw e))
    | false =>
      simp only [Bool.false_eq_true, if_false]
      refine wpAny_bind (wpAny_letGo ?_)
      rw [nm]
      refine wpAny_pure ⟨plainId_quiet PySem.F.plain_min_loop _, ih (j + 1) _ vb c (by omega) (by omega) hst' (by simp only [argBest, hb, Bool.false_eq_true, if_false]; exact hPb) hS' fun v2 h2 tk2 hP2 kk2 => ?_⟩
      exact hR v2 h2 tk2 hP2 fun b o hbw hbS e => kk2 b o hbw hbS (kk b o hbw e)
theorem minD_first (W : Walks prog w A.in1 J fp wr n P St) (bt : Nat → Nat → Bool) (hcmp : CmpOf prog w A.in1 .Lt P bt) (S : Addr) (hSf : S ∉ fp) (hn : 0 < n) (kw : List (Str × Value)) {s : Shared} {c : Nat} (hst : St 0 s.heap)
    (hS : s.heap.get? S = some { cls := .type "list", dict := none, data := .seq #[] c, slots := #[] })
    (hR : ∀ v h' tk, P (argBest bt (n - 1)) v → (∀ b o, b ∉ wr → b ≠ S → s.heap.get? b = some o → h'.get? b = some o) → R (.ok (.ret v)) { s with heap := h', toks := tk }) :
    codeAny (model prog w) A (.builtin "min.loop" ⟨[.ref J, .none, .ref S], kw⟩) R s := by
  have hSw : S ∉ wr := fun h => hSf (W.sub _ h)
  have nm : (toString "min" ++ toString ".loop" : String) = "min.loop" := by decide
  refine codeAny_builtin PySem.F.entry_min_loop ?_
  rw [Around.under_plainId PySem.F.plain_min_loop _]
  show wpAny _ A.in1 (seqItems? (.ref S) >>= _) _ _ s
  refine wpAny_bind (wpAny_seqItems hS rfl ?_)
  show wpAny _ A.in1 (tryCatch (pyNext (.ref J)) _ >>= _) _ _ s
  refine wpAny_bind (wpAny_tryCatch (W.item 0 s _ _ hn hst fun v h' tk hP hst' kk => ?_))
  have hS' := kk S _ hSw hS
  show wpAny _ A.in1 (updateSeq S (fun _ => #[v, v]) >>= _) _ _ _
  refine wpAny_bind (wpAny_updateSeq hS' rfl ?_)
  rw [nm]
  refine wpAny_pure ⟨plainId_quiet PySem.F.plain_min_loop _, minD_turns W bt hcmp S hSf kw _ 0 _ v _ rfl hn (W.frame _ _ _ hst' fun b hbf o e => ?_) hP (Heap.get?_update_self _ hS' rfl) fun v2 h2 tk2 hP2 kk2 => ?_⟩
  · exact (Heap.get?_update_other _ _ (fun h : S = b => hSf (by rw [h]; exact hbf))).trans e
  · exact hR v2 h2 tk2 hP2 fun b o hbw hbS e => kk2 b o hbw hbS ((Heap.get?_update_other _ _ (Ne.symm hbS)).trans (kk b o hbw e))
theorem minD_none (W : Walks prog w A.in1 J fp wr 0 P St) (S : Addr) (hSf : S ∉ fp) {d : Value} {s : Shared} {c : Nat} (hst : St 0 s.heap) (hS : s.heap.get? S = some { cls := .type "list", dict := none, data := .seq #[] c, slots := #[] })
    (hR : ∀ h' tk, (∀ b o, b ∉ wr → s.heap.get? b = some o → h'.get? b = some o) → R (.ok (.ret d)) { s with heap := h', toks := tk }) :
    codeAny (model prog w) A (.builtin "min.loop" ⟨[.ref J, .none, .ref S], [(Str.ofString "default", d)]⟩) R s := by
  refine codeAny_builtin PySem.F.entry_min_loop ?_
  rw [Around.under_plainId PySem.F.plain_min_loop _]
  show wpAny _ A.in1 (seqItems? (.ref S) >>= _) _ _ s
  refine wpAny_bind (wpAny_seqItems hS rfl ?_)
  show wpAny _ A.in1 (tryCatch (pyNext (.ref J)) _ >>= _) _ _ s
  refine wpAny_bind (wpAny_tryCatch (W.done s _ _ hst fun h' tk kk => ?_))
  refine wpAny_bind (wpAny_rule (wpAny_pure ?_))
  exact hR h' tk kk
end
theorem args_minD (a v : Value) : argsOk "min" ⟨[a], [(Str.ofString "default", v)]⟩ := by unfold argsOk; kernel_rfl
section
variable {X : Cx}
def rMinD (K : PySem.W.Frag) : List V → List V → Hp → VK → Prop := fun xs ys H Q => ∃ p d, ∃ ns : List Int, xs = [.ref p] ∧ ys = [d] ∧ SqL K H p (ns.map V.int) ∧ (ns = [] → Q d H) ∧ (ns ≠ [] → ∀ M, M ∈ ns → (∀ a ∈ ns, M ≤ a) → Q (.int M) H)
theorem call_minD (hc : X.calm = true) : CallKR X (.builtin "min") ["default"] (rMinD X.K) := by
  intro pins s σ H xs ys us ws Q I rv rw' h
  obtain ⟨p, d, ns, rfl, rfl, hq, q0, q1⟩ := h
  obtain ⟨u, rfl, ru⟩ := vals1 rv
  obtain ⟨dv, rfl, rd⟩ := vals1 rw'
  cases (show u = Value.ref p from ru)
  obtain ⟨its, r, hp, _⟩ := I.list hq
  obtain ⟨zs, e1, e2⟩ := ints_items r
  have hl := hp.isList
  rw [e1] at hl
  have hsz : zs.size = ns.length := by rw [← e2]; simp
  have hlt : p < s.heap.objs.size := by obtain ⟨_, e, _⟩ := hl; exact Heap.lt_size e
  have nm : (toString "min" ++ toString ".loop" : String) = "min.loop" := by decide
  show wpAny _ _ (call (.builtin "min") [.ref p] [(Str.ofString "default", dv)]) _ _ _
  refine PyProof.Rows.kmk_tree PySem.F.kind_min PySem.F.plain_min PySem.F.entry_min (args_minD _ _) ?_
  show wpAny _ X.A.in1 (Builtin.Builtins.bindParams "min" ["key", "default"] 0 ⟨[], [(Str.ofString "default", dv)]⟩ >>= _) _ _ s
  refine wpAny_bind (wpAny_of_eq (show Builtin.Builtins.bindParams "min" ["key", "default"] 0 ⟨[], [(Str.ofString "default", dv)]⟩ = pure [none, some dv] from rfl) (wpAny_bind (wpAny_pure ?_)))
  refine wpAny_bind (iter_intList hl fun s2 e st hfp hlI => ?_)
  subst e
  refine wpAny_bind (wpAny_newList ?_ (Nat.zero_le _))
  rw [nm]
  have W := Walks.list (prog := X.prog) (w := X.w) (A := X.A.in1) (I.ok.hd hc) s.heap.objs.size p hlI (intItems zs)
  have isz : (intItems zs).size = ns.length := by simp [intItems, hsz]
  rw [isz] at W
  have hSf : (s.heap.push { cls := .type "list_iterator", data := .fields #[.ref p, .int 0 0] }).objs.size ∉ [s.heap.objs.size, p] := fun hm => Nat.lt_irrefl _ (hfp _ hm)
  have hst := W.frame 0 _ ((s.heap.push { cls := .type "list_iterator", data := .fields #[.ref p, .int 0 0] }).push { cls := .type "list", data := .seq ([] : List Value).toArray }) st fun b _ o e => Heap.get?_push_of_some _ e
  have hkeep : ∀ {h' : Heap}, (∀ b o, b ∉ [s.heap.objs.size] → b ≠ (s.heap.push { cls := .type "list_iterator", data := .fields #[.ref p, .int 0 0] }).objs.size → ((s.heap.push { cls := .type "list_iterator", data := .fields #[.ref p, .int 0 0] }).push { cls := .type "list", data := .seq ([] : List Value).toArray }).get? b = some o → h'.get? b = some o) → ∀ b o, s.heap.get? b = some o → h'.get? b = some o := fun {h'} k b o e => by
    have hb := Heap.lt_size e
    refine k b o (fun hm => ?_) (fun z => ?_) (Heap.get?_push_of_some _ (Heap.get?_push_of_some _ e))
    · rw [List.mem_singleton.mp hm] at hb; exact Nat.lt_irrefl _ hb
    · rw [Heap.size_push] at z; rw [z] at hb; exact absurd hb (Nat.not_lt.mpr (Nat.le_succ _))
  by_cases hn : ns = []
  · have h0 : ns.length = 0 := by rw [hn]; rfl
    rw [h0] at W
    refine wpAny_pure ⟨plainId_quiet PySem.F.plain_min_loop _, minD_none (d := dv) W _ hSf hst (Heap.get?_push_size _ rfl) fun h' tk kk => ?_⟩
    exact ⟨d, H, I.kept (h' := h') (t' := tk) (hkeep fun b o h1 _ e => kk b o h1 e), rd, q0 hn⟩
  · have hpos : 0 < ns.length := List.length_pos_iff.mpr hn
    refine wpAny_pure ⟨plainId_quiet PySem.F.plain_min_loop _, minD_first W _ (CmpOf.ints_lt (numAt zs) fun _ _ h => intItems_at h) _ hSf hpos _ hst (Heap.get?_push_size _ rfl) fun v h' tk hP kk => ?_⟩
    obtain ⟨t, rfl⟩ := intItems_at hP
    obtain ⟨h1, h2⟩ := argBest_lt (numAt zs) (ns.length - 1)
    refine ⟨.int _, H, I.kept (h' := h') (t' := tk) (hkeep fun b o h1 h2 e => kk b o h1 h2 e), ⟨t, rfl⟩, q1 hn _ ?_ fun a ha => ?_⟩
    · rw [numAt_coef e2, coef_lt (by omega)]; exact List.getElem_mem _
    · obtain ⟨j, hj, rfl⟩ := List.getElem_of_mem ha
      have := h2 j (by omega)
      rw [numAt_coef e2 j, coef_lt hj] at this
      exact this
theorem callK_minD {K : PySem.W.Frag} (h : X.K = K) (hc : X.calm = true) : CallKR X (.builtin "min") ["default"] (rMinD K) := by subst h; exact call_minD hc
end
end L2

/-! enumerate(.., start=..) and range with a step -/
set_option Elab.async false
set_option linter.all false
set_option maxRecDepth 100000
set_option maxHeartbeats 1000000
namespace L2
open PySem PySem.Spec PyProof.Rows
open AutoSeq1 (wpAny_loadPart')
section
variable {prog : Program} {w : World} {A : Around} {E : Value → Shared → Prop} {s : Shared}
theorem callType_kw {T newId initId : String} {Bn Bi : Builtin} {args : List Value} {kw : List (Str × Value)} {S : PySem.Spec} {Q Q₁ : Value → Shared → Prop} (ft : TypeCalled T newId initId)
    (hct : checkTypeCall T ⟨args, kw⟩ = pure ()) (hcn : checkBuiltinCall newId ⟨.type T :: args, kw⟩ = pure ())
    (entryN : entryFor table newId = some Bn) (entryI : entryFor table initId = some Bi) (g : Meets (Bn ⟨.type T :: args, kw⟩) S)
    (h : S A.in1 (wants Q₁ E) s)
    (hnext : ∀ obj s₁, Q₁ obj s₁ → s₁.TypeIs obj T ∧ argsOk initId ⟨obj :: args, kw⟩ ∧ ∃ Si, Meets (Bi ⟨obj :: args, kw⟩) Si ∧ Si A.in1 (wants (fun r s₂ => r = .none ∧ Q obj s₂) E) s₁) :
    wpAny (model prog w) A (call (.type T) args kw) Q E s := by
  obtain ⟨c, tl, hmro⟩ := ft.mro
  have hmade := ft.made
  have hsub := ft.sub
  refine wpAny_call (codeAny_of_tree ?_)
  show wpAny _ _ (callAny (.type T) _) _ _ _
  refine wpAny_pure ⟨Code.quiet_builtin _ (by decide +kernel), codeAny_builtin PySem.F.entry_type_call ?_⟩
  rw [Around.under_plain (weight_type_call_type T args kw) (units_type_call_type T args kw)]
  have h1 := ft.notType
  have h2 := ft.canCreate
  repeat (any_goals (first | assumption | wp_step))
  refine codeAny_mono (codeAny_call_builtin ft.plain entryN (wpAny_of_eq hcn (g prog w A.in1 _ s h))) fun r s₁ hr => ?_
  cases r with
  | error e => exact hr
  | ok fl =>
    cases fl with
    | ret obj =>
      obtain ⟨hT, hok, Si, gi, hsi⟩ := hnext _ _ hr
      have hli := ft.init.lookup
      have hbi := ft.init.bind obj
      repeat (any_goals (first | assumption | wp_step))
      refine codeAny_mono (codeAny_call_builtin ft.init.plain entryI (ft.init.check _ _ _ _ _ _ _ _ hT hok (gi prog w A.in1 _ s₁ hsi))) fun r₂ s₂ hr₂ => ?_
      cases r₂ with
      | error e => exact hr₂
      | ok fl₂ =>
        cases fl₂ with
        | ret r =>
          obtain ⟨rfl, hq⟩ := hr₂
          repeat (any_goals (first | assumption | wp_step))
        | _ => exact hr₂.elim
    | _ => exact hr.elim
theorem object_init_kw {T newId : String} {self : Value} {rest : List Value} {kw : List (Str × Value)} (hl : typeLookup (.type T) "__init__" = pure (some (.builtin "object.__init__")))
    (hm : Bind.madeBy (.type T) = pure (some newId)) (hne : (some newId != some "object.__new__") = true) (hr : rest ≠ []) :
    Meets (Builtin.«object.__init__» ⟨self :: rest, kw⟩) (fun _ R s => s.TypeIs self T ∧ R (.ok (.ret .none)) s) := by
  refine Meets.of_wp fun prog w A R s hs => ?_
  obtain ⟨hT, hq⟩ := hs
  cases rest with
  | nil => exact absurd rfl hr
  | cons a rest =>
    repeat (any_goals (first | assumption | wp_step))
    exact ⟨_, rfl, hq⟩
theorem typeCall_enumS (a b : Value) : checkTypeCall "enumerate" ⟨[a], [(Str.ofString "start", b)]⟩ = pure () := by kernel_rfl
theorem newCall_enumS (a b : Value) : checkBuiltinCall "enumerate.__new__" ⟨[.type "enumerate", a], [(Str.ofString "start", b)]⟩ = pure () := by kernel_rfl
theorem init_enumS (obj a b : Value) : argsOk "object.__init__" ⟨[obj, a], [(Str.ofString "start", b)]⟩ := by
  unfold argsOk; rw [signature?_of (id := "object.__init__") (n := ['_', '_', 't', 'i', 'n', 'i', '_', '_']) (o := ['t', 'c', 'e', 'j', 'b', 'o']) (by kernel_rfl) PySem.F.owner_object]; kernel_rfl
theorem meets_enumS (l : Addr) (items : Array Value) (n : Nat) (dct : Option Addr) (sl : Array (Option Value)) (st : Int) (t : Tok) (hf : Builtin.SmallTypes.fitsIndex st = true) :
    Meets (Builtin.«enumerate.__new__» ⟨[.type "enumerate", .ref l], [(Str.ofString "start", .int st t)]⟩) (fun _ R s => s.heap.get? l = some { cls := .type "list", dict := dct, data := .seq items n, slots := sl } ∧
      R (.ok (.ret (.ref (s.heap.push { cls := .type "list_iterator", data := .fields #[.ref l, .int 0 0] }).objs.size)))
        { s with heap := (s.heap.push { cls := .type "list_iterator", data := .fields #[.ref l, .int 0 0] }).push { cls := .type "enumerate", data := .fields #[.none, .bool false, .ref s.heap.objs.size, rawInt st, .none, .none] } }) :=
  .of_wp fun prog w A R s h => by
    obtain ⟨hp, g, d, tk, os⟩ := s; obtain ⟨hl, h⟩ := h
    have hsub := sub_enumerate
    have hL : Heap.IsList (Shared.heap ⟨hp, g, d, tk, os⟩) l items := ⟨_, hl, rfl, n, rfl⟩
    have hf' : ¬ (!Builtin.SmallTypes.fitsIndex st) = true := by rw [hf]; decide
    wp_walk using wpAny_loadPart' hl
    refine wpAny_stack_any fun stk => wpAny_pure ?_
    split
    · rename_i c _ _ _ _ _
      cases (c == Value.type "enumerate")
      · wp_walk using wpAny_loadPart' hl, wpAny_pyIter_list hL
        exact ⟨_, rfl, h⟩
      · wp_walk using wpAny_loadPart' hl, wpAny_pyIter_list hL
        exact ⟨_, rfl, h⟩
    · wp_walk using wpAny_loadPart' hl, wpAny_pyIter_list hL
      exact ⟨_, rfl, h⟩
theorem call_enumS {l : Addr} {items : Array Value} {st : Int} {t : Tok} {Q : Value → Shared → Prop} (hL : s.heap.IsList l items) (hf : Builtin.SmallTypes.fitsIndex st = true)
    (h : ∀ h', IsEnum h' (s.heap.objs.size + 1) s.heap.objs.size st .none → h'.IsListIter s.heap.objs.size l 0 → h'.objs.size = s.heap.objs.size + 2 →
      (∀ b o, s.heap.get? b = some o → h'.get? b = some o) → Q (.ref (s.heap.objs.size + 1)) { s with heap := h' }) :
    wpAny (model prog w) A (call (.type "enumerate") [.ref l] [(Str.ofString "start", .int st t)]) Q E s := by
  obtain ⟨⟨c, dct, dt, sl⟩, hl, hc, n, hd⟩ := hL
  replace hc : c = .type "list" := hc
  replace hd : dt = .seq items n := hd
  subst hc hd
  refine callType_kw (Q₁ := fun obj s₁ => s₁.TypeIs obj "enumerate" ∧ Q obj s₁) PySem.F.called_enumerate (typeCall_enumS _ _) (newCall_enumS _ _) PySem.F.entry_enumerate_new PySem.F.entry_object_init (meets_enumS l items n dct sl st t hf) ⟨hl, ?_⟩ fun obj s₁ hq => ⟨hq.1, init_enumS _ _ _, _, object_init_kw PySem.F.called_enumerate.init.lookup PySem.F.called_enumerate.made (by decide) (by simp), hq.1, rfl, hq.2⟩
  have hz : (s.heap.push { cls := .type "list_iterator", data := .fields #[.ref l, .int 0 0] }).objs.size = s.heap.objs.size + 1 := Heap.size_push ..
  show _ ∧ _
  rw [hz]
  have he : IsEnum ((s.heap.push { cls := .type "list_iterator", data := .fields #[.ref l, .int 0 0] }).push
      { cls := .type "enumerate", data := .fields #[.none, .bool false, .ref s.heap.objs.size, rawInt st, .none, .none] }) (s.heap.objs.size + 1) s.heap.objs.size st .none := by
    have := Heap.get?_push_size (s.heap.push { cls := .type "list_iterator", data := .fields #[.ref l, .int 0 0] })
      (o := { cls := .type "enumerate", data := .fields #[.none, .bool false, .ref s.heap.objs.size, rawInt st, .none, .none] }) rfl
    rw [hz] at this; exact this
  exact ⟨⟨_, he, rfl⟩, h _ he ⟨_, Heap.get?_push_of_some _ (Heap.get?_push_size _ rfl), rfl, rfl⟩ (by rw [Heap.size_push, hz]) fun b o x => Heap.get?_push_of_some _ (Heap.get?_push_of_some _ x)⟩
end
section
variable {M : Model} {A : Around} {E : Value → Shared → Prop} {s : Shared} {env : Env}
theorem callWith_type_kw {pos : Pos} {T : String} {first : List Value} {args : List (Bool × Sem Value)} {keywords : List (Option Str × Sem Value)} {Q : Value → Shared → Prop}
    (hplain : args.any (·.1) = false) (hkw : keywords.any (·.1.isNone) = false)
    (h : wpAny M A (evalArgs (.type T) true args keywords) (fun a s₁ => wpAny M A (call (.type T) (first ++ a.pos) a.kw) Q E s₁) E s) :
    wpAny M A (callWith pos (.type T) first args keywords) Q E s := by
  unfold callWith
  refine wpAny_bind (wpAny_holding (wpAny_mono h (fun a s₁ h₁ => wpAny_bind (wpAny_standAt ?_)) fun _ _ x => x))
  simp only [hplain, hkw, Bool.or_false]
  refine wpAny_bind (wpAny_pure ?_)
  exact wpAny_bind (wpAny_mono h₁ (fun r s₂ hr => wpAny_bind (wpAny_holding (wpAny_point (wpAny_pure hr)))) fun _ _ x => x)
end
theorem fits_small {i : Int} (h0 : 0 ≤ i) (h1 : i < 2 ^ 62) : Builtin.SmallTypes.fitsIndex i = true := by
  unfold Builtin.SmallTypes.fitsIndex
  simp
  omega
section
variable {X : Cx} {elts : List Expr} {k : Nat} {tpos : Pos}
def iEnumS (K : PySem.W.Frag) (ta tk : TA) : TI := fun σ H R => ta σ H fun vs H1 => tk σ H1 fun ws H2 => ∃ a, ∃ n : Nat, vs = [.ref a] ∧ ws = [.int (n : Int)] ∧ n < 2 ^ 62 ∧ (∃ xs, SqL K H2 a xs) ∧ R (Ite K a n) H2
theorem pi_enumS {l e : Expr} {ta tk : TA} {p pos kp : Pos} (hg : Gl X "enumerate") (hm : X.mg "enumerate" = none) (ha : PA X [l] ta) (hk : PK X [⟨some (Str.ofString "start"), e, kp⟩] tk)
    (he : backTo pos (starEach [l] X.env) = (false, eval l X.env) :: backTo pos (starEach [] X.env) := by rfl)
    (hplain : (backTo pos (starEach [l] X.env)).any (·.1) = false := by rfl)
    (hall : (backToKw pos (keywordEach [⟨some (Str.ofString "start"), e, kp⟩] X.env)).all (·.1.isSome) = true := by rfl)
    (hkw : (backToKw pos (keywordEach [⟨some (Str.ofString "start"), e, kp⟩] X.env)).any (·.1.isNone) = false := by rfl) :
    PI X (.Tuple elts k tpos) (.Call (.Name "enumerate" p) [l] [⟨some (Str.ofString "start"), e, kp⟩] pos) (iEnumS X.K ta tk) := by
  intro pins s σ H R I h
  refine wpAny_Call_Name_kw (ld_blt I hg hm boot_enumerate ?_)
  refine callWith_type_kw hplain hkw ?_
  have hb := ha pos pins s σ H _ I h
  rw [he] at hb ⊢
  refine evalArgs_kwB hall (thn hb fun us s1 ⟨vs, H1, I1, r1, q1⟩ => ?_)
  refine thn (hk pos pins s1 σ H1 _ I1 q1) fun ws s2 ⟨ys, H2, I2, r2, q2⟩ => ?_
  obtain ⟨a, n, e1, e2, hn, ⟨xs, hq⟩, q⟩ := q2
  subst e1 e2
  obtain ⟨u, rfl, ru⟩ := vals1 r1
  cases (show u = Value.ref a from ru)
  obtain ⟨v, rfl, rv'⟩ := vals1 r2
  obtain ⟨tk', rfl⟩ := (show ∃ tk, v = Value.int (n : Int) tk from rv')
  obtain ⟨its, rv, pl, hz⟩ := I2.list hq
  have hlt : a < s2.heap.objs.size := by obtain ⟨_, y, _⟩ := pl.isList; exact Heap.lt_size y
  show wpAny _ _ (call (.type "enumerate") [.ref a] [(Str.ofString "start", .int (n : Int) tk')]) _ _ _
  refine call_enumS pl.isList (fits_small (by omega) (by omega)) fun h' he' hit hsz hk' => ?_
  refine wpAny_pyIter_enum he' ?_
  have I3 : Inv X pins σ H2 { s2 with heap := h' } := I2.kept (t' := s2.toks) hk'
  refine ⟨_, [s2.heap.objs.size + 1, s2.heap.objs.size], _, _, H2, rfl, I3, turn_enum a (s2.heap.objs.size + 1) s2.heap.objs.size (Nat.succ_ne_self _) (Nat.ne_of_lt (Nat.lt_succ_of_lt hlt)) (Nat.ne_of_lt hlt) n, ⟨⟨_, he'⟩, hit⟩, fun b hb => ?_, q⟩
  rcases List.mem_cons.mp hb with rfl | hb
  · exact I2.fpOk (Nat.le_succ _) (I2.hok.fresh (Nat.le_succ _))
  · have : b = s2.heap.objs.size := by simpa using hb
    subst this
    exact I2.fpOk (Nat.le_refl _) (I2.hok.fresh (Nat.le_refl _))
theorem piK_enumS {K : PySem.W.Frag} {l e : Expr} {ta tk : TA} {p pos kp : Pos} (hK : X.K = K) (hg : Gl X "enumerate") (hm : X.mg "enumerate" = none) (ha : PA X [l] ta) (hk : PK X [⟨some (Str.ofString "start"), e, kp⟩] tk)
    (he : backTo pos (starEach [l] X.env) = (false, eval l X.env) :: backTo pos (starEach [] X.env) := by rfl)
    (hplain : (backTo pos (starEach [l] X.env)).any (·.1) = false := by rfl)
    (hall : (backToKw pos (keywordEach [⟨some (Str.ofString "start"), e, kp⟩] X.env)).all (·.1.isSome) = true := by rfl)
    (hkw : (backToKw pos (keywordEach [⟨some (Str.ofString "start"), e, kp⟩] X.env)).any (·.1.isNone) = false := by rfl) :
    PI X (.Tuple elts k tpos) (.Call (.Name "enumerate" p) [l] [⟨some (Str.ofString "start"), e, kp⟩] pos) (iEnumS K ta tk) := by subst hK; exact pi_enumS hg hm ha hk he hplain hall hkw
end
/-! ### a range by steps of 2 -/
def Its (lo : Int) (n : Nat) : It := ⟨fun i _ => i < n, fun i H x H' => H' = H ∧ x = .int (lo + i * 2), fun i _ => n ≤ i⟩
theorem turn_step {P : Program} {w : World} {K : PySem.W.Frag} {tg : Expr} (it : Addr) (lo : Int) (n : Nat) : Turn P w K tg (Its lo n) [it] it (fun i h => IsRangeIter h it (lo + (i : Nat) * 2) ((n : Int) - (i : Nat)) 2) where
  mem := by simp
  obj := fun i h st b hb => by
    have e : b = it := by simpa using hb
    subst e
    exact ⟨_, st, fun v z => by
      have z' : Data.fields _ = Data.cell v := z
      cases z'⟩
  keep := fun i h h' st k => k it (by simp) _ st
  item := by
    intro X hP hw hK hc i pins s σ H E I hf st hg
    subst hP hw hK
    obtain ⟨f0, f1, f2, f3, f4, f5⟩ := hf it (by simp)
    have W := Walks.range (prog := X.prog) (w := X.w) (I.ok.hd hc) it lo 2 n
    refine W.item i s _ _ hg st fun v h' tk hv st' kk => ?_
    obtain ⟨t, rfl⟩ := hv
    have I1 : Inv X pins σ H { s with heap := h', toks := tk } := I.turned (fun b o hb e => kk b o (by simpa using hb) e) f0 f1 f3 f4 f5
    exact ⟨_, rfl, go_of (s := { s with heap := h', toks := tk }) (n := "range_iterator") st' rfl rfl (by decide) ⟨.int (lo + i * 2), H, I1, ⟨t, rfl⟩, ⟨rfl, rfl⟩, st', fun b hb => (hf b hb).1⟩⟩
  done := by
    intro X hP hw hK hc i pins s σ H E I hf st hg
    subst hP hw hK
    obtain ⟨f0, f1, f2, f3, f4, f5⟩ := hf it (by simp)
    exact wpAny_pyNext_range_end (I.ok.hd hc) st (by have : n ≤ i := hg; omega) fun h' eb => ⟨rfl, I.turned (t' := s.toks) (fun b o hb e => eb b o hb e) f0 f1 f3 f4 f5⟩
  self := fun _ _ _ _ _ st h => wpAny_pyIter_rangeiter st h
theorem rsize2 (lo hi : Int) : Builtin.Range.rangeSize lo hi 2 = if lo < hi then (hi - lo - 1) / 2 + 1 else 0 := by
  unfold Builtin.Range.rangeSize
  rw [if_pos (by decide)]
theorem small_two {a b : Int} (ha : -(2 ^ 60) ≤ a) (ha' : a < 2 ^ 60) (hb : -(2 ^ 60) ≤ b) (hb' : b < 2 ^ 60) : Builtin.Range.small a b 2 = true := by
  unfold Builtin.Range.small
  rw [rsize2]
  simp only [Builtin.Range.rangeFitsLong, Bool.and_eq_true, Bool.or_eq_true, decide_eq_true_eq, beq_iff_eq, show (2 : Int) > 0 by decide, if_true]
  split <;> omega
section
variable {X : Cx} {tg : Expr}
def iRngS (ta : TA) : TI := fun σ H R => ta σ H fun vs H1 => ∃ i j : Int, vs = [.int i, .int j, .int 2] ∧ (-(2 ^ 60) ≤ i ∧ i < 2 ^ 60 ∧ -(2 ^ 60) ≤ j ∧ j < 2 ^ 60) ∧ R (Its i (if i < j then (j - i - 1) / 2 + 1 else 0).toNat) H1
theorem pi_rangeS {a b c : Expr} {ta : TA} {p pos : Pos} (hg : Gl X "range") (hm : X.mg "range" = none) (ha : PA X [a, b, c] ta) (hs : starEach [a, b, c] X.env = [(false, eval a X.env), (false, eval b X.env), (false, eval c X.env)] := by rfl) (hs2 : starEach [b, c] X.env = [(false, eval b X.env), (false, eval c X.env)] := by rfl) :
    PI X tg (.Call (.Name "range" p) [a, b, c] [] pos) (iRngS ta) := by
  intro pins s σ H R I h
  refine Call_ (ld_blt I hg hm boot_range (PyProof.Rows.callWith_type1 (thn (ha pos pins s σ H _ I h) fun us s1 ⟨vs, H1, I1, r1, q1⟩ => ?_) (by rw [hs, hs2]) (by rw [hs2]; rfl)))
  obtain ⟨lo, hi, e, ⟨q1, q2, q3, q4⟩, q⟩ := q1
  subst e
  cases r1 with
  | cons r rr =>
    cases rr with
    | cons r' rr =>
      cases rr with
      | cons r'' rr =>
        cases rr
        obtain ⟨t, rfl⟩ := r
        obtain ⟨t', rfl⟩ := r'
        obtain ⟨t'', rfl⟩ := r''
        refine call_range_3 (by decide) ?_ (Or.inl (PyProof.noPylong_small (by omega)))
        refine wpAny_pyIter_range (IsRange.new ..) (small_two q1 q2 q3 q4) ?_
        have I2 : Inv X pins σ H1 { s1 with heap := s1.heap.push { cls := .type "range", data := .fields #[.int lo t, .int hi t', .int 2 t''] }, toks := s1.toks } := I1.kept fun b o e => Heap.get?_push_of_some _ e
        refine ⟨(s1.heap.push { cls := .type "range", data := .fields #[.int lo t, .int hi t', .int 2 t''] }).objs.size, [(s1.heap.push { cls := .type "range", data := .fields #[.int lo t, .int hi t', .int 2 t''] }).objs.size], _, _, H1, rfl,
          I2.kept (t' := s1.toks) fun b o e => Heap.get?_push_of_some _ e, turn_step _ lo _, ?_, fun b hb => ?_, q⟩
        · have e1 : lo + ((0 : Nat) : Int) * 2 = lo := by simp
          have e2 : (((if lo < hi then (hi - lo - 1) / 2 + 1 else 0).toNat : Nat) : Int) - ((0 : Nat) : Int) = Builtin.Range.rangeSize lo hi 2 := by rw [rsize2]; split <;> omega
          show IsRangeIter _ _ (lo + ((0 : Nat) : Int) * 2) ((((if lo < hi then (hi - lo - 1) / 2 + 1 else 0).toNat : Nat) : Int) - ((0 : Nat) : Int)) 2
          rw [e1, e2]
          exact Heap.get?_push_size _ rfl
        · have e : b = (s1.heap.push { cls := .type "range", data := .fields #[.int lo t, .int hi t', .int 2 t''] }).objs.size := by simpa using hb
          subst e
          exact I2.fpOk (Nat.le_refl _) (I2.hok.fresh (Nat.le_refl _))
end
theorem for_step {lo : Int} {n : Nat} {g : TG} {tb : TS} {D : Ends} {σ : St} {H : Hp} (Pv : Nat → St → Hp → Prop) (h0 : Pv 0 σ H)
    (hs : ∀ i σ H, i < n → Pv i σ H → g (.int (lo + i * 2)) σ H fun σ2 H2 => tb { D with nx := Pv (i + 1), ct := Pv (i + 1), bk := D.nx } σ2 H2) (hd : ∀ σ H, Pv n σ H → D.nx σ H) :
    ∃ W : Nat → Nat → St → Hp → Prop, (∃ m, W 0 m σ H) ∧ ∀ i m σ H, W i m σ H →
      ((Its lo n).stop i H ∧ D.nx σ H) ∨ ((Its lo n).go i H ∧ ∃ N : St → Hp → Prop, (∀ σ' H', N σ' H' → ∃ m', m' < m ∧ W (i + 1) m' σ' H') ∧ ∀ x H', (Its lo n).yld i H x H' → g x σ H' fun σ2 H2 => tb { D with nx := N, ct := N, bk := D.nx } σ2 H2) := by
  refine ⟨fun i m σ H => m = n - i ∧ i ≤ n ∧ Pv i σ H, ⟨n, by simp, Nat.zero_le _, h0⟩, ?_⟩
  rintro i m σ H ⟨rfl, hi, p⟩
  by_cases hlt : i < n
  · refine .inr ⟨hlt, Pv (i + 1), fun σ' H' p' => ⟨n - (i + 1), by omega, rfl, hlt, p'⟩, fun v H' y => ?_⟩
    obtain ⟨e1, e2⟩ := y
    subst e1 e2
    exact hs i σ _ hlt p
  · have e : i = n := by omega
    subst e
    exact .inl ⟨Nat.le_refl _, hd σ H p⟩
end L2

/-! lists of sizes (None or a fraction): what is put together of two of them -/
set_option Elab.async false
set_option linter.all false
set_option maxRecDepth 100000
namespace L2
open PySem
abbrev Sz := Option (Int × Int)
structure Ok (x : Int × Int) : Prop where
  pos : 0 < x.2
  red : Int.gcd x.1 x.2 = 1
theorem ok_fr {t b : Int} (h : b ≠ 0) : Ok (fr t b) := ⟨(fr_spec h).pos, (fr_spec h).cop⟩
theorem dvd_cop {a b c : Int} (h : a ∣ b * c) (g : Int.gcd b a = 1) : a ∣ c := by
  have h1 : a.natAbs ∣ b.natAbs * c.natAbs := by
    have := Int.natAbs_dvd_natAbs.mpr h
    rwa [Int.natAbs_mul] at this
  have h2 : Nat.Coprime a.natAbs b.natAbs := by
    show Nat.gcd a.natAbs b.natAbs = 1
    rw [Nat.gcd_comm]
    exact g
  exact Int.natAbs_dvd_natAbs.mp (h2.dvd_of_dvd_mul_left h1)
theorem Ok.eq {x y : Int × Int} (hx : Ok x) (hy : Ok y) (h : x.1 * y.2 = y.1 * x.2) : x = y := by
  have d1 : x.2 ∣ y.2 := dvd_cop (b := x.1) ⟨y.1, by rw [h, Int.mul_comm]⟩ hx.red
  have d2 : y.2 ∣ x.2 := dvd_cop (b := y.1) ⟨x.1, by rw [← h, Int.mul_comm]⟩ hy.red
  have p1 := hx.pos
  have p2 := hy.pos
  have e : x.2 = y.2 := by
    have l1 := Int.le_of_dvd p2 d1
    have l2 := Int.le_of_dvd p1 d2
    omega
  rw [e] at h
  have e2 : x.1 = y.1 := Int.eq_of_mul_eq_mul_right (by omega) h
  exact Prod.ext e2 e
theorem fr_ok {x : Int × Int} (hx : Ok x) : fr x.1 x.2 = x := by
  have S := fr_spec (t := x.1) (b := x.2) (by have := hx.pos; omega)
  refine Ok.eq ⟨S.pos, S.cop⟩ hx ?_
  have e1 := S.ht
  have e2 := S.hb
  generalize (fr x.1 x.2).1 = a at *
  generalize (fr x.1 x.2).2 = b at *
  generalize frD x.1 x.2 = d at *
  rw [e1, e2]
  ac_rfl
def ad (u v : Int × Int) : Int × Int := fr (u.1 * v.2 + v.1 * u.2) (u.2 * v.2)
theorem ad_comm (u v : Int × Int) : ad u v = ad v u := by
  unfold ad
  rw [Int.add_comm, Int.mul_comm u.2 v.2]
def adS : Sz → Sz → Sz
  | some u, some v => some (ad u v)
  | _, _ => none
theorem adS_comm (u v : Sz) : adS u v = adS v u := by
  cases u <;> cases v <;> simp [adS, ad_comm]
def gz (xs : List Sz) (i : Nat) : Sz := (xs[i]?).getD none
def mn : Sz → Sz → Sz
  | b, none => b
  | none, some t => some t
  | some b, some t => if t.1 * b.2 < b.1 * t.2 then some t else some b
def fold (T : Nat → Sz) : Nat → Sz
  | 0 => none
  | i + 1 => mn (fold T i) (T i)
def Lst (T : Nat → Sz) (n : Nat) (b : Sz) : Prop := (b = none ∧ ∀ i, i < n → T i = none) ∨ ∃ x, b = some x ∧ (∃ i, i < n ∧ T i = some x) ∧ ∀ i y, i < n → T i = some y → x.1 * y.2 ≤ y.1 * x.2
theorem le_tr {a b c : Int × Int} (ha : 0 < a.2) (hb : 0 < b.2) (hc : 0 < c.2) (h1 : a.1 * b.2 ≤ b.1 * a.2) (h2 : b.1 * c.2 ≤ c.1 * b.2) : a.1 * c.2 ≤ c.1 * a.2 := by
  have e1 : a.1 * b.2 * c.2 ≤ b.1 * a.2 * c.2 := Int.mul_le_mul_of_nonneg_right h1 (Int.le_of_lt hc)
  have e2 : b.1 * c.2 * a.2 ≤ c.1 * b.2 * a.2 := Int.mul_le_mul_of_nonneg_right h2 (Int.le_of_lt ha)
  have e3 : a.1 * c.2 * b.2 ≤ c.1 * a.2 * b.2 := by
    have r1 : a.1 * c.2 * b.2 = a.1 * b.2 * c.2 := by ac_rfl
    have r2 : b.1 * c.2 * a.2 = b.1 * a.2 * c.2 := by ac_rfl
    have r3 : c.1 * a.2 * b.2 = c.1 * b.2 * a.2 := by ac_rfl
    rw [r1, r3]
    rw [r2] at e2
    exact Int.le_trans e1 e2
  exact Int.le_of_mul_le_mul_right e3 hb
theorem fold_least {T : Nat → Sz} (hT : ∀ i x, T i = some x → 0 < x.2) : ∀ n, Lst T n (fold T n)
  | 0 => .inl ⟨rfl, fun i hi => absurd hi (Nat.not_lt_zero _)⟩
  | n + 1 => by
    have ih := fold_least hT n
    show Lst T (n + 1) (mn (fold T n) (T n))
    generalize fold T n = b at ih ⊢
    cases e : T n with
    | none =>
      have em : mn b none = b := by cases b <;> rfl
      rw [em]
      rcases ih with ⟨rfl, h⟩ | ⟨x, rfl, ⟨i, hi, ex⟩, h⟩
      · refine .inl ⟨rfl, fun i hi => ?_⟩
        by_cases z : i = n
        · rw [z]; exact e
        · exact h i (by omega)
      · refine .inr ⟨x, rfl, ⟨i, by omega, ex⟩, fun j y hj ey => ?_⟩
        by_cases z : j = n
        · rw [z, e] at ey; cases ey
        · exact h j y (by omega) ey
    | some t =>
      have pt := hT n t e
      rcases ih with ⟨rfl, h⟩ | ⟨x, rfl, ⟨i, hi, ex⟩, h⟩
      · refine .inr ⟨t, rfl, ⟨n, by omega, e⟩, fun j y hj ey => ?_⟩
        by_cases z : j = n
        · rw [z, e] at ey
          cases ey
          exact Int.le_refl _
        · rw [h j (by omega)] at ey; cases ey
      · have px := hT i x ex
        by_cases hlt : t.1 * x.2 < x.1 * t.2
        · have em : mn (some x) (some t) = some t := if_pos hlt
          rw [em]
          refine .inr ⟨t, rfl, ⟨n, by omega, e⟩, fun j y hj ey => ?_⟩
          by_cases z : j = n
          · rw [z, e] at ey
            cases ey
            exact Int.le_refl _
          · exact le_tr pt px (hT j y ey) (Int.le_of_lt hlt) (h j y (by omega) ey)
        · have em : mn (some x) (some t) = some x := if_neg hlt
          rw [em]
          refine .inr ⟨x, rfl, ⟨i, by omega, ex⟩, fun j y hj ey => ?_⟩
          by_cases z : j = n
          · rw [z, e] at ey
            cases ey
            omega
          · exact h j y (by omega) ey
theorem fold_same {T T' : Nat → Sz} {n m : Nat} (o : ∀ i x, T i = some x → Ok x) (o' : ∀ i x, T' i = some x → Ok x)
    (h : ∀ i x, i < n → T i = some x → ∃ j, j < m ∧ T' j = some x) (h' : ∀ i x, i < m → T' i = some x → ∃ j, j < n ∧ T j = some x) : fold T n = fold T' m := by
  have a := fold_least (fun i x e => (o i x e).pos) n
  have b := fold_least (fun i x e => (o' i x e).pos) m
  generalize fold T n = u at a ⊢
  generalize fold T' m = v at b ⊢
  rcases a with ⟨rfl, ha⟩ | ⟨x, rfl, ⟨i, hi, ex⟩, hx⟩
  · rcases b with ⟨rfl, hb⟩ | ⟨y, rfl, ⟨j, hj, ey⟩, hy⟩
    · rfl
    · obtain ⟨k, hk, ek⟩ := h' j y hj ey
      rw [ha k hk] at ek; cases ek
  · rcases b with ⟨rfl, hb⟩ | ⟨y, rfl, ⟨j, hj, ey⟩, hy⟩
    · obtain ⟨k, hk, ek⟩ := h i x hi ex
      rw [hb k hk] at ek; cases ek
    · obtain ⟨k, hk, ek⟩ := h' j y hj ey
      obtain ⟨l, hl, el⟩ := h i x hi ex
      have l1 := hx k y hk ek
      have l2 := hy l x hl el
      exact congrArg some (Ok.eq (o i x ex) (o' j y ey) (by omega))
theorem fold_none {T : Nat → Sz} : ∀ {n : Nat}, (∀ i, i < n → T i = none) → fold T n = none
  | 0, _ => rfl
  | n + 1, h => by
    show mn (fold T n) (T n) = none
    rw [fold_none fun i hi => h i (by omega), h n (by omega)]
    rfl
theorem mn_none (b : Sz) : mn b none = b := by cases b <;> rfl
theorem none_mn (b : Sz) : mn none b = b := by cases b <;> rfl
theorem fold_ext {T : Nat → Sz} {n : Nat} : ∀ {m : Nat}, n ≤ m → (∀ i, n ≤ i → i < m → T i = none) → fold T m = fold T n
  | 0, h, _ => by have : n = 0 := by omega
                  rw [this]
  | m + 1, h, z => by
    by_cases e : n = m + 1
    · rw [e]
    · show mn (fold T m) (T m) = fold T n
      rw [z m (by omega) (by omega), mn_none, fold_ext (by omega) fun i h1 h2 => z i h1 (by omega)]
theorem fold_one {T : Nat → Sz} {n k : Nat} (hk : k < n) (h : ∀ i, i < n → i ≠ k → T i = none) : fold T n = T k := by
  rw [fold_ext (n := k + 1) (by omega) fun i h1 h2 => h i h2 (by omega)]
  show mn (fold T k) (T k) = T k
  rw [fold_none fun i hi => h i (by omega) (by omega), none_mn]
/-- the sums to place k -/
def sm (xs ys : List Sz) (k i : Nat) : Sz := if i ≤ k then adS (gz xs i) (gz ys (k - i)) else none
def bst (xs ys : List Sz) (k i : Nat) : Sz := fold (sm xs ys k) i
def cvz (xs ys : List Sz) : List Sz := (List.range (xs.length + ys.length - 1)).map fun k => bst xs ys k xs.length
theorem gz_ge {xs : List Sz} {i : Nat} (h : xs.length ≤ i) : gz xs i = none := by
  unfold gz
  rw [List.getElem?_eq_none h]
  rfl
theorem gz_get {xs : List Sz} {i : Nat} {x : Sz} (h : xs[i]? = some x) : gz xs i = x := by unfold gz; rw [h]; rfl
theorem sm_some {xs ys : List Sz} {k i : Nat} {x : Int × Int} (h : sm xs ys k i = some x) : i ≤ k ∧ ∃ u v, gz xs i = some u ∧ gz ys (k - i) = some v ∧ x = ad u v := by
  unfold sm at h
  by_cases c : i ≤ k
  · rw [if_pos c] at h
    cases e1 : gz xs i with
    | none => rw [e1] at h; cases h
    | some u =>
      cases e2 : gz ys (k - i) with
      | none => rw [e1, e2] at h; cases h
      | some v =>
        rw [e1, e2] at h
        exact ⟨c, u, v, rfl, rfl, (Option.some.inj h).symm⟩
  · rw [if_neg c] at h; cases h
def AllOk (xs : List Sz) : Prop := ∀ x, some x ∈ xs → Ok x
theorem gz_mem {xs : List Sz} {i : Nat} {x : Int × Int} (h : gz xs i = some x) : i < xs.length ∧ some x ∈ xs := by
  unfold gz at h
  cases e : xs[i]? with
  | none => rw [e] at h; cases h
  | some y =>
    rw [e] at h
    have : y = some x := h
    subst this
    exact ⟨(List.getElem?_eq_some_iff.mp e).1, List.mem_of_getElem? e⟩
theorem sm_ok {xs ys : List Sz} (hx : AllOk xs) (hy : AllOk ys) {k i : Nat} {x : Int × Int} (h : sm xs ys k i = some x) : Ok x := by
  obtain ⟨_, u, v, e1, e2, rfl⟩ := sm_some h
  have p1 := (hx u (gz_mem e1).2).pos
  have p2 := (hy v (gz_mem e2).2).pos
  exact ok_fr (Int.ne_of_gt (Int.mul_pos p1 p2))
theorem sm_flip {xs ys : List Sz} {k i : Nat} {x : Int × Int} (h : sm xs ys k i = some x) : k - i < ys.length ∧ sm ys xs k (k - i) = some x := by
  obtain ⟨c, u, v, e1, e2, rfl⟩ := sm_some h
  refine ⟨(gz_mem e2).1, ?_⟩
  unfold sm
  rw [if_pos (by omega), e2, show k - (k - i) = i by omega, e1]
  exact congrArg some (ad_comm v u)
theorem cvz_comm {xs ys : List Sz} (hx : AllOk xs) (hy : AllOk ys) : cvz ys xs = cvz xs ys := by
  unfold cvz
  rw [Nat.add_comm]
  refine List.map_congr_left fun k hk => ?_
  exact fold_same (fun i x e => sm_ok hy hx e) (fun i x e => sm_ok hx hy e) (fun i x hi e => ⟨k - i, sm_flip e⟩) fun i x hi e => ⟨k - i, sm_flip e⟩
theorem cvz_one {xs : List Sz} (hx : AllOk xs) : cvz xs [some (0, 1)] = xs := by
  unfold cvz
  show (List.range (xs.length + 1 - 1)).map _ = xs
  rw [Nat.add_sub_cancel]
  refine List.ext_getElem (by simp) fun k h1 h2 => ?_
  rw [List.getElem_map, List.getElem_range]
  have e : bst xs [some (0, 1)] k xs.length = sm xs [some (0, 1)] k k := fold_one h2 fun i hi hne => by
    unfold sm
    by_cases c : i ≤ k
    · rw [if_pos c, gz_ge (xs := [some (0, 1)]) (i := k - i) (by show 1 ≤ _; omega)]
      cases gz xs i <;> rfl
    · rw [if_neg c]
  rw [e]
  unfold sm
  rw [if_pos (Nat.le_refl _), Nat.sub_self, gz_get (List.getElem?_eq_getElem h2)]
  cases ex : xs[k] with
  | none => rfl
  | some u =>
    have ho : Ok u := hx u (by rw [← ex]; exact List.getElem_mem _)
    show some (ad u (0, 1)) = some u
    unfold ad
    simp only [Int.mul_one, Int.zero_mul, Int.add_zero]
    rw [fr_ok ho]
theorem len_cvz (xs ys : List Sz) : (cvz xs ys).length = xs.length + ys.length - 1 := by unfold cvz; rw [List.length_map, List.length_range]
theorem cvz_ok {xs ys : List Sz} (hx : AllOk xs) (hy : AllOk ys) : AllOk (cvz xs ys) := by
  intro x h
  obtain ⟨k, hk, e⟩ := List.mem_map.mp h
  rcases fold_least (T := sm xs ys k) (fun i x e => (sm_ok hx hy e).pos) xs.length with ⟨z, _⟩ | ⟨y, ey, ⟨i, hi, ei⟩, _⟩
  · have : bst xs ys k xs.length = none := z
    rw [this] at e; cases e
  · have : bst xs ys k xs.length = some y := ey
    rw [this] at e
    cases e
    exact sm_ok hx hy ei
/-! ### in the heap -/
abbrev TSz := V × Sz
abbrev tv (ts : List TSz) : List V := ts.map Prod.fst
abbrev tz (ts : List TSz) : List Sz := ts.map Prod.snd
inductive SzV (H : Hp) : V → Sz → Prop where
  | non : SzV H .non none
  | fr {r : Addr} {x : Int × Int} : H r = some (.tup [.int x.1, .int x.2]) → SzV H (.ref r) (some x)
def SzL (H : Hp) (ts : List TSz) : Prop := ∀ t ∈ ts, SzV H t.1 t.2
theorem SzV.same {H H' : Hp} {v : V} {z : Sz} (h : SzV H v z) (g : Same H H') : SzV H' v z := by
  cases h with
  | non => exact .non
  | fr e => exact .fr (g _ _ e)
theorem SzL.same {H H' : Hp} {ts : List TSz} (h : SzL H ts) (g : Same H H') : SzL H' ts := fun t ht => (h t ht).same g
theorem SzV.upd {H : Hp} {v : V} {z : Sz} (h : SzV H v z) {p : Addr} {xs : List V} (hp : H p = some (.lst xs)) (o : HO) : SzV (upd H p o) v z := by
  cases h with
  | non => exact .non
  | @fr r x e => exact .fr (by rw [upd_ne (fun z => by rw [z, hp] at e; cases e)]; exact e)
theorem SzL.upd {H : Hp} {ts : List TSz} (h : SzL H ts) {p : Addr} {xs : List V} (hp : H p = some (.lst xs)) (o : HO) : SzL (upd H p o) ts := fun t ht => (h t ht).upd hp o
def dO : Sz → PyData
  | none => .none
  | some x => .tuple [.int x.1, .int x.2]
abbrev dSz (zs : List Sz) : PyData := .list (zs.map dO)
theorem fl_dO (z : Sz) : Fl 1 (dO z) := by
  cases z with
  | none => exact .non
  | some x =>
    refine .tup fun d hd => ?_
    simp only [List.mem_cons, List.not_mem_nil, or_false] at hd
    rcases hd with rfl | rfl
    · exact .int _
    · exact .int _
theorem fl_sz (zs : List Sz) : Fl 2 (dSz zs) := .lst fun d hd => by
  obtain ⟨i, _, rfl⟩ := List.mem_map.mp hd
  exact fl_dO i
theorem SzV.den {K : PySem.W.Frag} {H : Hp} {v : V} {z : Sz} (h : SzV H v z) : Den K H v (dO z) := by
  cases h with
  | non => exact .non
  | fr e => exact den_tup (SqT.of e) rfl
theorem den_sz {K : PySem.W.Frag} {H : Hp} {p : Addr} {ts : List TSz} (ht : SqL K H p (tv ts)) (hi : SzL H ts) : Den K H (.ref p) (dSz (tz ts)) := by
  refine .lst ht (by simp) fun i x d h1 h2 => ?_
  rw [List.getElem?_map] at h1 h2
  cases e : ts[i]? with
  | none => rw [e] at h1; cases h1
  | some t =>
    rw [e] at h1
    rw [List.getElem?_map, e] at h2
    have hm : t ∈ ts := List.mem_of_getElem? e
    cases h1
    cases h2
    exact (hi t hm).den
theorem tv_get {ts : List TSz} {i : Nat} {x : V} (h : (tv ts)[i]? = some x) : ∃ hi : i < ts.length, x = ts[i].1 := by
  rw [List.getElem?_map] at h
  cases e : ts[i]? with
  | none => rw [e] at h; cases h
  | some t =>
    rw [e] at h
    obtain ⟨hi, e2⟩ := List.getElem?_eq_some_iff.mp e
    subst e2
    exact ⟨hi, (Option.some.inj h).symm⟩
theorem tz_get {ts : List TSz} {i : Nat} (hi : i < ts.length) : gz (tz ts) i = ts[i].2 := gz_get (by rw [List.getElem?_map, List.getElem?_eq_getElem hi]; rfl)
theorem atI_tv {ts : List TSz} {i : Nat} (hi : i < ts.length) : atI (tv ts) (i : Int) = some ts[i].1 := by
  rw [atI_get_nat (by omega) (by rw [List.length_map]; omega)]
  simp
def BdZ (n : Nat) (zs : List Sz) : Prop := ∀ x, some x ∈ zs → Bd n x.1 ∧ Bd n x.2
/-- a comprehension over a tuple -/
theorem comp_tup {K : PySem.W.Frag} {a D : Addr} {xs : List V} {st : St} {g : TG} {tif : TT} {te : TE} {H1 : Hp} {Q : VK} (Pv : Nat → List V → Hp → Prop) (h0 : Pv 0 [] (upd H1 D (.lst [])))
    (hl : ∀ i ys H2, H2 D = some (.lst ys) → Pv i ys H2 → SqT K H2 a xs)
    (hs : ∀ i m x ys H2, m = xs.length - i → i < xs.length → xs[i]? = some x → H2 D = some (.lst ys) → ys.length ≤ i → Pv i ys H2 → g x st H2 fun σ3 H3 => tif σ3 H3 fun b H4 =>
      if b = true then te σ3 H4 fun y H5 => ∃ ys, H5 D = some (.lst ys) ∧ ys.length < sizeLine ∧ ∃ m', m' < m ∧ CW xs.length D Pv (i + 1) m' (upd H5 D (.lst (ys ++ [y]))) else ∃ m', m' < m ∧ CW xs.length D Pv (i + 1) m' H4)
    (hd : ∀ ys H2, H2 D = some (.lst ys) → Pv xs.length ys H2 → Q (.ref D) H2) :
    compW (Itt K a) D st g tif te Q H1 := by
  refine ⟨CW xs.length D Pv, ⟨xs.length, by simp, Nat.zero_le _, [], upd_same, Nat.le_refl _, h0⟩, ?_⟩
  rintro i m H2 ⟨hm, hi, ys, hy, hlen, p⟩
  have q := hl i ys H2 hy p
  by_cases hlt : i < xs.length
  · refine .inr ⟨⟨xs, xs[i], q, by simp [hlt]⟩, fun x H' y => ?_⟩
    obtain ⟨e, y⟩ := y
    subst e
    exact hs i m x ys _ hm hlt (y xs q) hy hlen p
  · have e : i = xs.length := by omega
    subst e
    exact .inl ⟨⟨xs, q, Nat.le_refl _⟩, hd ys H2 hy p⟩
end L2

/-! sorted of lists [fraction, whole number], fractions unlike -/
set_option Elab.async false
set_option linter.all false
set_option maxRecDepth 100000
namespace L2
open PySem PySem.Spec PySem.W PyProof.Rows
section
open PySem.SeqAt
open PySem.AutoSeq1 (wpAny_loadPart')
open PySem.MeetsSeq PySem.MeetsSeq2 PySem.MeetsSeq3
theorem lt_loop_diff (l b : Addr) (items items2 : Array Value) (x1 y1 : Value) (n n2 : Nat) (dd dd2 : Option Addr) (sl sl2 : Array (Option Value)) (r : Bool) (h1 : items[0]? = some x1) (h2 : items2[0]? = some y1) :
    Meets (Builtin.«list.__eq__.loop» ⟨[.ref l, .ref b, rawInt 0, rawInt 0], []⟩)
      (fun A R s => s.heap.get? l = some { cls := .type "list", dict := dd, data := .seq items n, slots := sl } ∧ s.heap.get? b = some { cls := .type "list", dict := dd2, data := .seq items2 n2, slots := sl2 } ∧
        EqAt A.in1 s x1 y1 false ∧ (∀ prog w E (Q : Value → Shared → Prop), Q (.bool r) s → wpAny (model prog w) A.in1 (richCompare .Lt x1 y1) Q E s) ∧
        R (.ok (.ret (.bool r))) s) := by
  intro prog w A R s h
  obtain ⟨hp, g, d, tk, os⟩ := s; obtain ⟨hl, hb, he, hc, h⟩ := h
  wp_walk using wpAny_loadPart' hl, wpAny_loadPart' hb
  have i1 : items[(0 : Int).toNat]? = some x1 := h1
  have i2 : items2[(0 : Int).toNat]? = some y1 := h2
  rw [i1, i2]
  refine wpAny_bind (he prog w _ _ ?_)
  have hc' := hc prog w
  wp_walk using wpAny_loadPart' hl, wpAny_loadPart' hb
  rw [i1, i2]
  wp_walk using hc'
  exact h
theorem lt_loop_same2 (l : Addr) (x1 x2 : Value) (n : Nat) (dd : Option Addr) (sl : Array (Option Value)) :
    Meets (Builtin.«list.__eq__.loop» ⟨[.ref l, .ref l, rawInt 2, rawInt 0], []⟩)
      (fun A R s => s.heap.get? l = some { cls := .type "list", dict := dd, data := .seq #[x1, x2] n, slots := sl } ∧ R (.ok (.ret (.bool false))) s) := by
  intro prog w A R s h
  obtain ⟨hp, g, d, tk, os⟩ := s; obtain ⟨hl, h⟩ := h
  wp_walk using wpAny_loadPart' hl
  exact h
theorem lt_loop_same1 (l : Addr) (x1 x2 : Value) (n : Nat) (dd : Option Addr) (sl : Array (Option Value)) :
    Meets (Builtin.«list.__eq__.loop» ⟨[.ref l, .ref l, rawInt 1, rawInt 0], []⟩)
      (fun A R s => s.heap.get? l = some { cls := .type "list", dict := dd, data := .seq #[x1, x2] n, slots := sl } ∧ R (.ok (.ret (.bool false))) s) := by
  intro prog w A R s h
  obtain ⟨hp, g, d, tk, os⟩ := s; obtain ⟨hl, h⟩ := h
  wp_walk using wpAny_loadPart' hl
  exact ⟨plainId_quiet plain_eq_loop _, codeAny_builtin entry_eq_loop (by
    rw [Around.under_plainId plain_eq_loop _]
    exact lt_loop_same2 l x1 x2 n dd sl prog w A R _ ⟨hl, h⟩)⟩
theorem lt_loop_same (l : Addr) (x1 x2 : Value) (n : Nat) (dd : Option Addr) (sl : Array (Option Value)) :
    Meets (Builtin.«list.__eq__.loop» ⟨[.ref l, .ref l, rawInt 0, rawInt 0], []⟩)
      (fun A R s => s.heap.get? l = some { cls := .type "list", dict := dd, data := .seq #[x1, x2] n, slots := sl } ∧ R (.ok (.ret (.bool false))) s) := by
  intro prog w A R s h
  obtain ⟨hp, g, d, tk, os⟩ := s; obtain ⟨hl, h⟩ := h
  wp_walk using wpAny_loadPart' hl
  exact ⟨plainId_quiet plain_eq_loop _, codeAny_builtin entry_eq_loop (by
    rw [Around.under_plainId plain_eq_loop _]
    exact lt_loop_same1 l x1 x2 n dd sl prog w A R _ ⟨hl, h⟩)⟩
theorem list_lt_diff (l b : Addr) (items items2 : Array Value) (x1 y1 : Value) (n n2 : Nat) (dd dd2 : Option Addr) (sl sl2 : Array (Option Value)) (r : Bool) (h1 : items[0]? = some x1) (h2 : items2[0]? = some y1) :
    Meets (Builtin.«list.__lt__» ⟨[.ref l, .ref b], []⟩)
      (fun A R s => s.heap.get? l = some { cls := .type "list", dict := dd, data := .seq items n, slots := sl } ∧ s.heap.get? b = some { cls := .type "list", dict := dd2, data := .seq items2 n2, slots := sl2 } ∧
        EqAt A.in1 s x1 y1 false ∧ (∀ prog w E (Q : Value → Shared → Prop), Q (.bool r) s → wpAny (model prog w) A.in1 (richCompare .Lt x1 y1) Q E s) ∧
        R (.ok (.ret (.bool r))) s) := by
  intro prog w A R s h
  obtain ⟨hp, g, d, tk, os⟩ := s; obtain ⟨hl, hb, he, hc, h⟩ := h
  have f3 := AutoSeq1.sub_list_list
  wp_walk using wpAny_loadPart' hl, wpAny_loadPart' hb
  exact ⟨plainId_quiet plain_eq_loop _, codeAny_builtin entry_eq_loop (by
    rw [Around.under_plainId plain_eq_loop _]
    exact lt_loop_diff l b items items2 x1 y1 n n2 dd dd2 sl sl2 r h1 h2 prog w A R _ ⟨hl, hb, he, hc, h⟩)⟩
theorem list_lt_same (l : Addr) (x1 x2 : Value) (n : Nat) (dd : Option Addr) (sl : Array (Option Value)) :
    Meets (Builtin.«list.__lt__» ⟨[.ref l, .ref l], []⟩)
      (fun A R s => s.heap.get? l = some { cls := .type "list", dict := dd, data := .seq #[x1, x2] n, slots := sl } ∧ R (.ok (.ret (.bool false))) s) := by
  intro prog w A R s h
  obtain ⟨hp, g, d, tk, os⟩ := s; obtain ⟨hl, h⟩ := h
  have f3 := AutoSeq1.sub_list_list
  wp_walk using wpAny_loadPart' hl
  exact ⟨plainId_quiet plain_eq_loop _, codeAny_builtin entry_eq_loop (by
    rw [Around.under_plainId plain_eq_loop _]
    exact lt_loop_same l x1 x2 n dd sl prog w A R _ ⟨hl, h⟩)⟩
end
section
variable {prog : Program} {w : World} {A : Around} {E : Value → Shared → Prop} {s : Shared}
/-- a list of a fraction and a number, as the heap has it -/
structure LAt (h : Heap) (l t : Addr) (x : Int × Int) : Prop where
  lst : ∃ (dd : Option Addr) (sl : Array (Option Value)) (n : Nat) (v : Value), h.get? l = some { cls := .type "list", dict := dd, data := .seq #[.ref t, v] n, slots := sl }
  tup : ∃ t1 t2, IsTup h t #[.int x.1 t1, .int x.2 t2]
theorem LAt.keep {h h' : Heap} {l t : Addr} {x : Int × Int} (a : LAt h l t x) (k : ∀ b o, h.get? b = some o → h'.get? b = some o) : LAt h' l t x := by
  obtain ⟨⟨dd, sl, n, v, e⟩, t1, t2, o, ho, hc, n2, hd⟩ := a
  exact ⟨⟨dd, sl, n, v, k _ _ e⟩, t1, t2, o, k _ _ ho, hc, n2, hd⟩
theorem oneLt_lists {l b t u : Addr} {x y : Int × Int} {Q : Bool → Shared → Prop} (hl : LAt s.heap l t x) (hb : LAt s.heap b u y) (hne : x ≠ y) (hu : A.units + 8 < cLine) (h : Q (HT.lexLt [x.1, x.2] [y.1, y.2]) s) :
    wpAny (model prog w) A (oneLt' true (.ref l) (.ref b)) Q E s := by
  obtain ⟨⟨dd, sl, n, v, e1⟩, t1, t2, ht⟩ := hl
  obtain ⟨⟨dd2, sl2, n2, v2, e2⟩, u1, u2, hu2⟩ := hb
  have htu : t ≠ u := fun z => by
    subst z
    obtain ⟨o, ho, hc, m, hd⟩ := ht
    obtain ⟨o', ho', hc', m', hd'⟩ := hu2
    rw [ho] at ho'
    cases ho'
    rw [hd] at hd'
    have := (Data.seq.inj hd').1
    simp only [Array.mk.injEq, List.cons.injEq, Value.int.injEq] at this
    exact hne (Prod.ext this.1.1 this.2.1.1)
  rw [oneLt'_eq]
  simp only [if_true]
  refine wpAny_bind (wpAny_cRoomFor (by omega) ?_)
  have eqA : SeqAt.EqAt A.in1 s (.ref t) (.ref u) false := by
    have R := SeqAt.RcAt.tuples (A := A.in1) (s := s) (e := fun j => if j = 0 then x.1 == y.1 else x.2 == y.2) ht hu2 (by rw [Around.in1_units]; omega) (fun j h1 h2 => by
      have h1' : j < 2 := h1
      rcases Nat.lt_or_ge j 1 with z | z
      · have : j = 0 := by omega
        subst this
        exact SeqAt.EqAt.int_int _ _ _ _
      · have : j = 1 := by omega
        subst this
        exact SeqAt.EqAt.int_int _ _ _ _)
    have e : ((List.range (min (#[Value.int x.1 t1, Value.int x.2 t2]).size (#[Value.int y.1 u1, Value.int y.2 u2]).size)).all (fun j => if j = 0 then x.1 == y.1 else x.2 == y.2) && (#[Value.int x.1 t1, Value.int x.2 t2]).size == (#[Value.int y.1 u1, Value.int y.2 u2]).size) = false := by
      show ((List.range 2).all (fun j => if j = 0 then x.1 == y.1 else x.2 == y.2) && true) = false
      have : List.range 2 = [0, 1] := rfl
      rw [this]
      simp only [List.all_cons, List.all_nil, Bool.and_true]
      by_cases c1 : x.1 = y.1
      · by_cases c2 : x.2 = y.2
        · exact absurd (Prod.ext c1 c2) hne
        · simp [c2]
      · simp [c1]
    rw [e] at R
    exact .of_refs htu R
  have ltA : ∀ prog w E (Q : Value → Shared → Prop), Q (.bool (HT.lexLt [x.1, x.2] [y.1, y.2])) s → wpAny (model prog w) A.in1 (richCompare .Lt (.ref t) (.ref u)) Q E s := fun prog w E Q q =>
    HT.lt_tupInts ht hu2 (.cons _ _ (.cons _ _ .nil)) (.cons _ _ (.cons _ _ .nil)) (by rw [Around.in1_units]; omega) q
  refine wpAny_bind (wpAny_callSpecialIfBound?_slot (T := "list") (name := "__lt__") ⟨_, e1, rfl⟩ PySem.F.slot_list_lt (call_meets PySem.F.slot_list_lt ⟨_, e1, rfl⟩ PySem.F.entry_list_lt (PySem.F.args_list_lt_2 _ _)
    (list_lt_diff l b #[.ref t, v] #[.ref u, v2] (.ref t) (.ref u) n n2 dd dd2 sl sl2 _ rfl rfl) ⟨e1, e2, eqA, ltA, ?_⟩))
  exact wpAny_truthy_bool h
theorem oneLt_self {l t : Addr} {x : Int × Int} {Q : Bool → Shared → Prop} (hl : LAt s.heap l t x) (hu : A.units + 8 < cLine) (h : Q false s) :
    wpAny (model prog w) A (oneLt' true (.ref l) (.ref l)) Q E s := by
  obtain ⟨⟨dd, sl, n, v, e1⟩, t1, t2, ht⟩ := hl
  rw [oneLt'_eq]
  simp only [if_true]
  refine wpAny_bind (wpAny_cRoomFor (by omega) ?_)
  refine wpAny_bind (wpAny_callSpecialIfBound?_slot (T := "list") (name := "__lt__") ⟨_, e1, rfl⟩ PySem.F.slot_list_lt (call_meets PySem.F.slot_list_lt ⟨_, e1, rfl⟩ PySem.F.entry_list_lt (PySem.F.args_list_lt_2 _ _)
    (list_lt_same l (.ref t) v n dd sl) ⟨e1, ?_⟩))
  exact wpAny_truthy_bool h
end
/-- a list of a fraction and a number -/
abbrev FLn := Addr × Addr × (Int × Int) × Int
def LRow (K : PySem.W.Frag) (H : Hp) (ps : List FLn) : Prop := ∀ t ∈ ps, SqL K H t.1 [.ref t.2.1, .int t.2.2.2] ∧ SqT K H t.2.1 [.int t.2.2.1.1, .int t.2.2.1.2]
abbrev flrefs (ps : List FLn) : List V := ps.map fun t => V.ref t.1
def lxl (x y : Int × Int) : Bool := HT.lexLt [x.1, x.2] [y.1, y.2]
theorem lxl_eq (x y : Int × Int) : lxl x y = true ↔ x.1 < y.1 ∨ (x.1 = y.1 ∧ x.2 < y.2) := by
  unfold lxl
  rw [HT.lexLt_cons, HT.lexLt_cons, HT.lexLt_nil_nil]
  by_cases c : x.1 = y.1
  · rw [if_pos c]
    by_cases c2 : x.2 = y.2
    · rw [if_pos c2]; simp [c2]; omega
    · rw [if_neg c2]; simp [c, Int.lt_irrefl]
  · rw [if_neg c]; simp [c]
def rSortL (K : PySem.W.Frag) : List V → Hp → VK → Prop := fun xs H Q => ∃ l, ∃ ps : List FLn, xs = [.ref l] ∧ SqL K H l (flrefs ps) ∧ LRow K H ps ∧ ps.length < 64 ∧ ps.Pairwise (fun a b => a.2.2.1 ≠ b.2.2.1) ∧
  ∀ ps' D, ps'.Perm ps → ps'.Pairwise (fun a b => lxl a.2.2.1 b.2.2.1 = true) → H D = none → Q (.ref D) (upd H D (.lst (flrefs ps')))
theorem vals_flrefs : ∀ {ps : List FLn} {us : List Value}, Vals (flrefs ps) us → us = ps.map fun t => Value.ref t.1
  | [], _, .nil => rfl
  | t :: ps, _, .cons r rr => by
    cases (show _ = Value.ref t.1 from r)
    rw [vals_flrefs rr]
    rfl
theorem vals_of_flrefs : ∀ (ps : List FLn), Vals (flrefs ps) (ps.map fun t => Value.ref t.1)
  | [] => .nil
  | t :: ps => .cons rfl (vals_of_flrefs ps)
section
variable {X : Cx}
theorem call_sortL (hu : X.A.units + 64 < cLine) : CallR X (.builtin "sorted") (rSortL X.K) := by
  intro pins s σ H xs us Q I rv h
  obtain ⟨l, ps, rfl, hq, hr, h64, hd, q⟩ := h
  obtain ⟨u, rfl, ru⟩ := vals1 rv
  cases (show u = Value.ref l from ru)
  obtain ⟨its, r, hp, hz⟩ := I.list hq
  obtain rfl := vals_flrefs r
  have hl := hp.isList
  have hlen : (ps.map fun t => Value.ref t.1).length = ps.length := List.length_map _
  have fin : ∀ (ps' : List FLn), ps'.Perm ps → ps'.Pairwise (fun a b => lxl a.2.2.1 b.2.2.1 = true) → EP X pins σ Q (.ref (s.heap.objs.size + 1)) { s with heap := sortedAll s.heap (ps.map fun t => Value.ref t.1) (List.toArray (ps'.map fun t => Value.ref t.1)) } := fun ps' p1 p2 => by
    obtain ⟨e, he⟩ := sortedAll_at s.heap (ps.map fun t => Value.ref t.1) (List.toArray (ps'.map fun t => Value.ref t.1))
    have hle : s.heap.objs.size ≤ s.heap.objs.size + 1 := Nat.le_succ _
    refine ⟨.ref (s.heap.objs.size + 1), _, I.laid (a := s.heap.objs.size + 1) (o := .lst (flrefs ps')) (t' := s.toks) (fun b o e => sortedAll_old e) hle ⟨?_, ps'.map fun t => Value.ref t.1, e, vals_of_flrefs ps', he⟩, rfl, q ps' _ p1 p2 (I.hok.fresh hle)⟩
    rw [List.length_map, p1.length_eq]
    rw [List.length_map] at hz
    exact hz
  have at_ : ∀ i (hi : i < ps.length), LAt s.heap ps[i].1 ps[i].2.1 ps[i].2.2.1 := fun i hi => by
    obtain ⟨h1, h2⟩ := hr ps[i] (List.getElem_mem hi)
    obtain ⟨its1, r1, ⟨o, n, g1, g2, g3, g4⟩, _⟩ := I.list h1
    obtain ⟨its2, r2, p2, _⟩ := I.tuple h2
    obtain ⟨u1, u2, e, x1, x2⟩ := vals2 r2
    subst e
    obtain ⟨t1, e1⟩ := (show ∃ t, u1 = Value.int _ t from x1)
    obtain ⟨t2, e2⟩ := (show ∃ t, u2 = Value.int _ t from x2)
    subst e1 e2
    obtain ⟨v1, v2, e', y1, y2⟩ := vals2 r1
    subst e'
    cases (show v1 = Value.ref _ from y1)
    obtain ⟨cls, dict, data, slots⟩ := o
    cases g2
    cases g4
    exact ⟨⟨_, _, _, _, g1⟩, t1, t2, p2⟩
  by_cases h2 : ps.length < 2
  · refine sorted_few hl (by rw [hlen]; exact h2) ?_
    refine fin ps (.refl _) ?_
    match ps, h2 with
    | [], _ => exact .nil
    | [_], _ => exact List.pairwise_singleton ..
  · have fst : ∀ i, i < ps.length → (ps.map fun t => Value.ref t.1).getD i Value.none = Value.ref (ps.getD i default).1 := fun i hi => by simp [hi]
    have dist : ∀ i j (hi : i < ps.length) (hj : j < ps.length), i ≠ j → ps[i].2.2.1 ≠ ps[j].2.2.1 := fun i j hi hj hij => by
      rcases Nat.lt_or_gt_of_ne hij with z | z
      · exact List.pairwise_iff_getElem.mp hd i j hi hj z
      · exact fun e => List.pairwise_iff_getElem.mp hd j i hj hi z e.symm
    have gdD : ∀ i (hi : i < ps.length), ps.getD i default = ps[i] := fun i hi => by simp [hi]
    refine sorted_lt (κ := oneType') (lt := fun i j => lxl (ps.getD i default).2.2.1 (ps.getD j default).2.2.1) hl (by rw [hlen]; omega) (by rw [hlen]; exact h64) ?_ ?_ ?_ ?_
    · rw [hlen]
      refine ⟨fun a b c ha hb hc e1 e2 => ?_, fun a b ha hb hab e => ?_⟩
      · rw [lxl_eq] at *
        omega
      · have ne := dist a b ha hb hab
        have e' : ¬ lxl (ps.getD a default).2.2.1 (ps.getD b default).2.2.1 = true := by rw [e]; simp
        rw [lxl_eq] at *
        rw [gdD a ha, gdD b hb] at *
        have : ¬ (ps[a].2.2.1.1 = ps[b].2.2.1.1 ∧ ps[a].2.2.1.2 = ps[b].2.2.1.2) := fun z => ne (Prod.ext z.1 z.2)
        omega
    · intro h' E' Q' keep hQ
      refine kas_kind (T := .type "list") (s := { s with heap := h' }) (by rw [hlen]; omega) (fun v hv => ?_) (by decide) (by decide) hQ
      obtain ⟨t, ht, rfl⟩ := List.mem_map.mp hv
      obtain ⟨i, hi, e⟩ := List.getElem_of_mem ht
      obtain ⟨dd, sl, n, v, g⟩ := ((at_ i hi).keep keep).lst
      rw [e] at g
      exact (Looks.ld g).andThen .now
    · intro h' i j C keep hi hj hC
      rw [hlen] at hi hj
      have a1 := (at_ i hi).keep keep
      have a2 := (at_ j hj).keep keep
      show wpAny _ _ (keyLt' oneType' _ _) C _ _
      rw [keyLt'_oneType, fst i hi, fst j hj, gdD i hi, gdD j hj] at *
      have hu' : X.A.in1.in1.units + 8 < cLine := by rw [Around.in1_units, Around.in1_units]; omega
      by_cases e : i = j
      · subst e
        refine oneLt_self (s := { s with heap := h' }) a1 hu' ?_
        have e2 : lxl ps[i].2.2.1 ps[i].2.2.1 = false := by
          have : ¬ lxl ps[i].2.2.1 ps[i].2.2.1 = true := by rw [lxl_eq]; omega
          simpa using this
        rw [e2] at hC
        exact hC
      · exact oneLt_lists (s := { s with heap := h' }) a1 a2 (dist i j hi hj e) hu' hC
    · intro p P U
      rw [hlen] at P U
      have e : outOf (ps.map fun t => Value.ref t.1) p = List.toArray ((p.toList.map fun i => ps.getD i default).map fun t => Value.ref t.1) := by
        show List.toArray _ = _
        congr 1
        rw [List.map_map]
        refine List.map_congr_left fun i hi => ?_
        have hi' : i < ps.length := by
          have := P.perm.mem_iff.mp hi
          simpa using this
        exact fst i hi'
      rw [e]
      refine fin _ ?_ ?_
      · have e2 : ps = (List.range ps.length).map fun i => ps.getD i default := by
          refine List.ext_getElem (by simp) fun i h1 h2 => ?_
          simp [h1]
        refine (P.perm.map _).trans ?_
        rw [← e2]
      · rw [List.pairwise_iff_getElem]
        intro i j hi hj hij
        have hs : p.toList.length = ps.length := by rw [Array.length_toList]; exact P.size
        rw [List.length_map] at hi hj
        have g : ∀ i (h : i < p.toList.length), p.toList[i] = gd p i := fun i h => by
          unfold gd
          rw [Array.getD_eq_getD_getElem?]
          rw [Array.getElem?_eq_getElem (by rw [Array.length_toList] at h; exact h)]
          simp
        have u := U i j hij (by omega)
        simp only [List.getElem_map]
        rw [g i hi, g j hj]
        exact u
theorem callK_sortL {K : PySem.W.Frag} (h : X.K = K) (hu : X.A.units + 64 < cLine) : CallR X (.builtin "sorted") (rSortL K) := by subst h; exact call_sortL hu
end
end L2

/-! a range of two numbers as a thing, and its list -/
set_option Elab.async false
set_option linter.all false
set_option maxRecDepth 100000
namespace L2
open PySem PySem.Spec PyProof.Rows
section
variable {X : Cx}
def tRngB (ta : TA) : TE := fun σ H Q => ta σ H fun vs H1 => ∃ i j : Int, vs = [.int i, .int j] ∧ ∀ p, H1 p = none → Q (.ref p) (upd H1 p (.rng i j))
theorem pe_rangeB {a b : Expr} {ta : TA} {p pos : Pos} (hg : Gl X "range") (hm : X.mg "range" = none) (ha : PA X [a, b] ta) (hs : starEach [a, b] X.env = [(false, eval a X.env), (false, eval b X.env)] := by rfl) (hs2 : starEach [b] X.env = [(false, eval b X.env)] := by rfl) : PE X (.Call (.Name "range" p) [a, b] [] pos) (tRngB ta) := by
  refine ⟨?_⟩
  intro pins s σ H Q I h
  refine Call_ (ld_blt I hg hm boot_range (PyProof.Rows.callWith_type1 (thn (ha pos pins s σ H _ I h) fun us s1 ⟨vs, H1, I1, r1, q1⟩ => ?_) (by rw [hs, hs2]) (by rw [hs2]; rfl)))
  obtain ⟨i, j, e, q⟩ := q1
  subst e
  cases r1 with
  | cons r rr =>
    cases rr with
    | cons r' rr =>
      cases rr
      obtain ⟨t, rfl⟩ := r
      obtain ⟨t', rfl⟩ := r'
      refine call_range_2 ?_
      exact ⟨.ref s1.heap.objs.size, _, I1.laid (o := .rng i j) (fun b o e => Heap.get?_push_of_some _ e) (Nat.le_refl _) ⟨_, _, _, Heap.get?_push_size _ rfl⟩, rfl, q _ I1.fresh⟩
def rListR : List V → Hp → VK → Prop := fun xs H Q => ∃ (p : Addr) (i j : Int) (n : Nat), xs = [.ref p] ∧ H p = some (.rng i j) ∧ (-(2 ^ 62) ≤ i ∧ i < 2 ^ 62 ∧ -(2 ^ 62) ≤ j ∧ j < 2 ^ 62) ∧ (j - i).toNat = n ∧ n ≤ 1000 ∧ ∀ l, H l = none → Q (.ref l) (upd H l (.lst ((List.range n).map fun k : Nat => V.int (i + k))))
theorem vals_of {i : Int} : ∀ {us : List Value} {m : Nat}, (∀ k (h : k < us.length), ∃ t, us[k] = .int (i + ((m + k : Nat) : Int)) t) → Vals ((List.range us.length).map fun k : Nat => V.int (i + ((m + k : Nat) : Int))) us
  | [], _, _ => .nil
  | u :: us, m, h => by
    rw [List.length_cons, List.range_succ_eq_map, List.map_cons, List.map_map]
    refine .cons ?_ ?_
    · obtain ⟨t, e⟩ := h 0 (by simp)
      exact ⟨t, e⟩
    · have := vals_of (us := us) (m := m + 1) fun k hk => by
        obtain ⟨t, e⟩ := h (k + 1) (by simp; omega)
        refine ⟨t, ?_⟩
        have e1 : m + (k + 1) = m + 1 + k := by omega
        rw [← e1]
        simpa using e
      have e2 : ((fun k : Nat => V.int (i + ((m + k : Nat) : Int))) ∘ Nat.succ) = fun k : Nat => V.int (i + ((m + 1 + k : Nat) : Int)) := by
        funext k
        show V.int _ = V.int _
        congr 3
        omega
      rw [e2]
      exact this
theorem call_listR (hc : X.calm = true) : CallR X (.type "list") rListR := by
  intro pins s σ H xs us Q I r h
  obtain ⟨p, i, j, n, rfl, hp, ⟨q1, q2, q3, q4⟩, hn, hn2, q⟩ := h
  obtain ⟨u, rfl, rx⟩ := vals1 r
  cases rx
  obtain ⟨t, u, v, hr⟩ := I.hok p _ hp
  refine call_list_range (I.ok.hd hc) hr (small_one q1 q2 q3 q4) (n := n) (by rw [rangeSize_one]; split <;> omega) (by omega) fun h' tk acc c' hk hS hacc => ?_
  obtain ⟨hsz, hit⟩ := hacc
  have hl : acc.toList.length = n := by simpa using hsz
  have rv : Vals ((List.range n).map fun k : Nat => V.int (i + k)) acc.toList := by
    have := vals_of (i := i) (us := acc.toList) (m := 0) fun k hk => by
      obtain ⟨t, e⟩ := hit k acc.toList[k] (by simp at hk ⊢)
      refine ⟨t, ?_⟩
      rw [e, Nat.zero_add, Int.mul_one]
    rw [hl] at this
    have e2 : (fun k : Nat => V.int (i + ((0 + k : Nat) : Int))) = fun k : Nat => V.int (i + k) := by
      funext k
      rw [Nat.zero_add]
    rw [e2] at this
    exact this
  refine ⟨.ref s.heap.objs.size, _, I.laid (t' := tk) hk (Nat.le_refl _) (show ObjOk X.prog X.w _ h' _ (.lst ((List.range n).map fun k : Nat => V.int (i + k))) from ⟨by rw [List.length_map, List.length_range, sizeLine_eq]; omega, acc.toList, c', rv, hS⟩), rfl, q _ (I.hok.fresh (Nat.le_refl _))⟩
theorem callK_listR {K : PySem.W.Frag} (h : X.K = K) (hc : X.calm = true) : CallR X (.type "list") rListR := call_listR hc
end
end L2

/-! lines: slopes, what lies above -/
set_option Elab.async false
set_option linter.all false
set_option maxRecDepth 100000
namespace L2
open PySem
/-- the slope to u over d from v -/
def sl (u v : Int × Int) (d : Int) : Int × Int := fr ((fr (u.1 * v.2 - v.1 * u.2) (u.2 * v.2)).1 * 1) ((fr (u.1 * v.2 - v.1 * u.2) (u.2 * v.2)).2 * d)
structure SlSpec (u v : Int × Int) (d : Int) (x : Int × Int) : Prop where
  ok : Ok x
  eq : x.1 * (u.2 * v.2 * d) = (u.1 * v.2 - v.1 * u.2) * x.2
theorem sl_spec {u v : Int × Int} {d : Int} (hu : 0 < u.2) (hv : 0 < v.2) (hd : 0 < d) : SlSpec u v d (sl u v d) := by
  have S1 := fr_spec (t := u.1 * v.2 - v.1 * u.2) (b := u.2 * v.2) (Int.ne_of_gt (Int.mul_pos hu hv))
  have h2 : (fr (u.1 * v.2 - v.1 * u.2) (u.2 * v.2)).2 * d ≠ 0 := Int.ne_of_gt (Int.mul_pos S1.pos hd)
  have S2 := fr_spec (t := (fr (u.1 * v.2 - v.1 * u.2) (u.2 * v.2)).1 * 1) h2
  refine ⟨⟨S2.pos, S2.cop⟩, ?_⟩
  have e1 := S1.ht
  have e2 := S1.hb
  have e3 := S2.ht
  have e4 := S2.hb
  unfold sl
  generalize (fr ((fr (u.1 * v.2 - v.1 * u.2) (u.2 * v.2)).1 * 1) ((fr (u.1 * v.2 - v.1 * u.2) (u.2 * v.2)).2 * d)).1 = x1 at *
  generalize (fr ((fr (u.1 * v.2 - v.1 * u.2) (u.2 * v.2)).1 * 1) ((fr (u.1 * v.2 - v.1 * u.2) (u.2 * v.2)).2 * d)).2 = x2 at *
  generalize frD ((fr (u.1 * v.2 - v.1 * u.2) (u.2 * v.2)).1 * 1) ((fr (u.1 * v.2 - v.1 * u.2) (u.2 * v.2)).2 * d) = g2 at *
  generalize (fr (u.1 * v.2 - v.1 * u.2) (u.2 * v.2)).1 = m1 at *
  generalize (fr (u.1 * v.2 - v.1 * u.2) (u.2 * v.2)).2 = m2 at *
  generalize frD (u.1 * v.2 - v.1 * u.2) (u.2 * v.2) = g1 at *
  rw [e1, e2]
  clear e1 e2 S1 S2 h2
  grind
/-- how far u lies above the line of slope x through v, d behind -/
def lft (u v : Int × Int) (d : Int) (x : Int × Int) : Int := u.1 * v.2 * x.2 - (v.1 * x.2 + x.1 * d * v.2) * u.2
theorem lft_eq (u v : Int × Int) (d : Int) (x : Int × Int) : lft u v d x = (u.1 * v.2 - v.1 * u.2) * x.2 - x.1 * (u.2 * v.2 * d) := by
  unfold lft
  grind
theorem lft_zero {u v : Int × Int} {d : Int} {x : Int × Int} (S : SlSpec u v d x) : lft u v d x = 0 := by
  rw [lft_eq, S.eq]
  omega
theorem lft_nonneg {u v : Int × Int} {d : Int} {x y : Int × Int} (S : SlSpec u v d y) (hu : 0 < u.2) (hv : 0 < v.2) (hd : 0 < d) (h : x.1 * y.2 ≤ y.1 * x.2) : 0 ≤ lft u v d x := by
  rw [lft_eq]
  have hD : 0 ≤ u.2 * v.2 * d := Int.le_of_lt (Int.mul_pos (Int.mul_pos hu hv) hd)
  have h1 := Int.mul_le_mul_of_nonneg_right h hD
  have e := S.eq
  have p := S.ok.pos
  generalize u.2 * v.2 * d = D at *
  generalize u.1 * v.2 - v.1 * u.2 = N at *
  have r1 : x.1 * D * y.2 = x.1 * y.2 * D := by ac_rfl
  have r2 : N * x.2 * y.2 = y.1 * x.2 * D := by
    have : N * x.2 * y.2 = N * y.2 * x.2 := by ac_rfl
    rw [this, ← e]
    ac_rfl
  have h2 : x.1 * D * y.2 ≤ N * x.2 * y.2 := by rw [r1, r2]; exact h1
  have h3 := Int.le_of_mul_le_mul_right h2 p
  omega
theorem lft_pos {u v : Int × Int} {d : Int} {x y : Int × Int} (S : SlSpec u v d y) (hx : Ok x) (hu : 0 < u.2) (hv : 0 < v.2) (hd : 0 < d) (h : x.1 * y.2 ≤ y.1 * x.2) (hne : y ≠ x) : 0 < lft u v d x := by
  have h0 := lft_nonneg S hu hv hd h
  by_cases z : lft u v d x = 0
  case neg => omega
  refine absurd ?_ hne
  rw [lft_eq] at z
  have hD : 0 < u.2 * v.2 * d := Int.mul_pos (Int.mul_pos hu hv) hd
  have e := S.eq
  generalize u.2 * v.2 * d = D at *
  generalize u.1 * v.2 - v.1 * u.2 = N at *
  refine Ok.eq S.ok hx ?_
  have h2 : y.1 * x.2 * D = x.1 * y.2 * D := by grind
  exact Int.eq_of_mul_eq_mul_right (by omega) h2
theorem steeper {a b c : Int × Int} {u v : Int} {x y : Int × Int} (ha : 0 < a.2) (hb : 0 < b.2) (hc : 0 < c.2) (hv : 0 < v) (hx : Ok x) (S : SlSpec c b v y) (h0 : lft b a u x = 0) (h1 : 0 < lft c a (u + v) x) : x.1 * y.2 < y.1 * x.2 := by
  rw [lft_eq] at h0 h1
  have e := S.eq
  have py := S.ok.pos
  have px := hx.pos
  -- multiply the second by b, the first by c
  have h2 : 0 < ((c.1 * a.2 - a.1 * c.2) * x.2 - x.1 * (c.2 * a.2 * (u + v))) * b.2 := Int.mul_pos h1 hb
  have h3 : 0 < ((c.1 * b.2 - b.1 * c.2) * x.2 - x.1 * (c.2 * b.2 * v)) * a.2 := by
    have : ((c.1 * b.2 - b.1 * c.2) * x.2 - x.1 * (c.2 * b.2 * v)) * a.2 = ((c.1 * a.2 - a.1 * c.2) * x.2 - x.1 * (c.2 * a.2 * (u + v))) * b.2 - ((b.1 * a.2 - a.1 * b.2) * x.2 - x.1 * (b.2 * a.2 * u)) * c.2 := by grind
    rw [this, h0]
    omega
  have h4 : 0 < (c.1 * b.2 - b.1 * c.2) * x.2 - x.1 * (c.2 * b.2 * v) := Int.pos_of_mul_pos_left h3 ha
  have h5 := Int.mul_pos h4 py
  have hD : 0 < c.2 * b.2 * v := Int.mul_pos (Int.mul_pos hc hb) hv
  generalize c.2 * b.2 * v = D at *
  generalize c.1 * b.2 - b.1 * c.2 = N at *
  have h6 : 0 < (y.1 * x.2 - x.1 * y.2) * D := by
    have : (y.1 * x.2 - x.1 * y.2) * D = (N * x.2 - x.1 * D) * y.2 := by grind
    rw [this]; exact h5
  have h7 := Int.pos_of_mul_pos_left h6 hD
  omega
theorem eqv_dO (a b : Int × Int) : PyData.eqv (dO (some a)) (dO (some b)) = decide (a = b) := by
  rw [eqv_dec (fl_dO _) (fl_dO _)]
  by_cases h : a = b
  · rw [decide_eq_true h, decide_eq_true (congrArg (fun z => dO (some z)) h)]
  · rw [decide_eq_false h, decide_eq_false fun z => h ?_]
    have h1 : [PyData.int a.1, PyData.int a.2] = [PyData.int b.1, PyData.int b.2] := PyData.tuple.inj z
    have h2 := (List.cons.inj h1).1
    have h3 := (List.cons.inj (List.cons.inj h1).2).1
    exact Prod.ext (PyData.int.inj h2) (PyData.int.inj h3)
theorem eqFr {K : PySem.W.Frag} {H : Hp} {p q : Addr} {a b : Int × Int} {Q : VK} (ha : SqT K H p [.int a.1, .int a.2]) (hb : SqT K H q [.int b.1, .int b.2]) (q' : Q (.bl (decide (a = b))) H) : rEqD K false (.ref p) (.ref q) H Q :=
  ⟨dO (some a), dO (some b), den_tup ha rfl, den_tup hb rfl, (fl_dO _).shaped (by decide), (fl_dO _).shaped (by decide), by show Q (.bl (PyData.eqv (dO (some a)) (dO (some b)))) H; rw [eqv_dO]; exact q'⟩
end L2

/-! what a fraction in lowest terms stands for -/
set_option Elab.async false
set_option linter.all false
set_option maxRecDepth 100000
namespace L2
open PySem
structure Rep (x : Int × Int) (n d : Int) : Prop where
  ok : Ok x
  pos : 0 < d
  eq : x.1 * d = n * x.2
theorem Rep.self {x : Int × Int} (h : Ok x) : Rep x x.1 x.2 := ⟨h, h.pos, rfl⟩
theorem Rep.fr {t b : Int} (h : 0 < b) : Rep (fr t b) t b := by
  have S := fr_spec (t := t) (Int.ne_of_gt h)
  refine ⟨⟨S.pos, S.cop⟩, h, ?_⟩
  have e1 := S.ht
  have e2 := S.hb
  generalize (L2.fr t b).1 = z1 at *
  generalize (L2.fr t b).2 = z2 at *
  generalize frD t b = g at *
  clear S h
  grind
/-- of fr t b, where t / b is n / d -/
theorem Rep.of_fr {t b n d : Int} (hb : 0 < b) (hd : 0 < d) (h : t * d = n * b) : Rep (L2.fr t b) n d := by
  have R := Rep.fr (t := t) hb
  refine ⟨R.ok, hd, ?_⟩
  have e := R.eq
  generalize (L2.fr t b).1 = z1 at *
  generalize (L2.fr t b).2 = z2 at *
  have h2 : z1 * d * b = n * z2 * b := by
    clear R hb hd
    grind
  exact Int.eq_of_mul_eq_mul_right (by omega) h2
theorem Rep.ad {x y : Int × Int} {n d n' d' : Int} (hx : Rep x n d) (hy : Rep y n' d') : Rep (ad x y) (n * d' + n' * d) (d * d') := by
  refine Rep.of_fr (Int.mul_pos hx.ok.pos hy.ok.pos) (Int.mul_pos hx.pos hy.pos) ?_
  have e1 := hx.eq
  have e2 := hy.eq
  generalize x.1 = x1 at *
  generalize x.2 = x2 at *
  generalize y.1 = y1 at *
  generalize y.2 = y2 at *
  clear hx hy
  grind
theorem Rep.scale {x : Int × Int} {n d m : Int} (hx : Rep x n d) : Rep (L2.fr (x.1 * m) x.2) (n * m) d := by
  refine Rep.of_fr hx.ok.pos hx.pos ?_
  have e1 := hx.eq
  generalize x.1 = x1 at *
  generalize x.2 = x2 at *
  clear hx
  grind
theorem Rep.sl {u v : Int × Int} {n d n' d' δ : Int} (hu : Rep u n d) (hv : Rep v n' d') (h : 0 < δ) : Rep (sl u v δ) (n * d' - n' * d) (d * d' * δ) := by
  have S := sl_spec (d := δ) hu.ok.pos hv.ok.pos h
  refine ⟨S.ok, Int.mul_pos (Int.mul_pos hu.pos hv.pos) h, ?_⟩
  have e := S.eq
  have e1 := hu.eq
  have e2 := hv.eq
  have p : 0 < u.2 * v.2 := Int.mul_pos hu.ok.pos hv.ok.pos
  generalize (L2.sl u v δ).1 = z1 at *
  generalize (L2.sl u v δ).2 = z2 at *
  generalize u.1 = u1 at *
  generalize u.2 = u2 at *
  generalize v.1 = v1 at *
  generalize v.2 = v2 at *
  have h2 : z1 * (d * d' * δ) * (u2 * v2) = (n * d' - n' * d) * z2 * (u2 * v2) := by
    have a1 : z1 * (d * d' * δ) * (u2 * v2) = z1 * (u2 * v2 * δ) * (d * d') := by ac_rfl
    rw [a1, e]
    clear a1 e p S h
    grind
  exact Int.eq_of_mul_eq_mul_right (by omega) h2
theorem Rep.uniq {x y : Int × Int} {n d n' d' : Int} (hx : Rep x n d) (hy : Rep y n' d') (h : n * d' = n' * d) : x = y := by
  refine Ok.eq hx.ok hy.ok ?_
  have e1 := hx.eq
  have e2 := hy.eq
  have p : 0 < d * d' := Int.mul_pos hx.pos hy.pos
  generalize x.1 = x1 at *
  generalize x.2 = x2 at *
  generalize y.1 = y1 at *
  generalize y.2 = y2 at *
  have h2 : x1 * y2 * (d * d') = y1 * x2 * (d * d') := by
    clear hx hy p
    grind
  exact Int.eq_of_mul_eq_mul_right (by omega) h2
theorem Rep.le {x y : Int × Int} {n d n' d' : Int} (hx : Rep x n d) (hy : Rep y n' d') : x.1 * y.2 ≤ y.1 * x.2 ↔ n * d' ≤ n' * d := by
  have e1 := hx.eq
  have e2 := hy.eq
  have p1 : 0 < d * d' := Int.mul_pos hx.pos hy.pos
  have p2 : 0 < x.2 * y.2 := Int.mul_pos hx.ok.pos hy.ok.pos
  have key : (y.1 * x.2 - x.1 * y.2) * (d * d') = (n' * d - n * d') * (x.2 * y.2) := by
    generalize x.1 = x1 at *
    generalize x.2 = x2 at *
    generalize y.1 = y1 at *
    generalize y.2 = y2 at *
    clear hx hy p1 p2
    grind
  constructor
  · intro h
    have h1 : 0 ≤ (y.1 * x.2 - x.1 * y.2) * (d * d') := Int.mul_nonneg (by omega) (Int.le_of_lt p1)
    rw [key] at h1
    have := Int.nonneg_of_mul_nonneg_left h1 p2
    omega
  · intro h
    have h1 : 0 ≤ (n' * d - n * d') * (x.2 * y.2) := Int.mul_nonneg (by omega) (Int.le_of_lt p2)
    rw [← key] at h1
    have := Int.nonneg_of_mul_nonneg_left h1 p1
    omega
end L2

set_option Elab.async false
set_option linter.all false
set_option maxRecDepth 100000
namespace L2
open PySem PySem.Spec PyProof.Rows
section
variable {X : Cx} {e : Expr} {lo hi : Option Expr} {se : Expr} {te : TE} {tl th ts : TO} {p2 pos : Pos}
theorem filterMap_all {α β : Type} {f : α → Option β} {g : α → β} : ∀ {l : List α}, (∀ x ∈ l, f x = some (g x)) → l.filterMap f = l.map g
  | [], _ => rfl
  | x :: l, h => by
    rw [List.filterMap_cons, h x (by simp), List.map_cons, filterMap_all fun y hy => h y (by simp [hy])]
theorem pick_rev (its : List Value) : slicePick its.toArray none none (some (-1)) = its.reverse.toArray := by
  have hb : sliceBounds none none (some (-1)) its.toArray.size = ((its.length : Int) - 1, -1, -1) := by
    simp [sliceBounds]
  unfold slicePick
  rw [hb]
  congr 1
  show (sliceRange ((its.length : Int) - 1) (-1) (-1)).filterMap (its.toArray[·]?) = its.reverse
  have hr : sliceRange ((its.length : Int) - 1) (-1) (-1) = (List.range its.length).map fun i : Nat => its.length - 1 - i := by
    unfold sliceRange
    have hc : (if (-1 : Int) > 0 then (if (its.length : Int) - 1 < -1 then (-1 - ((its.length : Int) - 1) + -1 - 1) / -1 else 0) else (if (its.length : Int) - 1 > -1 then ((its.length : Int) - 1 - -1 - -1 - 1) / (- -1) else 0)).toNat = its.length := by
      rw [if_neg (by decide), show (- -1 : Int) = 1 from rfl, Int.ediv_one]
      split <;> omega
    show (List.range (_ : Int).toNat).map _ = _
    rw [hc]
    refine List.map_congr_left fun k hk => ?_
    have := List.mem_range.mp hk
    omega
  rw [hr, List.filterMap_map]
  refine List.ext_getElem (by
    rw [filterMap_all (g := fun i => (its[its.length - 1 - i]?).getD .none) fun i hi => ?_]
    · simp
    · have h := List.mem_range.mp hi
      show its.toArray[its.length - 1 - i]? = _
      rw [List.getElem?_toArray, List.getElem?_eq_getElem (by omega)]
      rfl) fun i h1 h2 => ?_
  have hall : ((List.range its.length).filterMap ((fun x => its.toArray[x]?) ∘ fun i => its.length - 1 - i)) = (List.range its.length).map fun i => (its[its.length - 1 - i]?).getD .none := filterMap_all fun i hi => by
    have h := List.mem_range.mp hi
    show its.toArray[its.length - 1 - i]? = _
    rw [List.getElem?_toArray, List.getElem?_eq_getElem (by omega)]
    rfl
  have hi : i < its.length := by simpa using h2
  simp only [hall, List.getElem_map, List.getElem_range, List.getElem_reverse]
  rw [List.getElem?_eq_getElem (by omega)]
  rfl
def tSl3 (K : PySem.W.Frag) (te : TE) (tl th ts : TO) : TE := fun σ H Q => te σ H fun x H1 => tl σ H1 fun l H2 => th σ H2 fun u H3 => ts σ H3 fun k H4 => l = none ∧ u = none ∧ k = some (-1) ∧ ∃ a xs, x = .ref a ∧ SqL K H4 a xs ∧ ∀ p, H4 p = none → Q (.ref p) (upd H4 p (.lst xs.reverse))
theorem vals_rev {xs : List V} {us : List Value} (h : Vals xs us) : Vals xs.reverse us.reverse := by
  induction h with
  | nil => exact .nil
  | cons r _ ih =>
    rw [List.reverse_cons, List.reverse_cons]
    exact ih.append (.cons r .nil)
theorem pe_slice3 {K : PySem.W.Frag} (hK : X.K = K) (he : PE X e te) (hl : PO X lo tl) (hu : PO X hi th) (hst : PO X (some se) ts) : PE X (.Subscript e (.Slice lo hi (some se) p2) pos) (tSl3 K te tl th ts) := by
  subst hK
  refine ⟨?_⟩
  intro pins s σ H Q I h
  refine Subscript_ (thn (he pins s σ H _ I h) fun v s1 ⟨x, H1, I1, r1, q1⟩ => ?_)
  refine wpAny_Slice (thn (hl pins s1 σ H1 _ I1 q1) fun vl s2 ⟨l, H2, I2, pl, q2⟩ => thn (hu pins s2 σ H2 _ I2 q2) fun vu s3 ⟨u, H3, I3, pu, q3⟩ => thn (hst pins s3 σ H3 _ I3 q3) fun vk s4 ⟨k, H4, I4, pk, q4⟩ => ?_)
  obtain ⟨rfl, rfl, rfl, a, xs, rfl, hx, q⟩ := q4
  cases r1
  have I5 : Inv X pins σ H4 { s4 with heap := s4.heap.push { cls := .type "slice", data := .fields #[vl, vu, vk] } } := I4.kept (t' := s4.toks) fun b ob q => Heap.get?_push_of_some _ q
  show wpAny (model X.prog X.w) X.A (subscriptTail e (.Slice lo hi (some se) p2) (.ref a) (.ref s4.heap.objs.size)) (EP X pins σ Q) X.xe { s4 with heap := s4.heap.push { cls := .type "slice", data := .fields #[vl, vu, vk] } }
  obtain ⟨its, r, ht, hz⟩ := I5.list hx
  have hlen := r.length
  refine tail_any (ops := [.ref a, .ref s4.heap.objs.size]) (T := "list") ht.isList.typeIs slot_list_getitem.lookup ?_ (by with_unfolding_all rfl)
  refine wpAny_getItem_list_slice ht.isList (Heap.IsSliceOf.new ..) pl pu pk (by simp) ?_ (by rw [List.size_toArray] <;> omega)
  rw [pick_rev]
  refine ⟨.ref _, _, I5.laid (t' := s4.toks) (o := .lst xs.reverse) (fun b ob q => Heap.get?_push_of_some _ q) (Nat.le_refl _) ?_, rfl, q _ ?_⟩
  · exact ⟨by rw [List.length_reverse]; exact hz, _, 0, vals_rev r, Heap.get?_push_size _ rfl⟩
  · exact I5.fresh
end
end L2

/-! a, b = a list of that length -/
set_option Elab.async false
set_option linter.all false
set_option maxRecDepth 100000
namespace L2
open PySem PySem.Spec PySem.W PyProof.Rows
section
variable {prog : Program} {w : World} {A : Around} {E : Value → Shared → Prop}
theorem draw_list {it t : Addr} {items : Array Value} (hne : t ≠ it) : ∀ (n i : Nat) (s : Shared) (Q : List Value → Shared → Prop), s.heap.IsListIter it t i → s.heap.IsList t items → i + n ≤ items.size →
    (∀ h', h'.IsListIter it t (i + n) → Heap.SameBut it s.heap h' → Q ((items.toList.drop i).take n) { s with heap := h' }) → wpAny (model prog w) A (draw (.ref it) n) Q E s
  | 0, i, s, Q, hit, _, _, hQ => by
    show wpAny _ _ (pure []) Q E s
    exact wpAny_pure (by simpa using hQ s.heap hit (Heap.SameBut.refl ..))
  | n + 1, i, s, Q, hit, ht, hle, hQ => by
    have hlt : i < items.size := by omega
    show wpAny _ _ (pyNext (.ref it) >>= _) Q E s
    refine wpAny_bind (wpAny_pyNext_list_item hit ht (x := items[i]) (by simp [hlt]) fun h₁ hit₁ hs₁ => ?_)
    refine wpAny_bind (wpAny_holding (draw_list hne n (i + 1) _ _ hit₁ (ht.extBut hs₁.extBut hne) (by omega) fun h₂ hit₂ hs₂ => wpAny_pure ?_))
    have hd : items.toList.drop i = items[i] :: items.toList.drop (i + 1) := by simp [List.drop_eq_getElem_cons, hlt]
    have := hQ h₂ (by rw [show i + (n + 1) = i + 1 + n by omega]; exact hit₂) (hs₁.trans hs₂)
    rw [hd, List.take_succ_cons] at this
    exact this
variable {s : Shared}
theorem unpackItems_list {t : Addr} {items : Array Value} {Q : List Value → Shared → Prop} (hh : A.handled = none) (ht : s.heap.IsList t items)
    (hQ : ∀ h', Heap.ExtBut s.heap.objs.size s.heap h' → Q items.toList { s with heap := h' }) : wpAny (model prog w) A (unpackItems (.ref t) items.size none) Q E s := by
  have hlt : t ≠ s.heap.objs.size := by obtain ⟨o, ho, _⟩ := ht; exact Nat.ne_of_lt (Heap.lt_size ho)
  unfold unpackItems
  refine wpAny_bind ?_
  · unfold notIterableAtAll
    refine wpAny_bind (wpAny_specialOf ht.typeIs slot_list_iter.lookup ?_)
    refine wpAny_pure ?_
    simp only [Bool.false_eq_true, if_false]
    refine wpAny_bind (wpAny_holding (wpAny_pyIter_list ht ?_))
    refine wpAny_bind (wpAny_holding (draw_list hlt items.size 0 _ _ ⟨_, Heap.get?_push_size _ rfl, rfl, rfl⟩ (ht.push _) (by omega) fun h₁ hit₁ hs₁ => ?_))
    have hall : List.take items.size (List.drop 0 items.toList) = items.toList := by
      rw [List.drop_zero]; exact List.take_of_length_le (by simp)
    rw [hall]
    rw [if_neg (by simp)]
    have ht₁ : h₁.IsList t items := (ht.push _).extBut hs₁.extBut hlt
    refine wpAny_bind (wpAny_holding (wpAny_pyNext_list_end hh hit₁ ht₁ (by simp) fun h₂ he₂ => ?_))
    simp only [Option.isSome_none, Bool.false_eq_true, if_false]
    refine wpAny_pure (hQ h₂ fun b o hb e => he₂ b o hb (hs₁.extBut b o hb (Heap.get?_push_of_some _ e)))
theorem unpack_list {t : Addr} {items : Array Value} {targets : List (Bool × (Value → Sem Unit))} {Q : Unit → Shared → Prop} (hh : A.handled = none) (ht : s.heap.IsList t items)
    (hn : targets.length = items.size) (hstar : targets.findIdx? (·.1) = none)
    (h : ∀ h', Heap.ExtBut s.heap.objs.size s.heap h' → wpAny (model prog w) A (assignInOrder (targets.map (·.2)) items.toList) Q E { s with heap := h' }) :
    wpAny (model prog w) A (unpack (.ref t) targets) Q E s := by
  unfold unpack
  rw [hn, hstar]
  exact wpAny_bind (wpAny_holding (unpackItems_list hh ht h))
theorem assign_Tuple_list {env : Env} {elts : List Expr} {x1} {pos : Pos} {t : Addr} {items : Array Value} {Q : Unit → Shared → Prop} (hh : A.handled = none) (ht : s.heap.IsList t items)
    (hn : (assignEach elts env).length = items.size) (hstar : (assignEach elts env).findIdx? (·.1) = none)
    (h : ∀ h', Heap.ExtBut s.heap.objs.size s.heap h' → wpAny (model prog w) A (assignInOrder ((assignEach elts env).map (·.2)) items.toList) Q E { s with heap := h' }) :
    wpAny (model prog w) A (assign (.Tuple elts x1 pos) env (.ref t)) Q E s := by
  rw [assign_Tuple]
  exact wpAny_bind (wpAny_standAt (unpack_list hh ht hn hstar h))
end
section
variable {X : Cx}
def gLst (K : PySem.W.Frag) (n : Nat) (t : TGs) : TG := fun v σ H Q => ∃ a xs, v = .ref a ∧ SqL K H a xs ∧ xs.length = n ∧ t xs σ H Q
theorem pg_lst {es : List Expr} {k : Nat} {t : TGs} {n : Nat} {pos : Pos} (hc : X.calm = true) (h : PGs X es t)
    (hn : (assignEach es X.env).length = n := by rfl) (hst : (assignEach es X.env).findIdx? (·.1) = none := by rfl) : PG X (.Tuple es k pos) (gLst X.K n t) := by
  intro pins s σ H v u Q I r hw
  obtain ⟨a, xs, e1, hq, hl, hw⟩ := hw
  subst e1
  cases r
  obtain ⟨its, rv, ht, hz⟩ := I.list hq
  refine assign_Tuple_list (I.ok.hd hc) ht.isList (by simp [hn, ← hl, rv.length]) hst fun h' hx => ?_
  have I1 : Inv X pins σ H { s with heap := h' } := I.kept (t' := s.toks) fun b o e => hx b o (Nat.ne_of_lt (Heap.lt_size e)) e
  exact h pins _ σ H xs _ Q I1 (by simpa using rv) hw
theorem pgK_lst {K : PySem.W.Frag} {es : List Expr} {k : Nat} {t : TGs} {n : Nat} {pos : Pos} (hK : X.K = K) (hc : X.calm = true) (h : PGs X es t)
    (hn : (assignEach es X.env).length = n := by rfl) (hst : (assignEach es X.env).findIdx? (·.1) = none := by rfl) : PG X (.Tuple es k pos) (gLst K n t) := by subst hK; exact pg_lst hc h hn hst
end
end L2

set_option Elab.async false
set_option linter.all false
set_option maxRecDepth 100000
set_option maxHeartbeats 1000000
namespace K25
open PySem L2
local macro_rules | `(tactic| walk_at "rd") => `(tactic| repeat ((fail_if_success with_reducible refine ite2 ?_ ?_); first | refine ⟨_, rfl, ?_⟩ | refine ⟨_, _, rfl, rfl, ?_⟩ | refine ⟨show (_ : Int) ≠ 0 by decide, ?_⟩ | refine ⟨show CMulO _ _ from mulOkR (by decide) (by decide), ?_⟩ | refine ⟨show CMulO _ _ from mulOkL (by decide) (by decide), ?_⟩ | refine ⟨show CDivW _ _ from (Bd.small (by decide) (by decide)).dv (by decide), ?_⟩ | refine ⟨show CPow _ _ from ⟨by decide, by decide, by decide⟩, ?_⟩ | refine ⟨show scal _ _ = true from rfl, ?_⟩ | refine ⟨show isPlain _ = true from rfl, ?_⟩ | refine ⟨show List.length _ ≤ sizeLine from len_ok rfl, ?_⟩))
def top (i : Nat) : Stmt := PySem.Challenge.pw_branchdepth_k25_whole_sides_put_together.main.body.getD i (.Pass ⟨0, 0, 0, 0⟩)
abbrev s_common_divisor : Stmt := top 1
theorem sc_common_divisor : FnScope ["one", "other"] ["one", "other"] (defScope s_common_divisor) := ⟨rfl, rfl, rfl, by decide +kernel, rfl, by decide +kernel, by decide +kernel⟩
abbrev s_fraction : Stmt := top 2
theorem sc_fraction : FnScope ["top", "bottom", "divisor"] ["top", "bottom"] (defScope s_fraction) := ⟨rfl, rfl, rfl, by decide +kernel, rfl, by decide +kernel, by decide +kernel⟩
abbrev s_plus : Stmt := top 3
theorem sc_plus : FnScope ["u", "v"] ["u", "v"] (defScope s_plus) := ⟨rfl, rfl, rfl, by decide +kernel, rfl, by decide +kernel, by decide +kernel⟩
abbrev s_minus : Stmt := top 4
theorem sc_minus : FnScope ["u", "v"] ["u", "v"] (defScope s_minus) := ⟨rfl, rfl, rfl, by decide +kernel, rfl, by decide +kernel, by decide +kernel⟩
abbrev s_over : Stmt := top 5
theorem sc_over : FnScope ["u", "v"] ["u", "v"] (defScope s_over) := ⟨rfl, rfl, rfl, by decide +kernel, rfl, by decide +kernel, by decide +kernel⟩
abbrev s_is_less : Stmt := top 6
theorem sc_is_less : FnScope ["u", "v"] ["u", "v"] (defScope s_is_less) := ⟨rfl, rfl, rfl, by decide +kernel, rfl, by decide +kernel, by decide +kernel⟩
abbrev s_least : Stmt := top 7
theorem sc_least : FnScope ["some", "told", "u"] ["some"] (defScope s_least) := ⟨rfl, rfl, rfl, by decide +kernel, rfl, by decide +kernel, by decide +kernel⟩
abbrev s_slope_between : Stmt := top 9
theorem sc_slope_between : FnScope ["sizes", "s", "t"] ["sizes", "s", "t"] (defScope s_slope_between) := ⟨rfl, rfl, rfl, by decide +kernel, rfl, by decide +kernel, by decide +kernel⟩
abbrev s_next_side : Stmt := top 10
theorem sc_next_side : FnScope ["sizes", "places", "s", "behind", "slope", "t"] ["sizes", "places", "s"] (defScope s_next_side) := ⟨rfl, rfl, rfl, by decide +kernel, rfl, by decide +kernel, by decide +kernel⟩
abbrev s_sides : Stmt := top 11
theorem sc_sides : FnScope ["sizes", "places", "told", "s", "side"] ["sizes"] (defScope s_sides) := ⟨rfl, rfl, rfl, by decide +kernel, rfl, by decide +kernel, by decide +kernel⟩
abbrev s_joined : Stmt := top 12
theorem sc_joined : FnScope ["one", "other", "told", "at", "size", "place", "more", "total"] ["one", "other"] (defScope s_joined) := ⟨rfl, rfl, rfl, by decide +kernel, rfl, by decide +kernel, by decide +kernel⟩
abbrev s_q_bag : Stmt := top 14
theorem sc_q_bag : FnScope ["_law_script", "_law_at", "_law_cell", "_law_great"] ["_law_script", "_law_at"] (defScope s_q_bag) := ⟨rfl, rfl, rfl, by decide +kernel, rfl, by decide +kernel, by decide +kernel⟩
abbrev s_q_take : Stmt := top 15
theorem sc_q_take : FnScope ["_law_bag_here", "_law_many", "_law_digit"] ["_law_bag_here", "_law_many"] (defScope s_q_take) := ⟨rfl, rfl, rfl, by decide +kernel, rfl, by decide +kernel, by decide +kernel⟩
abbrev s_q_low : Stmt := top 16
theorem sc_q_low : FnScope ["_law_top", "_law_bottom", "_law_one", "_law_other", "_law_rest"] ["_law_top", "_law_bottom"] (defScope s_q_low) := ⟨rfl, rfl, rfl, by decide +kernel, rfl, by decide +kernel, by decide +kernel⟩
abbrev s_q_sizes : Stmt := top 17
theorem sc_q_sizes : FnScope ["_law_bag_here", "_law_most", "_law_far", "_law_found", "_law_k", "_law_size"] ["_law_bag_here", "_law_most"] (defScope s_q_sizes) := ⟨rfl, rfl, rfl, by decide +kernel, rfl, by decide +kernel, by decide +kernel⟩
abbrev s_q_lengths : Stmt := top 18
theorem sc_q_lengths : FnScope ["_law_found", "_law_made", "_law_s", "_law_t", "_law_slope"] ["_law_found"] (defScope s_q_lengths) := ⟨rfl, rfl, rfl, by decide +kernel, rfl, by decide +kernel, by decide +kernel⟩
abbrev s_q_merged : Stmt := top 19
theorem sc_q_merged : FnScope ["_law_one", "_law_other", "_law_found", "_law_slope", "_law_size", "_law_some"] ["_law_one", "_law_other"] (defScope s_q_merged) := ⟨rfl, rfl, rfl, by decide +kernel, rfl, by decide +kernel, by decide +kernel⟩
abbrev s_q_begin : Stmt := top 20
theorem sc_q_begin : FnScope ["_law_sizes_here"] ["_law_sizes_here"] (defScope s_q_begin) := ⟨rfl, rfl, rfl, by decide +kernel, rfl, by decide +kernel, by decide +kernel⟩
abbrev s_law : Stmt := top 21
theorem sc_law : FnScope ["_law_script", "_law_at", "_law_bag_here", "_law_one", "_law_other", "_law_both", "_law_due", "_law_found"] ["_law_script"] (defScope s_law) := ⟨rfl, rfl, rfl, by decide +kernel, rfl, by decide +kernel, by decide +kernel⟩
structure Blt (mg : Str → Option Value) : Prop where
  «abs» : mg "abs" = none
  «enumerate» : mg "enumerate" = none
  «len» : mg "len" = none
  «list» : mg "list" = none
  «max» : mg "max" = none
  «min» : mg "min" = none
  «range» : mg "range" = none
  «sorted» : mg "sorted" = none
def spGcdA : Sp := fun vs H Q _ => ∃ a b : Int, vs = [.int a, .int b] ∧ Q (.int (gcdI a b)) H
def tupF (t b : Int) : HO := .tup [.int (fr t b).1, .int (fr t b).2]
def spFrac : Sp := fun vs H Q _ => ∃ t b : Int, vs = [.int t, .int b] ∧ b ≠ 0 ∧ Bd 9000 b ∧ ∀ r H', Same H H' → H' r = some (tupF t b) → Q (.ref r) H'
section
variable {P : Program} {w : World} {K : PySem.W.Frag} {mg : Str → Option Value} {base : Heap}
theorem abs_of {a : Int} : (if a < 0 then -a else a) = (a.natAbs : Int) := by split <;> omega
theorem gcd_abs (a b : Int) : Int.gcd (a.natAbs : Int) (b.natAbs : Int) = Int.gcd a b := by simp [Int.gcd]
theorem euclid {x y : Int} (hy : 0 ≤ y) (h : y ≠ 0) : Int.gcd y (x.fmod y) = Int.gcd x y ∧ 0 ≤ x.fmod y ∧ (x.fmod y).natAbs < y.natAbs := by
  have hp : 0 < y := by omega
  have r := fmod_range x hp
  exact ⟨gcd_step x y hp, r.1, by omega⟩
def IsSign (n : Int) : Prop := n = 1 ∨ n = -1
theorem sign (x : Int) : ∃ n, atI [V.int 1, V.int (-1)] (x.fmod 2) = some (.int n) ∧ IsSign n := by
  have r := fmod_range x (y := 2) (by decide)
  refine pick r.1 r.2 ?_
  intro v hv
  simp only [List.mem_cons, List.not_mem_nil, or_false] at hv
  rcases hv with rfl | rfl
  · exact ⟨_, rfl, .inl rfl⟩
  · exact ⟨_, rfl, .inr rfl⟩
theorem sign_ok {x s : Int} (h : IsSign s) : CMulO x s := by rcases h with rfl | rfl <;> exact mulOkR (by decide) (by decide)
theorem IsSign.bd {x s : Int} {m : Nat} (h : IsSign s) (hx : Bd m x) : Bd m (x * s) := Bd.le (y := x) (by rcases h with rfl | rfl <;> simp) hx
theorem IsSign.ne {x s : Int} (h : IsSign s) (hx : x ≠ 0) : x * s ≠ 0 := by rcases h with rfl | rfl <;> omega
theorem fmod_bd {x y : Int} {m : Nat} (hy : 0 < y) (h : Bd m y) : Bd m (x.fmod y) := Bd.le (y := y) (by have := fmod_range x hy; omega) h
theorem ok_common_divisor (B : Blt mg) (F : Src K mg "common_divisor" s_common_divisor ["one", "other"]) : Dfn P w K mg base 1 "common_divisor" ["one", "other"] spGcdA := by
  refine F.ok sc_common_divisor (fun vs H Q E h => ?_) (fun f cdv A outer s H vs Q E hr h => ?_)
  · obtain ⟨a, b, rfl, _⟩ := h; rfl
  obtain ⟨a, b, rfl, q⟩ := h
  refine ⟨_, pss_cons (ps_set (i := 0) sc_common_divisor.nd rfl (Or.inl rfl) (pe_callB call_abs rfl B.«abs» bt_abs (pa_cons (pv 0) pa_nil)))
    (pss_cons (ps_set (i := 1) sc_common_divisor.nd rfl (Or.inl rfl) (pe_callB call_abs rfl B.«abs» bt_abs (pa_cons (pv 1) pa_nil)))
    (pss_cons (ps_while PassesOwn.never (pt_cmpR op_ne (pv 1) pe_int (nomark _))
      (pss_one (ps_par (i := 0) (j := 1) rfl sc_common_divisor.nd rfl rfl (by decide) rfl rfl (pa_cons (pv 1) (pa_cons (pe_op op_modN (pv 0) (pv 1)) pa_nil)) rfl)))
    (pss_one (ps_ret (pv 0))))), ?_⟩
  refine ⟨_, rfl, _, rfl, ?_⟩
  refine ⟨_, rfl, _, rfl, ?_⟩
  refine while_by (fun σ H2 => H2 = H ∧ ∃ x y : Int, σ = [some (.int x), some (.int y)] ∧ 0 ≤ x ∧ 0 ≤ y ∧ Int.gcd x y = Int.gcd a b) (fun σ _ => match σ with | [_, some (.int y)] => y.natAbs | _ => 0) ?_ ?_ (fun σ H Q Q' f ⟨v, e, s, k, ek, h⟩ => ⟨v, e, s, k, ek, f _ _ h⟩)
  · exact ⟨rfl, _, _, rfl, by rw [abs_of]; omega, by rw [abs_of]; omega, by rw [abs_of, abs_of, gcd_abs]⟩
  rintro σ H2 ⟨rfl, x, y, rfl, hx, hy, hg⟩
  refine ⟨_, rfl, rfl, _, rfl, ?_⟩
  refine ite2 (fun c => ?_) (fun c => ?_)
  · have h0 : y ≠ 0 := by intro z; subst z; simp at c
    obtain ⟨e1, e2, e3⟩ := euclid (x := x) hy h0
    exact ⟨_, rfl, _, rfl, _, rfl, _, _, rfl, rfl, h0, _, _, rfl, ⟨rfl, _, _, rfl, hy, e2, e1.trans hg⟩, e3⟩
  · have h0 : y = 0 := by by_cases z : y = 0; exact z; simp [z] at c
    subst h0
    refine ⟨_, rfl, ?_⟩
    have e : x = gcdI a b := by
      unfold gcdI
      rw [← hg]
      simp
      omega
    rw [e]
    exact q
theorem ok_fraction (d_common_divisor : Dfn P w K mg base 1 "common_divisor" ["one", "other"] spGcdA) (F : Src K mg "fraction" s_fraction ["top", "bottom"]) : Dfn P w K mg base 2 "fraction" ["top", "bottom"] spFrac := by
  refine F.ok sc_fraction (fun vs H Q E h => ?_) (fun f cdv A outer s H vs Q E hr h => ?_)
  · obtain ⟨a, b, rfl, _⟩ := h; rfl
  obtain ⟨t, b, rfl, h0, hb, q⟩ := h
  refine ⟨_, pss_cons (ps_set (i := 2) sc_fraction.nd rfl (Or.inl rfl) (pe_def d_common_divisor hr (pa_cons (pv 0) (pa_cons (pv 1) pa_nil))))
    (pss_cons (ps_if (pt_cmpR op_lt (pv 1) pe_int (nomark _))
      (pss_one (ps_set (i := 2) sc_fraction.nd rfl (Or.inl rfl) (pe_un un_neg (pv 2))))
      (pss_nil))
    (pss_one (ps_ret (pe_tup (pa_cons (pe_op op_fdivW (pv 0) (pv 2)) (pa_cons (pe_op op_fdivW (pv 1) (pv 2)) pa_nil)))))), ?_⟩
  refine ⟨_, rfl, _, rfl, t, b, rfl, ?_⟩
  have S := fr_spec (t := t) h0
  refine ⟨_, rfl, _, _, rfl, rfl, _, rfl, ?_⟩
  have dv : ∀ i : Int, CDivW i (frD t b) := fun i => (Bd.le S.led hb).dv S.d0
  refine ite2 (fun c => ?_) (fun c => ?_)
  · have hn : b < 0 := of_decide_eq_true c
    have e : -gcdI t b = frD t b := by unfold frD; rw [if_pos hn]
    refine ⟨_, rfl, _, rfl, ?_⟩
    dsimp only
    rw [e]
    refine ⟨_, rfl, _, rfl, _, _, rfl, rfl, dv _, _, rfl, _, rfl, _, _, rfl, rfl, dv _, (by show 2 ≤ sizeLine; decide), fun p hp => ?_⟩
    exact q p _ (same_new hp _) upd_same
  · have hn : ¬ b < 0 := fun z => c (decide_eq_true z)
    have e : gcdI t b = frD t b := by unfold frD; rw [if_neg hn]
    rw [e]
    refine ⟨_, rfl, _, rfl, _, _, rfl, rfl, dv _, _, rfl, _, rfl, _, _, rfl, rfl, dv _, (by show 2 ≤ sizeLine; decide), fun p hp => ?_⟩
    exact q p _ (same_new hp _) upd_same
end
def spBin (K : PySem.W.Frag) (num den : Int → Int → Int → Int → Int) : Sp := fun vs H Q _ => ∃ (u v : Addr) (a b c d : Int), vs = [.ref u, .ref v] ∧ SqT K H u [.int a, .int b] ∧ SqT K H v [.int c, .int d] ∧
  Bd 1000 a ∧ Bd 1000 b ∧ Bd 1000 c ∧ Bd 1000 d ∧ den a b c d ≠ 0 ∧ ∀ r H', Same H H' → H' r = some (tupF (num a b c d) (den a b c d)) → Q (.ref r) H'
def spLess (K : PySem.W.Frag) : Sp := fun vs H Q _ => ∃ (u v : Addr) (a b c d : Int), vs = [.ref u, .ref v] ∧ SqT K H u [.int a, .int b] ∧ SqT K H v [.int c, .int d] ∧
  Bd 1000 a ∧ Bd 1000 b ∧ Bd 1000 c ∧ Bd 1000 d ∧ Q (.bl (decide (a * d < c * b))) H
section
variable {P : Program} {w : World} {K : PySem.W.Frag} {mg : Str → Option Value} {base : Heap}
theorem bd_num {a b c d : Int} (ha : Bd 1000 a) (hb : Bd 1000 b) (hc : Bd 1000 c) (hd : Bd 1000 d) : CMulO a d ∧ CMulO c b ∧ CMulO b d ∧ CMulO a c ∧ CMulO b c ∧ Bd 9000 (b * d) ∧ Bd 9000 (b * c) :=
  ⟨ha.ok hd, hc.ok hb, hb.ok hd, ha.ok hc, hb.ok hc, (hb.mul hd).mono (by decide), (hb.mul hc).mono (by decide)⟩
theorem bd_mul3 {a b : Int} (ha : Bd 1000 a) (hb : Bd 1000 b) : CMulO a b := ha.ok hb
theorem ok_is_less (F : Src K mg "is_less" s_is_less ["u", "v"]) : Dfn P w K mg base 1 "is_less" ["u", "v"] (spLess K) := by
  refine F.ok sc_is_less (fun vs H Q E h => ?_) (fun f cdv A outer s H vs Q E hr h => ?_)
  · obtain ⟨u, v, a, b, c, d, rfl, _⟩ := h; rfl
  obtain ⟨u, v, a, b, c, d, rfl, hu, hv, ha, hb, hc, hd, q⟩ := h
  obtain ⟨m1, m2, m3, m4, m5, m6, m7⟩ := bd_num ha hb hc hd
  refine ⟨_, pss_one (ps_ret (pe_cmpR op_lt (pe_op op_mulO (pe_ix (ixK_tup (K := K) rfl) (pv 0) pe_int (fun _ _ => rfl)) (pe_ix (ixK_tup (K := K) rfl) (pv 1) pe_int (fun _ _ => rfl))) (pe_op op_mulO (pe_ix (ixK_tup (K := K) rfl) (pv 1) pe_int (fun _ _ => rfl)) (pe_ix (ixK_tup (K := K) rfl) (pv 0) pe_int (fun _ _ => rfl))) (nomark _))), ?_⟩
  refine ⟨_, rfl, _, _, _, _, rfl, rfl, hu, rfl, _, rfl, _, _, _, _, rfl, rfl, hv, rfl, _, _, rfl, rfl, m1, ?_⟩
  exact ⟨_, rfl, _, _, _, _, rfl, rfl, hv, rfl, _, rfl, _, _, _, _, rfl, rfl, hu, rfl, _, _, rfl, rfl, m2, _, _, rfl, rfl, q⟩
end
section
variable {P : Program} {w : World} {K : PySem.W.Frag} {mg : Str → Option Value} {base : Heap}
theorem ok_plus (d_fraction : Dfn P w K mg base 2 "fraction" ["top", "bottom"] spFrac) (F : Src K mg "plus" s_plus ["u", "v"]) : Dfn P w K mg base 3 "plus" ["u", "v"] (spBin K (fun a b c d => a * d + c * b) fun a b c d => b * d) := by
  refine F.ok sc_plus (fun vs H Q E h => ?_) (fun f cdv A outer s H vs Q E hr h => ?_)
  · obtain ⟨u, v, a, b, c, d, rfl, _⟩ := h; rfl
  obtain ⟨u, v, a, b, c, d, rfl, hu, hv, ha, hb, hc, hd, h0, q⟩ := h
  obtain ⟨m1, m2, m3, m4, m5, m6, m7⟩ := bd_num ha hb hc hd
  refine ⟨_, pss_one (ps_ret (pe_def d_fraction hr (pa_cons (pe_op op_add (pe_op op_mulO (pe_ix (ixK_tup (K := K) rfl) (pv 0) pe_int (fun _ _ => rfl)) (pe_ix (ixK_tup (K := K) rfl) (pv 1) pe_int (fun _ _ => rfl))) (pe_op op_mulO (pe_ix (ixK_tup (K := K) rfl) (pv 1) pe_int (fun _ _ => rfl)) (pe_ix (ixK_tup (K := K) rfl) (pv 0) pe_int (fun _ _ => rfl)))) (pa_cons (pe_op op_mulO (pe_ix (ixK_tup (K := K) rfl) (pv 0) pe_int (fun _ _ => rfl)) (pe_ix (ixK_tup (K := K) rfl) (pv 1) pe_int (fun _ _ => rfl))) pa_nil)))), ?_⟩
  refine ⟨_, rfl, _, _, _, _, rfl, rfl, hu, rfl, _, rfl, _, _, _, _, rfl, rfl, hv, rfl, _, _, rfl, rfl, m1, ?_⟩
  refine ⟨_, rfl, _, _, _, _, rfl, rfl, hv, rfl, _, rfl, _, _, _, _, rfl, rfl, hu, rfl, _, _, rfl, rfl, m2, _, _, rfl, rfl, ?_⟩
  refine ⟨_, rfl, _, _, _, _, rfl, rfl, hu, rfl, _, rfl, _, _, _, _, rfl, rfl, hv, rfl, _, _, rfl, rfl, m3, ?_⟩
  exact ⟨_, _, rfl, h0, m6, q⟩
end
section
variable {P : Program} {w : World} {K : PySem.W.Frag} {mg : Str → Option Value} {base : Heap}
theorem ok_minus (d_fraction : Dfn P w K mg base 2 "fraction" ["top", "bottom"] spFrac) (F : Src K mg "minus" s_minus ["u", "v"]) : Dfn P w K mg base 3 "minus" ["u", "v"] (spBin K (fun a b c d => a * d - c * b) fun a b c d => b * d) := by
  refine F.ok sc_minus (fun vs H Q E h => ?_) (fun f cdv A outer s H vs Q E hr h => ?_)
  · obtain ⟨u, v, a, b, c, d, rfl, _⟩ := h; rfl
  obtain ⟨u, v, a, b, c, d, rfl, hu, hv, ha, hb, hc, hd, h0, q⟩ := h
  obtain ⟨m1, m2, m3, m4, m5, m6, m7⟩ := bd_num ha hb hc hd
  refine ⟨_, pss_one (ps_ret (pe_def d_fraction hr (pa_cons (pe_op op_sub (pe_op op_mulO (pe_ix (ixK_tup (K := K) rfl) (pv 0) pe_int (fun _ _ => rfl)) (pe_ix (ixK_tup (K := K) rfl) (pv 1) pe_int (fun _ _ => rfl))) (pe_op op_mulO (pe_ix (ixK_tup (K := K) rfl) (pv 1) pe_int (fun _ _ => rfl)) (pe_ix (ixK_tup (K := K) rfl) (pv 0) pe_int (fun _ _ => rfl)))) (pa_cons (pe_op op_mulO (pe_ix (ixK_tup (K := K) rfl) (pv 0) pe_int (fun _ _ => rfl)) (pe_ix (ixK_tup (K := K) rfl) (pv 1) pe_int (fun _ _ => rfl))) pa_nil)))), ?_⟩
  refine ⟨_, rfl, _, _, _, _, rfl, rfl, hu, rfl, _, rfl, _, _, _, _, rfl, rfl, hv, rfl, _, _, rfl, rfl, m1, ?_⟩
  refine ⟨_, rfl, _, _, _, _, rfl, rfl, hv, rfl, _, rfl, _, _, _, _, rfl, rfl, hu, rfl, _, _, rfl, rfl, m2, _, _, rfl, rfl, ?_⟩
  refine ⟨_, rfl, _, _, _, _, rfl, rfl, hu, rfl, _, rfl, _, _, _, _, rfl, rfl, hv, rfl, _, _, rfl, rfl, m3, ?_⟩
  exact ⟨_, _, rfl, h0, m6, q⟩
theorem ok_over (d_fraction : Dfn P w K mg base 2 "fraction" ["top", "bottom"] spFrac) (F : Src K mg "over" s_over ["u", "v"]) : Dfn P w K mg base 3 "over" ["u", "v"] (spBin K (fun a b c d => a * d) fun a b c d => b * c) := by
  refine F.ok sc_over (fun vs H Q E h => ?_) (fun f cdv A outer s H vs Q E hr h => ?_)
  · obtain ⟨u, v, a, b, c, d, rfl, _⟩ := h; rfl
  obtain ⟨u, v, a, b, c, d, rfl, hu, hv, ha, hb, hc, hd, h0, q⟩ := h
  obtain ⟨m1, m2, m3, m4, m5, m6, m7⟩ := bd_num ha hb hc hd
  refine ⟨_, pss_one (ps_ret (pe_def d_fraction hr (pa_cons (pe_op op_mulO (pe_ix (ixK_tup (K := K) rfl) (pv 0) pe_int (fun _ _ => rfl)) (pe_ix (ixK_tup (K := K) rfl) (pv 1) pe_int (fun _ _ => rfl))) (pa_cons (pe_op op_mulO (pe_ix (ixK_tup (K := K) rfl) (pv 0) pe_int (fun _ _ => rfl)) (pe_ix (ixK_tup (K := K) rfl) (pv 1) pe_int (fun _ _ => rfl))) pa_nil)))), ?_⟩
  refine ⟨_, rfl, _, _, _, _, rfl, rfl, hu, rfl, _, rfl, _, _, _, _, rfl, rfl, hv, rfl, _, _, rfl, rfl, m1, ?_⟩
  refine ⟨_, rfl, _, _, _, _, rfl, rfl, hu, rfl, _, rfl, _, _, _, _, rfl, rfl, hv, rfl, _, _, rfl, rfl, m5, ?_⟩
  exact ⟨_, _, rfl, h0, m7, q⟩
end
section
variable {P : Program} {w : World} {K : PySem.W.Frag} {mg : Str → Option Value} {base : Heap}
theorem bd_fr {t b : Int} {n : Nat} (h0 : b ≠ 0) (ht : Bd n t) (hb : Bd n b) : Bd n (fr t b).1 ∧ Bd n (fr t b).2 := by
  have S := fr_spec (t := t) h0
  have hd : 1 ≤ (frD t b).natAbs := by have := S.d0; omega
  refine ⟨Bd.le (y := t) ?_ ht, Bd.le (y := b) ?_ hb⟩
  · have e : t.natAbs = (frD t b).natAbs * (fr t b).1.natAbs := by rw [← Int.natAbs_mul, ← S.ht]
    rw [e]
    exact Nat.le_mul_of_pos_left _ hd
  · have e : b.natAbs = (frD t b).natAbs * (fr t b).2.natAbs := by rw [← Int.natAbs_mul, ← S.hb]
    rw [e]
    exact Nat.le_mul_of_pos_left _ hd
end
/-! ### sizes put together -/
def spCv (K : PySem.W.Frag) : Sp := fun vs H Q _ => ∃ (a b : Addr) (xs ys : List TSz), vs = [.ref a, .ref b] ∧ SqL K H a (tv xs) ∧ SqL K H b (tv ys) ∧ SzL H xs ∧ SzL H ys ∧ AllOk (tz xs) ∧ AllOk (tz ys) ∧ BdZ 100 (tz xs) ∧ BdZ 100 (tz ys) ∧
  1 ≤ xs.length ∧ xs.length ≤ 100 ∧ 1 ≤ ys.length ∧ ys.length ≤ 100 ∧ ∀ (p : Addr) (ts : List TSz) (H' : Hp), Same H H' → H p = none → H' p = some (.lst (tv ts)) → SzL H' ts → tz ts = cvz (tz xs) (tz ys) → Q (.ref p) H'
section
variable {P : Program} {w : World} {K : PySem.W.Frag} {mg : Str → Option Value} {base : Heap}
theorem rep_non (n : Nat) : (List.replicate n [V.non]).flatten = tv (List.replicate n ((V.non, none) : TSz)) := by
  induction n with
  | zero => rfl
  | succ n ih => rw [List.replicate_succ, List.flatten_cons, ih, List.replicate_succ]; rfl
theorem tz_rep (n : Nat) : tz (List.replicate n ((V.non, none) : TSz)) = List.replicate n none := by simp [tz]
theorem bd_ad {u v : Int × Int} {n : Nat} (pu : 0 < u.2) (pv : 0 < v.2) (hu : Bd n u.1 ∧ Bd n u.2) (hv : Bd n v.1 ∧ Bd n v.2) : Bd (n + n + 1) (ad u v).1 ∧ Bd (n + n + 1) (ad u v).2 := by
  refine bd_fr (Int.ne_of_gt (Int.mul_pos pu pv)) ?_ ((hu.2.mul hv.2).mono (by omega))
  refine ((hu.1.mul hv.2).add (hv.1.mul hu.2)).mono (by omega)
theorem bst_bd {xs ys : List Sz} {n : Nat} (hx : AllOk xs) (hy : AllOk ys) (bx : BdZ n xs) (bY : BdZ n ys) {k i : Nat} {x : Int × Int} (h : bst xs ys k i = some x) : Ok x ∧ Bd (n + n + 1) x.1 ∧ Bd (n + n + 1) x.2 := by
  rcases fold_least (T := sm xs ys k) (fun i x e => (sm_ok hx hy e).pos) i with ⟨z, _⟩ | ⟨y, ey, ⟨j, hj, ej⟩, _⟩
  · have : bst xs ys k i = none := z
    rw [this] at h; cases h
  · have : bst xs ys k i = some y := ey
    rw [this] at h
    cases h
    refine ⟨sm_ok hx hy ej, ?_⟩
    obtain ⟨_, u, v, e1, e2, rfl⟩ := sm_some ej
    exact bd_ad (hx u (gz_mem e1).2).pos (hy v (gz_mem e2).2).pos (bx u (gz_mem e1).2) (bY v (gz_mem e2).2)
theorem step_keep {L t : Nat} {A B : Nat → Sz} (h : A t = B t) : ((List.range L).map fun k => if k < t then A k else B k) = (List.range L).map fun k => if k < t + 1 then A k else B k := by
  refine List.map_congr_left fun k hk => ?_
  by_cases c : k < t
  · rw [if_pos c, if_pos (by omega)]
  · rw [if_neg c]
    by_cases c2 : k = t
    · rw [c2, if_pos (by omega), h]
    · rw [if_neg (by omega)]
theorem step_set {L t : Nat} {A B : Nat → Sz} {z : Sz} (h : A t = z) : (((List.range L).map fun k => if k < t then A k else B k)).set t z = (List.range L).map fun k => if k < t + 1 then A k else B k := by
  refine List.ext_getElem (by simp) fun k h1 h2 => ?_
  rw [List.getElem_set]
  simp only [List.getElem_map, List.getElem_range]
  by_cases c : t = k
  · subst c
    rw [if_pos rfl, if_pos (by omega), h]
  · rw [if_neg c]
    by_cases c2 : k < t
    · rw [if_pos c2, if_pos (by omega)]
    · rw [if_neg c2, if_neg (by omega)]
theorem tz_set (ts : List TSz) (k : Nat) (t : TSz) : tz (ts.set k t) = (tz ts).set k t.2 := by simp [tz, List.map_set]
theorem tv_set (ts : List TSz) (k : Nat) (t : TSz) : tv (ts.set k t) = (tv ts).set k t.1 := by simp [tv, List.map_set]
theorem SzL.set {H : Hp} {ts : List TSz} (h : SzL H ts) (k : Nat) {t : TSz} (ht : SzV H t.1 t.2) : SzL H (ts.set k t) := fun x hx => by
  rcases List.mem_or_eq_of_mem_set hx with z | z
  · exact h x z
  · rw [z]; exact ht
theorem bst_succ (xs ys : List Sz) (k i : Nat) : bst xs ys k (i + 1) = mn (bst xs ys k i) (sm xs ys k i) := rfl
theorem sm_at (xs ys : List Sz) (i j : Nat) : sm xs ys (i + j) i = adS (gz xs i) (gz ys j) := by
  unfold sm
  rw [if_pos (by omega), show i + j - i = j by omega]
theorem tz_at {ts : List TSz} {L t : Nat} {f : Nat → Sz} (h : tz ts = (List.range L).map f) (hl : t < ts.length) : ts[t].2 = f t := by
  have e : (tz ts)[t]'(by rw [List.length_map]; exact hl) = ts[t].2 := by simp
  rw [← e]
  simp only [h, List.getElem_map, List.getElem_range]
theorem tz_len {ts : List TSz} {L : Nat} {f : Nat → Sz} (h : tz ts = (List.range L).map f) : ts.length = L := by
  have := congrArg List.length h
  simpa using this
theorem ok_joined (B : Blt mg) (d_plus : Dfn P w K mg base 3 "plus" ["u", "v"] (spBin K (fun a b c d => a * d + c * b) fun a b c d => b * d)) (d_is_less : Dfn P w K mg base 1 "is_less" ["u", "v"] (spLess K)) (F : Src K mg "joined" s_joined ["one", "other"]) : Dfn P w K mg base 4 "joined" ["one", "other"] (spCv K) := by
  refine F.ok sc_joined (fun vs H Q E h => ?_) (fun f cdv A outer s H vs Q E hr h => ?_)
  · obtain ⟨a, b, xs, ys, rfl, _⟩ := h; rfl
  obtain ⟨a, b, xs, ys, rfl, ha, hb, zx, zy, ox, oy, bx, bY, l1, l2, l3, l4, q⟩ := h
  refine ⟨_, pss_cons (ps_set (i := 2) sc_joined.nd rfl (Or.inl rfl) (pe_op op_rep (pe_lst (pa_cons pe_non pa_nil)) (pe_op op_sub (pe_op op_add (pe_callB (callK_len (K := K) rfl) rfl B.«len» bt_len (pa_cons (pv 0) pa_nil)) (pe_callB (callK_len (K := K) rfl) rfl B.«len» bt_len (pa_cons (pv 1) pa_nil))) pe_int)))
    (pss_cons (ps_for PassesOwn.never rfl (piK_enum (K := K) rfl rfl B.«enumerate» (pa_cons (pv 0) pa_nil)) (pgK_tup (n := 2) (K := K) rfl rfl (pgs_cons (pg_name (i := 3) sc_joined.nd rfl (Or.inl rfl)) (pgs_cons (pg_name (i := 4) sc_joined.nd rfl (Or.inl rfl)) pgs_nil)))
      (pss_one (ps_for PassesOwn.never rfl (piK_enumS (K := K) rfl rfl B.«enumerate» (pa_cons (pv 1) pa_nil) (pk_cons (pv 3) pk_nil)) (pgK_tup (n := 2) (K := K) rfl rfl (pgs_cons (pg_name (i := 5) sc_joined.nd rfl (Or.inl rfl)) (pgs_cons (pg_name (i := 6) sc_joined.nd rfl (Or.inl rfl)) pgs_nil)))
        (pss_one (ps_if (PW.pt (pw_and (pt_cmpR op_isnot (pv 4) pe_non (nomark _)) (pw_and1 (pt_cmpR op_isnot (pv 6) pe_non (nomark _)))))
          (pss_cons (ps_set (i := 7) sc_joined.nd rfl (Or.inl rfl) (pe_def d_plus hr (pa_cons (pv 4) (pa_cons (pv 6) pa_nil))))
          (pss_one (ps_if (PW.pt (pw_or (pt_cmpR op_is (pe_ix (ixK_list (K := K) rfl) (pv 2) (pv 5) (fun _ _ => rfl)) pe_non (nomark _)) (pw_or1 (pt_val (pe_def d_is_less hr (pa_cons (pv 7) (pa_cons (pe_ix (ixK_list (K := K) rfl) (pv 2) (pv 5) (fun _ _ => rfl)) pa_nil)))))))
            (pss_one (ps_asg (pv 7) (pg_sub (pv 2) (pv 5) set_list)))
            (pss_nil))))
          (pss_nil))))))
    (pss_one (ps_ret (pv 2)))), ?_⟩
  refine ⟨len_ok rfl, fun p3 n3 => ?_⟩
  have g3 := same_new n3 (.lst [.non])
  refine ⟨_, rfl, a, _, rfl, .inl (g3.seq ha), _, rfl, b, _, rfl, .inl (g3.seq hb), ?_⟩
  rw [List.length_map, List.length_map]
  have en : ((xs.length : Int) + (ys.length : Int) - 1) = ((xs.length + ys.length - 1 : Nat) : Int) := by omega
  refine ⟨_, _, rfl, rfl, _, _, rfl, rfl, p3, _, _, rfl, rfl, upd_same, by omega, by omega, ?_, fun p hp => ?_⟩
  · rw [sizeLine_eq]; show 1 * _ ≤ _; omega
  rw [en, Int.toNat_natCast, rep_non]
  have g4 := g3.trans (same_new hp (.lst (tv (List.replicate (xs.length + ys.length - 1) ((V.non, none) : TSz)))))
  have f4 : H p = none := g3.free hp
  have lx : (tv xs).length = xs.length := List.length_map _
  have ly : (tv ys).length = ys.length := List.length_map _
  refine ⟨_, rfl, a, rfl, ⟨_, g4.seq ha⟩, for_enum (st := 0) (xs := tv xs) (fun i σ H2 => Same H H2 ∧ ∃ (ts : List TSz) (o1 o2 o3 o4 o5 : Option V), σ = [some (.ref a), some (.ref b), some (.ref p), o1, o2, o3, o4, o5] ∧ H2 p = some (.lst (tv ts)) ∧ SzL H2 ts ∧ tz ts = (List.range (xs.length + ys.length - 1)).map fun k => bst (tz xs) (tz ys) k i)
    ⟨g4, List.replicate (xs.length + ys.length - 1) (V.non, none), _, _, _, _, _, rfl, upd_same, fun t ht => by rw [(List.mem_replicate.mp ht).2]; exact .non, ?_⟩ (fun i σ H2 _ h => h.1.seq ha) ?_ ?_⟩
  · rw [tz_rep]
    refine List.ext_getElem (by simp) fun k h1 h2 => ?_
    simp [bst, fold]
  · rintro i x σ H2 r hx ⟨gg, ts, o1, o2, o3, o4, o5, rfl, eP, zt, ht⟩ hr'
    obtain ⟨hi, rfl⟩ := tv_get hx
    have gr := same_new hr' (.tup [.int ((0 + i : Nat) : Int), xs[i].1])
    have sx := zx xs[i] (List.getElem_mem _)
    have exi := tz_get hi
    have mx : xs[i].2 ∈ tz xs := List.mem_map_of_mem (List.getElem_mem _)
    generalize xs[i].1 = vx at gr sx ⊢
    generalize xs[i].2 = zi at sx exi mx
    refine ⟨r, _, rfl, SqT.of upd_same, rfl, _, _, rfl, _, _, rfl, rfl, ?_⟩
    refine ⟨_, rfl, _, rfl, b, 0 + i, rfl, rfl, by omega, ⟨_, (gg.trans gr).seq hb⟩, for_enum (st := 0 + i) (xs := tv ys) (fun j σ H3 => Same H H3 ∧ ∃ (ts : List TSz) (o3 o4 o5 : Option V), σ = [some (.ref a), some (.ref b), some (.ref p), some (.int ((0 + i : Nat) : Int)), some vx, o3, o4, o5] ∧ H3 p = some (.lst (tv ts)) ∧ SzL H3 ts ∧ tz ts = (List.range (xs.length + ys.length - 1)).map fun k => if k < i + j then bst (tz xs) (tz ys) k (i + 1) else bst (tz xs) (tz ys) k i)
      ⟨gg.trans gr, ts, _, _, _, rfl, gr _ _ eP, zt.same gr, ?_⟩ (fun j σ H3 _ h => h.1.seq hb) ?_ ?_⟩
    · rw [ht]
      refine List.map_congr_left fun k hk => ?_
      by_cases c : k < i + 0
      · rw [if_pos c, bst_succ]
        have : sm (tz xs) (tz ys) k i = none := by unfold sm; rw [if_neg (by omega)]
        rw [this, mn_none]
      · rw [if_neg c]
    · rintro j y σ H3 r2 hy ⟨gg3, ts, o3, o4, o5, rfl, eP, zt, ht⟩ hr2
      obtain ⟨hj, rfl⟩ := tv_get hy
      have gr2 := same_new hr2 (.tup [.int ((0 + i + j : Nat) : Int), ys[j].1])
      have sy := (zy ys[j] (List.getElem_mem _)).same (gg3.trans gr2)
      have eyj := tz_get hj
      have my : ys[j].2 ∈ tz ys := List.mem_map_of_mem (List.getElem_mem _)
      generalize ys[j].1 = vy at gr2 sy ⊢
      generalize ys[j].2 = zj at sy eyj my
      have sx3 := (sx.same (gg3.trans gr2))
      have g5 := gg3.trans gr2
      replace eP := gr2 _ _ eP
      replace zt := zt.same gr2
      have lt := tz_len ht
      have hk : i + j < ts.length := by omega
      have eold := tz_at ht hk
      have esm := sm_at (tz xs) (tz ys) i j
      rw [exi, eyj] at esm
      have ebs := bst_succ (tz xs) (tz ys) (i + j) i
      rw [esm] at ebs
      rw [if_neg (by omega)] at eold
      refine ⟨r2, _, rfl, SqT.of upd_same, rfl, _, _, rfl, _, _, rfl, rfl, ?_⟩
      cases sx3 with
      | non =>
        refine ⟨_, rfl, rfl, _, rfl, iteF (iteF ?_)⟩
        refine ⟨g5, ts, _, _, _, rfl, eP, zt, ?_⟩
        rw [ht]
        exact step_keep (by show bst (tz xs) (tz ys) (i + j) (i + 1) = bst (tz xs) (tz ys) (i + j) i; rw [ebs]; exact mn_none _)
      | @fr ru u eu =>
        refine ⟨_, rfl, rfl, _, rfl, iteT ?_⟩
        cases sy with
        | non =>
          refine ⟨_, rfl, rfl, _, rfl, iteF ?_⟩
          refine ⟨g5, ts, _, _, _, rfl, eP, zt, ?_⟩
          rw [ht]
          exact step_keep (by show bst (tz xs) (tz ys) (i + j) (i + 1) = bst (tz xs) (tz ys) (i + j) i; rw [ebs]; exact mn_none _)
        | @fr rv v ev =>
          refine ⟨_, rfl, rfl, _, rfl, iteT ?_⟩
          have pu := (ox u mx).pos
          have pv := (oy v my).pos
          have bu := bx u mx
          have bv := bY v my
          refine ⟨_, rfl, _, rfl, ru, rv, _, _, _, _, rfl, SqT.of eu, SqT.of ev, bu.1.mono (by decide), bu.2.mono (by decide), bv.1.mono (by decide), bv.2.mono (by decide), Int.ne_of_gt (Int.mul_pos pu pv), fun rt H6 g6 e6 => ?_⟩
          replace eP := g6 _ _ eP
          replace zt := zt.same g6
          have g7 := g5.trans g6
          have ba := bd_ad pu pv bu bv
          have et : H6 rt = some (.tup [.int (ad u v).1, .int (ad u v).2]) := e6
          have so := zt ts[i + j] (List.getElem_mem _)
          have eat : atI (tv ts) ((0 + i + j : Nat) : Int) = some ts[i + j].1 := by rw [Nat.zero_add]; exact atI_tv hk
          rw [eold] at so
          have eixN : ixN (tv ts).length ((0 + i + j : Nat) : Int) = some (i + j) := by rw [Nat.zero_add, List.length_map]; exact ixN_nat (by omega) (by omega)
          generalize ts[i + j].1 = vo at so eat
          have so' : (vo = .non ∧ bst (tz xs) (tz ys) (i + j) i = none) ∨ ∃ (ro : Addr) (o : Int × Int), vo = .ref ro ∧ bst (tz xs) (tz ys) (i + j) i = some o ∧ H6 ro = some (.tup [.int o.1, .int o.2]) := by
            generalize bst (tz xs) (tz ys) (i + j) i = zo at so
            cases so with
            | non => exact .inl ⟨rfl, rfl⟩
            | @fr ro o eo => exact .inr ⟨ro, o, rfl, rfl, eo⟩
          apply merge (M := fun σ HM => HM = H6 ∧ σ = [some (.ref a), some (.ref b), some (.ref p), some (.int ((0 + i : Nat) : Int)), some (.ref ru), some (.int ((0 + i + j : Nat) : Int)), some (.ref rv), some (.ref rt)] ∧ bst (tz xs) (tz ys) (i + j) (i + 1) = some (ad u v))
          case h1 =>
            intro key
            refine ⟨_, rfl, _, rfl, p, _, _, _, rfl, rfl, SqL.of eP, eat, rfl, _, rfl, ?_⟩
            rcases so' with ⟨e1, e2⟩ | ⟨ro, o, e1, eB, eo⟩
            · rw [e2] at ebs
              exact iteY e1 (iteT (key _ _ ⟨rfl, rfl, ebs⟩))
            · obtain ⟨oo, bo1, bo2⟩ := bst_bd ox oy bx bY eB
              rw [eB] at ebs
              refine iteN (fun z => by rw [e1] at z; cases z) ?_
              refine ⟨_, rfl, _, rfl, _, rfl, p, _, _, _, rfl, rfl, SqL.of eP, eat, rt, ro, _, _, _, _, by rw [e1]; rfl, SqT.of et, SqT.of eo, ba.1.mono (by decide), ba.2.mono (by decide), bo1.mono (by decide), bo2.mono (by decide), ?_⟩
              refine ⟨_, rfl, ite2 (fun c => ?_) (fun c => ?_)⟩
              · have c' := of_decide_eq_true c
                exact key _ _ ⟨rfl, rfl, by rw [ebs]; exact if_pos c'⟩
              · have c' : ¬ _ := fun z => c (decide_eq_true z)
                refine ⟨g7, ts, _, _, _, rfl, eP, zt, ?_⟩
                rw [ht]
                exact step_keep (by show bst (tz xs) (tz ys) (i + j) (i + 1) = bst (tz xs) (tz ys) (i + j) i; rw [ebs, eB]; exact if_neg c')
          case h2 =>
            rintro σ HM ⟨rfl, rfl, hbs⟩
            refine ⟨_, rfl, _, rfl, _, rfl, p, _, _, i + j, rfl, rfl, eP, eixN, ?_⟩
            refine ⟨g7.free_upd f4 _, ts.set (i + j) (.ref rt, some (ad u v)), _, _, _, rfl, ?_, ?_, ?_⟩
            · rw [tv_set]; exact upd_same
            · exact SzL.upd (SzL.set zt (i + j) (t := (.ref rt, some (ad u v))) (.fr et)) eP _
            · rw [tz_set, ht]
              exact step_set hbs
    · rintro σ H3 ⟨gg3, ts, o3, o4, o5, rfl, eP, zt, ht⟩
      refine ⟨gg3, ts, _, _, _, _, _, rfl, eP, zt, ?_⟩
      rw [ht, ly]
      refine List.map_congr_left fun k hk => ?_
      by_cases c : k < i + ys.length
      · rw [if_pos c]
      · rw [if_neg c, bst_succ]
        have : sm (tz xs) (tz ys) k i = none := by
          unfold sm
          rw [if_pos (by omega), gz_ge (xs := tz ys) (i := k - i) (by rw [List.length_map]; omega)]
          cases gz (tz xs) i <;> rfl
        rw [this, mn_none]
  · rintro σ H2 ⟨gg, ts, o1, o2, o3, o4, o5, rfl, eP, zt, ht⟩
    refine ⟨_, rfl, q p ts H2 gg f4 eP zt ?_⟩
    rw [ht, lx]
    unfold cvz
    rw [List.length_map, List.length_map]
end
/-! ### the law's bags, and what is drawn of them -/
def spBag (K : PySem.W.Frag) : Sp := fun vs H Q _ => ∃ (a : Addr) (ns : List Int) (k : Int), vs = [.ref a, .int k] ∧ SqL K H a (ns.map V.int) ∧ 0 ≤ k ∧ ∀ (p : Addr) (g r : Int) (H' : Hp), Same H H' → H p = none → H' p = some (.lst [.int g, .int r]) → Q (.ref p) H'
def spTake (K : PySem.W.Frag) : Sp := fun vs H Q _ => ∃ (b : Addr) (g r m : Int), vs = [.ref b, .int m] ∧ H b = some (.lst [.int g, .int r]) ∧ 0 < m ∧ Bd 9000 m ∧ ∀ d g' r' : Int, 0 ≤ d → d < m → Q (.int d) (upd H b (.lst [.int g', .int r']))
def spIsFr (K : PySem.W.Frag) : Sp := fun vs H Q _ => ∃ (r : Addr) (x : Int × Int), vs = [.ref r] ∧ SqT K H r [.int x.1, .int x.2] ∧ Ok x ∧ Bd 9000 x.2 ∧ ∀ H', Same H H' → Q (.bl true) H'
/-- all but b as it was -/
def But (b : Addr) (H H' : Hp) : Prop := ∀ a o, a ≠ b → H a = some o → H' a = some o
theorem But.refl (b : Addr) (H : Hp) : But b H H := fun _ _ _ h => h
theorem But.trans {b : Addr} {H H' H'' : Hp} (h : But b H H') (h' : But b H' H'') : But b H H'' := fun a o n e => h' a o n (h a o n e)
theorem But.of {b : Addr} {H H' : Hp} (h : Same H H') : But b H H' := fun a o _ e => h a o e
theorem But.upd {b : Addr} {H H' : Hp} (h : But b H H') (o : HO) : But b H (upd H' b o) := fun a u n e => by rw [upd_ne n]; exact h a u n e
theorem But.free_upd {b p : Addr} {H H' : Hp} (h : But b H H') (hp : H p = none) (o : HO) : But b H (L2.upd H' p o) := fun a u n e => by
  rw [upd_ne (fun z => by rw [z, hp] at e; cases e)]
  exact h a u n e
theorem But.sz {b : Addr} {H H' : Hp} (h : But b H H') {xs : List V} (hb : H b = some (.lst xs)) {ts : List TSz} (z : SzL H ts) : SzL H' ts := fun t ht => by
  have := z t ht
  generalize t.1 = v at this ⊢
  generalize t.2 = y at this ⊢
  cases this with
  | non => exact .non
  | @fr r x e => exact .fr (h _ _ (fun z => by rw [z, hb] at e; cases e) e)
def spSizes (K : PySem.W.Frag) : Sp := fun vs H Q _ => ∃ (b : Addr) (g r : Int) (m : Nat), vs = [.ref b, .int (m : Int)] ∧ H b = some (.lst [.int g, .int r]) ∧ 1 ≤ m ∧ m ≤ 64 ∧ ∀ (p : Addr) (ts : List TSz) (g' r' : Int) (H' : Hp), But b H H' → H' b = some (.lst [.int g', .int r']) → H p = none → H' p = some (.lst (tv ts)) → SzL H' ts → AllOk (tz ts) → BdZ 40 (tz ts) → 1 ≤ ts.length → ts.length ≤ m → (∃ u, gz (tz ts) (ts.length - 1) = some u) → Q (.ref p) H'
section
variable {P : Program} {w : World} {K : PySem.W.Frag} {mg : Str → Option Value} {base : Heap}
theorem ok_q_bag (B : Blt mg) (F : Src K mg "_law_bag" s_q_bag ["_law_script", "_law_at"]) : Dfn P w K mg base 1 "_law_bag" ["_law_script", "_law_at"] (spBag K) := by
  refine F.ok sc_q_bag (fun vs H Q E h => ?_) (fun f cdv A outer s H vs Q E hr h => ?_)
  · obtain ⟨a, ns, k, rfl, _⟩ := h; rfl
  obtain ⟨a, ns, k, rfl, hS, h0, q⟩ := h
  refine ⟨_, pss_cons (ps_set (i := 2) sc_q_bag.nd rfl (Or.inl rfl) pe_int)
    (pss_cons (ps_if (pt_cmpR op_lt (pv 1) (pe_callB (callK_len (K := K) rfl) rfl B.«len» bt_len (pa_cons (pv 0) pa_nil)) (nomark _))
      (pss_one (ps_set (i := 2) sc_q_bag.nd rfl (Or.inl rfl) (pe_ix (ixK_list (K := K) rfl) (pv 0) (pv 1) (fun _ _ => rfl))))
      (pss_nil))
    (pss_cons (ps_set (i := 3) sc_q_bag.nd rfl (Or.inl rfl) pe_int)
    (pss_cons (ps_if (pt_cmpR op_ge (pe_callB call_abs rfl B.«abs» bt_abs (pa_cons (pv 2) pa_nil)) (pe_op op_pow pe_int pe_int) (nomark _))
      (pss_one (ps_set (i := 3) sc_q_bag.nd rfl (Or.inl rfl) (pe_callB call_abs rfl B.«abs» bt_abs (pa_cons (pv 2) pa_nil))))
      (pss_nil))
    (pss_one (ps_ret (pe_lst (pa_cons (pv 3) (pa_cons (pe_op op_add (pe_op op_modN (pe_op op_add (pe_op op_add (pv 2) (pe_op op_mulO pe_int (pv 1))) pe_int) pe_int) pe_int) pa_nil)))))))), ?_⟩
  apply merge (M := fun σ HM => HM = H ∧ ∃ (c : Int) (o : Option V), σ = [some (.ref a), some (.int k), some (.int c), o])
  case h1 =>
    intro key
    refine ⟨_, rfl, _, rfl, a, _, rfl, .inl hS, _, _, rfl, rfl, _, rfl, ?_⟩
    refine ite2 (fun c => ?_) (fun c => ?_)
    · have hk : k < ((ns.map V.int).length : Nat) := of_decide_eq_true c
      obtain ⟨v, e, hm⟩ := atI_mem (xs := ns.map V.int) h0 hk
      obtain ⟨n, _, rfl⟩ := List.mem_map.mp hm
      exact ⟨_, rfl, _, rfl, _, _, _, _, rfl, rfl, hS, e, key _ _ ⟨rfl, n, _, rfl⟩⟩
    · exact key _ _ ⟨rfl, 0, _, rfl⟩
  case h2 =>
    rintro σ HM ⟨rfl, c, o, rfl⟩
    apply merge (M := fun σ HN => HN = HM ∧ ∃ (g : Int), σ = [some (.ref a), some (.int k), some (.int c), some (.int g)])
    case h1 =>
      intro key
      walk_at "rd"
      refine ite2 (fun _ => ?_) (fun _ => ?_)
      · exact ⟨_, rfl, _, rfl, key _ _ ⟨rfl, _, rfl⟩⟩
      · exact key _ _ ⟨rfl, _, rfl⟩
    case h2 =>
      rintro σ HN ⟨rfl, g, rfl⟩
      walk_at "rd"
      exact fun p hp => q p g _ _ (same_new hp _) hp upd_same
theorem ok_q_take (B : Blt mg) (F : Src K mg "_law_take" s_q_take ["_law_bag_here", "_law_many"]) : Dfn P w K mg base 1 "_law_take" ["_law_bag_here", "_law_many"] (spTake K) := by
  refine F.ok sc_q_take (fun vs H Q E h => ?_) (fun f cdv A outer s H vs Q E hr h => ?_)
  · obtain ⟨b, g, r, m, rfl, _⟩ := h; rfl
  obtain ⟨b, g, r, m, rfl, hb, m0, bm, q⟩ := h
  refine ⟨_, pss_cons (ps_if (pt_cmpR op_gt (pe_ix (ixK_list (K := K) rfl) (pv 0) pe_int (fun _ _ => rfl)) pe_int (nomark _))
      (pss_cons (ps_set (i := 2) sc_q_take.nd rfl (Or.inl rfl) (pe_op op_modN (pe_ix (ixK_list (K := K) rfl) (pv 0) pe_int (fun _ _ => rfl)) (pv 1)))
      (pss_cons (ps_asg (pe_op op_fdivW (pe_ix (ixK_list (K := K) rfl) (pv 0) pe_int (fun _ _ => rfl)) (pv 1)) (pg_sub (pv 0) pe_int set_list))
      (pss_one (ps_ret (pv 2)))))
      (pss_nil))
    (pss_cons (ps_asg (pe_op op_modN (pe_op op_add (pe_op op_mulO (pe_ix (ixK_list (K := K) rfl) (pv 0) pe_int (fun _ _ => rfl)) pe_int) pe_int) pe_int) (pg_sub (pv 0) pe_int set_list))
    (pss_one (ps_ret (pe_op op_modN (pe_op op_modN (pe_op op_mulO (pe_op op_fdivW (pe_ix (ixK_list (K := K) rfl) (pv 0) pe_int (fun _ _ => rfl)) pe_int) pe_int) pe_int) (pv 1))))), ?_⟩
  refine ⟨_, rfl, b, _, _, _, rfl, rfl, SqL.of hb, rfl, _, _, rfl, rfl, _, rfl, ite2 (fun c => ?_) (fun c => ?_)⟩
  · refine ⟨_, rfl, b, _, _, _, rfl, rfl, SqL.of hb, rfl, _, rfl, _, _, rfl, rfl, show m ≠ 0 by omega, ?_⟩
    refine ⟨_, rfl, b, _, _, _, rfl, rfl, SqL.of hb, rfl, _, rfl, _, _, rfl, rfl, bm.dv (by omega), ?_⟩
    refine ⟨_, rfl, b, _, _, 0, rfl, rfl, hb, rfl, ?_⟩
    obtain ⟨r1, r2⟩ := fmod_range g m0
    exact ⟨_, rfl, q _ _ _ r1 r2⟩
  · refine ⟨_, rfl, b, _, _, _, rfl, rfl, SqL.of hb, rfl, ?_⟩
    walk_at "rd"
    refine ⟨b, _, _, 1, rfl, rfl, hb, rfl, ?_⟩
    refine ⟨_, rfl, b, _, _, _, rfl, rfl, SqL.of upd_same, rfl, ?_⟩
    walk_at "rd"
    refine ⟨show m ≠ 0 by omega, ?_⟩
    obtain ⟨r1, r2⟩ := fmod_range ((((r * 48271 + 11).fmod 2147483647).fdiv 8 * 69621).fmod 2147483629) m0
    exact q _ _ _ r1 r2
theorem ok_q_low (B : Blt mg) (F : Src K mg "_law_low" s_q_low ["_law_top", "_law_bottom"]) : Dfn P w K mg base 1 "_law_low" ["_law_top", "_law_bottom"] spFrac := by
  refine F.ok sc_q_low (fun vs H Q E h => ?_) (fun f cdv A outer s H vs Q E hr h => ?_)
  · obtain ⟨a, b, rfl, _⟩ := h; rfl
  obtain ⟨t, b, rfl, h0, hb, q⟩ := h
  refine ⟨_, pss_cons (ps_par (i := 2) (j := 3) rfl sc_q_low.nd rfl rfl (by decide) rfl rfl (pa_cons (pe_callB call_abs rfl B.«abs» bt_abs (pa_cons (pv 0) pa_nil)) (pa_cons (pe_callB call_abs rfl B.«abs» bt_abs (pa_cons (pv 1) pa_nil)) pa_nil)) rfl)
    (pss_cons (ps_while PassesOwn.never (pt_cmpR op_gt (pv 3) pe_int (nomark _))
      (pss_cons (ps_set (i := 4) sc_q_low.nd rfl (Or.inl rfl) (pe_op op_modN (pv 2) (pv 3)))
      (pss_cons (ps_set (i := 2) sc_q_low.nd rfl (Or.inl rfl) (pv 3))
      (pss_one (ps_set (i := 3) sc_q_low.nd rfl (Or.inl rfl) (pv 4))))))
    (pss_cons (ps_if (pt_cmpR op_lt (pv 1) pe_int (nomark _))
      (pss_one (ps_set (i := 2) sc_q_low.nd rfl (Or.inl rfl) (pe_un un_neg (pv 2))))
      (pss_nil))
    (pss_one (ps_ret (pe_tup (pa_cons (pe_op op_fdivW (pv 0) (pv 2)) (pa_cons (pe_op op_fdivW (pv 1) (pv 2)) pa_nil))))))), ?_⟩
  refine ⟨_, rfl, _, rfl, _, rfl, _, rfl, _, _, rfl, ?_⟩
  have S := fr_spec (t := t) h0
  have dv : ∀ i : Int, CDivW i (frD t b) := fun i => (Bd.le S.led hb).dv S.d0
  refine while_by (fun σ H2 => H2 = H ∧ ∃ (x y : Int) (o : Option V), σ = [some (.int t), some (.int b), some (.int x), some (.int y), o] ∧ 0 ≤ x ∧ 0 ≤ y ∧ Int.gcd x y = Int.gcd t b) (fun σ _ => match σ with | [_, _, _, some (.int y), _] => y.natAbs | _ => 0) ?_ ?_ (fun σ H Q Q' f ⟨v, e, i, j, ei, ej, k, ek, h⟩ => ⟨v, e, i, j, ei, ej, k, ek, f _ _ h⟩)
  · exact ⟨rfl, _, _, _, rfl, by rw [abs_of]; omega, by rw [abs_of]; omega, by rw [abs_of, abs_of, gcd_abs]⟩
  rintro σ H2 ⟨rfl, x, y, o, rfl, hx, hy, hg⟩
  refine ⟨_, rfl, _, _, rfl, rfl, _, rfl, ite2 (fun c => ?_) (fun c => ?_)⟩
  · have h0 : y ≠ 0 := by have : y > 0 := of_decide_eq_true c; omega
    obtain ⟨e1, e2, e3⟩ := euclid (x := x) hy h0
    exact ⟨_, rfl, _, rfl, _, _, rfl, rfl, h0, _, rfl, _, rfl, ⟨rfl, _, _, _, rfl, hy, e2, e1.trans hg⟩, e3⟩
  · have hz : y = 0 := by have : ¬ y > 0 := fun z => c (decide_eq_true z); omega
    subst hz
    have e : x = gcdI t b := by
      unfold gcdI
      rw [← hg]
      simp
      omega
    subst e
    refine ⟨_, rfl, _, _, rfl, rfl, _, rfl, ite2 (fun c => ?_) (fun c => ?_)⟩
    · have hn : b < 0 := of_decide_eq_true c
      have e : -gcdI t b = frD t b := by unfold frD; rw [if_pos hn]
      refine ⟨_, rfl, _, rfl, ?_⟩
      dsimp only
      rw [e]
      refine ⟨_, rfl, _, rfl, _, _, rfl, rfl, dv _, _, rfl, _, rfl, _, _, rfl, rfl, dv _, (by show 2 ≤ sizeLine; decide), fun p hp => ?_⟩
      exact q p _ (same_new hp _) upd_same
    · have hn : ¬ b < 0 := fun z => c (decide_eq_true z)
      have e : gcdI t b = frD t b := by unfold frD; rw [if_neg hn]
      rw [e]
      refine ⟨_, rfl, _, rfl, _, _, rfl, rfl, dv _, _, rfl, _, rfl, _, _, rfl, rfl, dv _, (by show 2 ≤ sizeLine; decide), fun p hp => ?_⟩
      exact q p _ (same_new hp _) upd_same
theorem far_at {d : Int} (h0 : 0 ≤ d) (h1 : d < 4) : ∃ F : Int, atI [V.int 4, V.int 12, V.int 60, V.int ((10 : Int) ^ (9 : Int).toNat)] d = some (.int F) ∧ 4 ≤ F ∧ F ≤ 1000000000 := by
  have : d = 0 ∨ d = 1 ∨ d = 2 ∨ d = 3 := by omega
  rcases this with rfl | rfl | rfl | rfl
  · exact ⟨4, rfl, by decide, by decide⟩
  · exact ⟨12, rfl, by decide, by decide⟩
  · exact ⟨60, rfl, by decide, by decide⟩
  · exact ⟨_, rfl, by decide +kernel, by decide +kernel⟩
theorem bot_at {d : Int} (h0 : 0 ≤ d) (h1 : d < 4) : ∃ F : Int, atI [V.int 1, V.int 1, V.int 2, V.int 12] d = some (.int F) ∧ 1 ≤ F ∧ F ≤ 12 := by
  have : d = 0 ∨ d = 1 ∨ d = 2 ∨ d = 3 := by omega
  rcases this with rfl | rfl | rfl | rfl
  · exact ⟨1, rfl, by decide, by decide⟩
  · exact ⟨1, rfl, by decide, by decide⟩
  · exact ⟨2, rfl, by decide, by decide⟩
  · exact ⟨12, rfl, by decide, by decide⟩
theorem half_range {F : Int} (h : 0 ≤ F) : 0 ≤ F.fdiv 2 ∧ F.fdiv 2 ≤ F := by
  rw [Int.fdiv_eq_ediv_of_nonneg F (by decide)]
  omega
theorem tz_snoc (ts : List TSz) (t : TSz) : tz (ts ++ [t]) = tz ts ++ [t.2] := by simp [tz]
theorem tv_snoc (ts : List TSz) (t : TSz) : tv (ts ++ [t]) = tv ts ++ [t.1] := by simp [tv]
theorem gz_snoc (ts : List TSz) (t : TSz) : gz (tz (ts ++ [t])) ((ts ++ [t]).length - 1) = t.2 := by
  have h : (ts ++ [t]).length - 1 < (ts ++ [t]).length := by rw [List.length_append]; show _ + 1 - 1 < _ + 1; omega
  rw [tz_get h]
  simp
theorem AllOk.snoc {zs : List Sz} {z : Sz} (h : AllOk zs) (hz : ∀ x, z = some x → Ok x) : AllOk (zs ++ [z]) := fun x hx => by
  rcases List.mem_append.mp hx with y | y
  · exact h x y
  · have : some x = z := by simpa using y
    exact hz x this.symm
theorem BdZ.snoc {n : Nat} {zs : List Sz} {z : Sz} (h : BdZ n zs) (hz : ∀ x, z = some x → Bd n x.1 ∧ Bd n x.2) : BdZ n (zs ++ [z]) := fun x hx => by
  rcases List.mem_append.mp hx with y | y
  · exact h x y
  · have : some x = z := by simpa using y
    exact hz x this.symm
theorem SzL.snoc {H : Hp} {ts : List TSz} {t : TSz} (h : SzL H ts) (ht : SzV H t.1 t.2) : SzL H (ts ++ [t]) := fun x hx => by
  rcases List.mem_append.mp hx with y | y
  · exact h x y
  · have : x = t := by simpa using y
    rw [this]; exact ht
theorem bd40 {t : Int} (h1 : -1000000000000 < t) (h2 : t < 1000000000000) : Bd 40 t := show t.natAbs < 2 ^ 40 by omega
theorem bd9 {t : Int} (h1 : -1000000000000 < t) (h2 : t < 1000000000000) : Bd 9000 t := (bd40 h1 h2).mono (by decide)
theorem ok_q_sizes (B : Blt mg) (d_q_take : Dfn P w K mg base 1 "_law_take" ["_law_bag_here", "_law_many"] (spTake K)) (d_q_low : Dfn P w K mg base 1 "_law_low" ["_law_top", "_law_bottom"] spFrac) (F : Src K mg "_law_sizes" s_q_sizes ["_law_bag_here", "_law_most"]) : Dfn P w K mg base 2 "_law_sizes" ["_law_bag_here", "_law_most"] (spSizes K) := by
  refine F.ok sc_q_sizes (fun vs H Q E h => ?_) (fun f cdv A outer s H vs Q E hr h => ?_)
  · obtain ⟨b, g, r, m, rfl, _⟩ := h; rfl
  obtain ⟨b, g, r, m, rfl, hb, m1, m2, q⟩ := h
  refine ⟨_, pss_cons (ps_set (i := 2) sc_q_sizes.nd rfl (Or.inl rfl) (pe_ix (ixK_list (K := K) rfl) (pe_lst (pa_cons pe_int (pa_cons pe_int (pa_cons pe_int (pa_cons (pe_op op_pow pe_int pe_int) pa_nil))))) (pe_def d_q_take hr (pa_cons (pv 0) (pa_cons pe_int pa_nil))) (fun _ _ => rfl)))
    (pss_cons (ps_set (i := 3) sc_q_sizes.nd rfl (Or.inl rfl) (pe_lst pa_nil))
    (pss_cons (ps_for PassesOwn.never rfl (pi_range1 rfl B.«range» (pa_cons (pe_def d_q_take hr (pa_cons (pv 0) (pa_cons (pv 1) pa_nil))) pa_nil)) (pg_name (i := 4) sc_q_sizes.nd rfl (Or.inl rfl))
      (pss_cons (ps_set (i := 5) sc_q_sizes.nd rfl (Or.inl rfl) (pe_def d_q_low hr (pa_cons (pe_op op_sub (pe_def d_q_take hr (pa_cons (pv 0) (pa_cons (pe_op op_add (pe_op op_mulO pe_int (pv 2)) pe_int) pa_nil))) (pe_op op_fdivW (pv 2) pe_int)) (pa_cons (pe_op op_add pe_int (pe_def d_q_take hr (pa_cons (pv 0) (pa_cons (pe_ix (ixK_list (K := K) rfl) (pe_lst (pa_cons pe_int (pa_cons pe_int (pa_cons pe_int (pa_cons pe_int pa_nil))))) (pe_def d_q_take hr (pa_cons (pv 0) (pa_cons pe_int pa_nil))) (fun _ _ => rfl)) pa_nil)))) pa_nil))))
      (pss_one (ps_if (pt_cmpR op_eq (pe_def d_q_take hr (pa_cons (pv 0) (pa_cons pe_int pa_nil))) pe_int (nomark _))
        (pss_one (ps_expr (pe_bm PySem.F.plainAttrs_list PySem.F.slot_list_append PySem.F.type_list_append mt_append (pv 3) (pa_cons pe_non pa_nil))))
        (pss_one (ps_expr (pe_bm PySem.F.plainAttrs_list PySem.F.slot_list_append PySem.F.type_list_append mt_append (pv 3) (pa_cons (pv 5) pa_nil))))))))
    (pss_one (ps_ret (pe_op op_cat (pv 3) (pe_lst (pa_cons (pe_def d_q_low hr (pa_cons (pe_def d_q_take hr (pa_cons (pv 0) (pa_cons (pe_op op_add (pv 2) pe_int) pa_nil))) (pa_cons (pe_op op_add pe_int (pe_def d_q_take hr (pa_cons (pv 0) (pa_cons pe_int pa_nil)))) pa_nil))) pa_nil))))))), ?_⟩
  walk_at "rd"
  intro p0 n0
  have k0 := same_new n0 (.lst [V.int 4, V.int 12, V.int 60, V.int ((10 : Int) ^ (9 : Int).toNat)])
  have e0 := upd_same (H := H) (a := p0) (o := .lst [V.int 4, V.int 12, V.int 60, V.int ((10 : Int) ^ (9 : Int).toNat)])
  have hn0 : p0 ≠ b := fun z => by rw [z, hb] at n0; cases n0
  refine ⟨_, rfl, b, g, r, 4, rfl, k0 _ _ hb, by decide, bd9 (by decide) (by decide), fun d g1 r1 d0 d1 => ?_⟩
  obtain ⟨F, hF, hF0, hF1⟩ := far_at d0 d1
  have g1' := (But.of (b := b) k0).upd (.lst [.int g1, .int r1])
  have e0' : (upd (upd H p0 (.lst [V.int 4, V.int 12, V.int 60, V.int ((10 : Int) ^ (9 : Int).toNat)])) b (.lst [.int g1, .int r1])) p0 = some (.lst [V.int 4, V.int 12, V.int 60, V.int ((10 : Int) ^ (9 : Int).toNat)]) := by rw [upd_ne hn0]; exact e0
  refine ⟨p0, _, _, _, rfl, rfl, SqL.of e0', hF, ?_⟩
  have eB := upd_same (H := upd H p0 (.lst [V.int 4, V.int 12, V.int 60, V.int ((10 : Int) ^ (9 : Int).toNat)])) (a := b) (o := .lst [.int g1, .int r1])
  generalize upd _ b (.lst [.int g1, .int r1]) = H1 at g1' eB e0' ⊢
  clear e0' e0 k0
  refine ⟨len_ok rfl, fun pl nl => ?_⟩
  have kl := same_new nl (.lst [])
  have fl : H pl = none := by
    cases e : H pl with
    | none => rfl
    | some o =>
      by_cases z : pl = b
      · rw [z, eB] at nl; cases nl
      · rw [g1' _ _ z e] at nl; cases nl
  have hnl : pl ≠ b := fun z => by rw [z, hb] at fl; cases fl
  replace g1' := g1'.trans (But.of kl)
  replace eB := kl _ _ eB
  have eF := upd_same (H := H1) (a := pl) (o := .lst [])
  generalize upd H1 pl (.lst []) = H2 at g1' eB eF ⊢
  clear kl nl
  refine ⟨_, rfl, _, rfl, b, g1, r1, m, rfl, eB, by omega, bd9 (by omega) (by omega), fun d g2 r2 c0 c1 => ?_⟩
  refine ⟨_, rfl, by omega, by omega, for_range (fun i σ H3 => But b H H3 ∧ ∃ (g r : Int) (ts : List TSz) (o4 o5 : Option V), σ = [some (.ref b), some (.int (m : Int)), some (.int F), some (.ref pl), o4, o5] ∧ H3 b = some (.lst [.int g, .int r]) ∧ H3 pl = some (.lst (tv ts)) ∧ SzL H3 ts ∧ AllOk (tz ts) ∧ BdZ 40 (tz ts) ∧ ts.length = i)
    ⟨g1'.upd _, g2, r2, [], _, _, rfl, upd_same, by rw [upd_ne hnl]; exact eF, fun t ht => by simp at ht, fun x hx => by simp at hx, fun x hx => by simp at hx, rfl⟩ ?_ ?_⟩
  · rintro i σ H3 hi ⟨g3, g, r, ts, o4, o5, rfl, eB, eF, zt, ot, bt, lt⟩
    have hi64 : i < 64 := by omega
    refine ⟨_, rfl, _, rfl, _, _, rfl, rfl, mulOkL (by decide) (by decide), _, _, rfl, rfl, b, g, r, 2 * F + 1, rfl, eB, by omega, bd9 (by omega) (by omega), fun d1 ga ra a0 a1 => ?_⟩
    have ka := (But.refl b H3).upd (.lst [.int ga, .int ra])
    have eB1 := upd_same (H := H3) (a := b) (o := .lst [.int ga, .int ra])
    generalize upd H3 b (.lst [.int ga, .int ra]) = H4 at ka eB1 ⊢
    replace eF := ka _ _ hnl eF
    replace zt := ka.sz eB zt
    replace g3 := g3.trans ka
    clear ka eB
    refine ⟨_, rfl, _, _, rfl, rfl, (Bd.small (by decide) (by decide)).dv (by decide), _, _, rfl, rfl, ?_⟩
    refine ⟨_, rfl, len_ok rfl, fun p4 n4 => ?_⟩
    have k4 := same_new n4 (.lst [.int 1, .int 1, .int 2, .int 12])
    have e4 := upd_same (H := H4) (a := p4) (o := .lst [.int 1, .int 1, .int 2, .int 12])
    have hn4 : p4 ≠ b := fun z => by rw [z, eB1] at n4; cases n4
    generalize upd H4 p4 (.lst [.int 1, .int 1, .int 2, .int 12]) = H5 at k4 e4 ⊢
    replace eF := k4 _ _ eF
    replace zt := SzL.same zt k4
    replace g3 := g3.trans (But.of k4)
    replace eB1 := k4 _ _ eB1
    clear k4 n4
    refine ⟨_, rfl, b, ga, ra, 4, rfl, eB1, by decide, bd9 (by decide) (by decide), fun d2 gb rb b0 b1 => ?_⟩
    have kb := (But.refl b H5).upd (.lst [.int gb, .int rb])
    have eB2 := upd_same (H := H5) (a := b) (o := .lst [.int gb, .int rb])
    generalize upd H5 b (.lst [.int gb, .int rb]) = H6 at kb eB2 ⊢
    replace eF := kb _ _ hnl eF
    replace zt := kb.sz eB1 zt
    replace g3 := g3.trans kb
    replace e4 := kb _ _ hn4 e4
    clear kb eB1
    obtain ⟨M, hM, hM0, hM1⟩ := bot_at b0 b1
    refine ⟨p4, _, _, _, rfl, rfl, SqL.of e4, hM, b, gb, rb, M, rfl, eB2, by omega, bd9 (by omega) (by omega), fun d3 gc rc c0 c1 => ?_⟩
    have kc := (But.refl b H6).upd (.lst [.int gc, .int rc])
    have eB3 := upd_same (H := H6) (a := b) (o := .lst [.int gc, .int rc])
    generalize upd H6 b (.lst [.int gc, .int rc]) = H7 at kc eB3 ⊢
    replace eF := kc _ _ hnl eF
    replace zt := kc.sz eB2 zt
    replace g3 := g3.trans kc
    clear kc eB2 e4 hn4
    obtain ⟨f0, f1⟩ := half_range (F := F) (by omega)
    have bt1 : Bd 40 (d1 - F.fdiv 2) := bd40 (by omega) (by omega)
    have bt2 : Bd 40 (1 + d3) := bd40 (by omega) (by omega)
    have ht0 : 1 + d3 ≠ 0 := by omega
    refine ⟨_, _, rfl, rfl, d1 - F.fdiv 2, 1 + d3, rfl, ht0, bt2.mono (by decide), fun rz H8 g8 e8 => ?_⟩
    replace eF := g8 _ _ eF
    replace zt := SzL.same zt g8
    replace g3 := g3.trans (But.of g8)
    replace eB3 := g8 _ _ eB3
    refine ⟨_, rfl, b, gc, rc, 4, rfl, eB3, by decide, bd9 (by decide) (by decide), fun d4 gd rd x0 x1 => ?_⟩
    have kd := (But.refl b H8).upd (.lst [.int gd, .int rd])
    have eB4 := upd_same (H := H8) (a := b) (o := .lst [.int gd, .int rd])
    have hrz : rz ≠ b := fun z => by rw [z, eB3] at e8; cases e8
    generalize upd H8 b (.lst [.int gd, .int rd]) = H9 at kd eB4 ⊢
    replace eF := kd _ _ hnl eF
    replace zt := kd.sz eB3 zt
    replace g3 := g3.trans kd
    replace e8 := kd _ _ hrz e8
    clear kd eB3
    have eB5 : ∀ o : HO, (upd H9 pl o) b = some (.lst [.int gd, .int rd]) := fun o => by rw [upd_ne (Ne.symm hnl)]; exact eB4
    refine ⟨rfl, _, rfl, ite2 (fun _ => ?_) (fun _ => ?_)⟩
    · refine ⟨_, rfl, .inl ⟨rfl, _, SqL.of eF⟩, pl, _, _, rfl, rfl, eF, by rw [List.length_map, sizeLine_eq]; omega, ?_⟩
      refine ⟨g3.free_upd fl _, gd, rd, ts ++ [(.non, none)], _, _, rfl, eB5 _, ?_, ?_, ?_, ?_, ?_⟩
      · rw [tv_snoc]; exact upd_same
      · exact SzL.upd (SzL.snoc zt .non) eF _
      · rw [tz_snoc]; exact AllOk.snoc ot fun x hx => by cases hx
      · rw [tz_snoc]; exact BdZ.snoc bt fun x hx => by cases hx
      · rw [List.length_append, lt]; rfl
    · refine ⟨_, rfl, .inl ⟨rfl, _, SqL.of eF⟩, _, rfl, pl, _, _, rfl, rfl, eF, by rw [List.length_map, sizeLine_eq]; omega, ?_⟩
      refine ⟨g3.free_upd fl _, gd, rd, ts ++ [(.ref rz, some (fr (d1 - F.fdiv 2) (1 + d3)))], _, _, rfl, eB5 _, ?_, ?_, ?_, ?_, ?_⟩
      · rw [tv_snoc]; exact upd_same
      · exact SzL.upd (SzL.snoc zt (.fr e8)) eF _
      · rw [tz_snoc]; exact AllOk.snoc ot fun x hx => by cases hx; exact ok_fr ht0
      · rw [tz_snoc]; exact BdZ.snoc bt fun x hx => by cases hx; exact bd_fr ht0 bt1 bt2
      · rw [List.length_append, lt]; rfl
  · rintro σ H3 ⟨g3, g, r, ts, o4, o5, rfl, eB, eF, zt, ot, bt, lt⟩
    refine ⟨_, rfl, _, rfl, _, rfl, _, _, rfl, rfl, b, g, r, F + 1, rfl, eB, by omega, bd9 (by omega) (by omega), fun d1 ga ra a0 a1 => ?_⟩
    have ka := (But.refl b H3).upd (.lst [.int ga, .int ra])
    have eB1 := upd_same (H := H3) (a := b) (o := .lst [.int ga, .int ra])
    generalize upd H3 b (.lst [.int ga, .int ra]) = H4 at ka eB1 ⊢
    replace eF := ka _ _ hnl eF
    replace zt := ka.sz eB zt
    replace g3 := g3.trans ka
    clear ka eB
    refine ⟨_, rfl, b, ga, ra, 3, rfl, eB1, by decide, bd9 (by decide) (by decide), fun d2 gb rb b0 b1 => ?_⟩
    have kb := (But.refl b H4).upd (.lst [.int gb, .int rb])
    have eB2 := upd_same (H := H4) (a := b) (o := .lst [.int gb, .int rb])
    generalize upd H4 b (.lst [.int gb, .int rb]) = H6 at kb eB2 ⊢
    replace eF := kb _ _ hnl eF
    replace zt := kb.sz eB1 zt
    replace g3 := g3.trans kb
    clear kb eB1
    have bt1 : Bd 40 d1 := bd40 (by omega) (by omega)
    have bt2 : Bd 40 (1 + d2) := bd40 (by omega) (by omega)
    have ht0 : 1 + d2 ≠ 0 := by omega
    refine ⟨_, _, rfl, rfl, d1, 1 + d2, rfl, ht0, bt2.mono (by decide), fun rz H8 g8 e8 => ?_⟩
    replace eF := g8 _ _ eF
    replace zt := SzL.same zt g8
    replace g3 := g3.trans (But.of g8)
    replace eB2 := g8 _ _ eB2
    refine ⟨len_ok rfl, fun pz nz => ?_⟩
    have kz := same_new nz (.lst [.ref rz])
    refine ⟨pl, pz, _, _, rfl, rfl, kz _ _ eF, upd_same, by rw [List.length_map, sizeLine_eq]; show _ + 1 ≤ _; omega, fun pr nr => ?_⟩
    have kr := same_new nr (.lst (tv ts ++ [.ref rz]))
    have kk := kz.trans kr
    have fr' : H pr = none := by
      cases e : H pr with
      | none => rfl
      | some o =>
        by_cases z : pr = b
        · rw [z, kz _ _ eB2] at nr; cases nr
        · rw [kz _ _ (g3 _ _ z e)] at nr; cases nr
    refine q pr (ts ++ [(.ref rz, some (fr d1 (1 + d2)))]) gb rb _ (g3.trans (But.of kk)) (kk _ _ eB2) fr' ?_ ?_ ?_ ?_ ?_ ?_ ?_
    · rw [tv_snoc]; exact upd_same
    · exact SzL.same (SzL.snoc zt (.fr e8)) kk
    · rw [tz_snoc]; exact AllOk.snoc ot fun x hx => by cases hx; exact ok_fr ht0
    · rw [tz_snoc]; exact BdZ.snoc bt fun x hx => by cases hx; exact bd_fr ht0 bt1 bt2
    · rw [List.length_append]; show 1 ≤ _ + 1; omega
    · rw [List.length_append]; show _ + 1 ≤ _; omega
    · exact ⟨_, gz_snoc _ _⟩
end
/-! ### the sides of a line -/
abbrev FP := Addr × (Int × Int)
abbrev frefs (ts : List FP) : List V := ts.map fun t => V.ref t.1
abbrev nv (ps : List Nat) : List V := ps.map fun n : Nat => V.int (n : Int)
def pz (zs : List Sz) (k : Nat) : Int × Int := (gz zs k).getD (0, 1)
def slv (zs : List Sz) (s k : Nat) : Int × Int := sl (pz zs k) (pz zs s) ((k : Int) - s)
def Pt (zs : List Sz) (k : Nat) : Prop := k < zs.length ∧ gz zs k = some (pz zs k) ∧ 0 < (pz zs k).2 ∧ Bd 100 (pz zs k).1 ∧ Bd 100 (pz zs k).2
def spLeastF (K : PySem.W.Frag) : Sp := fun vs H Q _ => ∃ (a : Addr) (ts : List FP), vs = [.ref a] ∧ SqL K H a (frefs ts) ∧ (∀ t ∈ ts, H t.1 = some (.tup [.int t.2.1, .int t.2.2]) ∧ 0 < t.2.2 ∧ Bd 1000 t.2.1 ∧ Bd 1000 t.2.2) ∧ ts ≠ [] ∧ ∀ t ∈ ts, (∀ t' ∈ ts, t.2.1 * t'.2.2 ≤ t'.2.1 * t.2.2) → Q (.ref t.1) H
def spSlope (K : PySem.W.Frag) : Sp := fun vs H Q _ => ∃ (a : Addr) (zs : List TSz) (s t : Nat), vs = [.ref a, .int (s : Int), .int (t : Int)] ∧ SqL K H a (tv zs) ∧ SzL H zs ∧ s < t ∧ t < 1000 ∧ Pt (tz zs) s ∧ Pt (tz zs) t ∧ ∀ r H', Same H H' → H' r = some (.tup [.int (slv (tz zs) s t).1, .int (slv (tz zs) s t).2]) → Q (.ref r) H'
structure NextOk (zs : List Sz) (ps : List Nat) (s t : Nat) (x : Int × Int) : Prop where
  hs : s ∈ ps
  ht : t ∈ ps
  lt : s < t
  eq : x = slv zs s t
  le : ∀ k ∈ ps, s < k → x.1 * (slv zs s k).2 ≤ (slv zs s k).1 * x.2
  mx : ∀ k ∈ ps, s < k → slv zs s k = x → k ≤ t
def spNext (K : PySem.W.Frag) : Sp := fun vs H Q _ => ∃ (a b : Addr) (zs : List TSz) (ps : List Nat) (s : Nat), vs = [.ref a, .ref b, .int (s : Int)] ∧ SqL K H a (tv zs) ∧ SzL H zs ∧ SqL K H b (nv ps) ∧ ps.length ≤ 1000 ∧ zs.length ≤ 1000 ∧ (∀ k ∈ ps, Pt (tz zs) k) ∧ s ∈ ps ∧ (∃ k ∈ ps, s < k) ∧
  ∀ (t : Nat) (x : Int × Int) (r p : Addr) (H' : Hp), NextOk (tz zs) ps s t x → Same H H' → H p = none → H' p = some (.tup [.int (s : Int), .int (t : Int), .ref r]) → H' r = some (.tup [.int x.1, .int x.2]) → Q (.ref p) H'
section
variable {P : Program} {w : World} {K : PySem.W.Frag} {mg : Str → Option Value} {base : Heap}
theorem frefs_get {ts : List FP} {i : Nat} {x : V} (h : (frefs ts)[i]? = some x) : ∃ hi : i < ts.length, x = .ref ts[i].1 := by
  rw [List.getElem?_map] at h
  cases e : ts[i]? with
  | none => rw [e] at h; cases h
  | some t =>
    rw [e] at h
    obtain ⟨hi, e2⟩ := List.getElem?_eq_some_iff.mp e
    subst e2
    exact ⟨hi, (Option.some.inj h).symm⟩
theorem nv_get {ts : List Nat} {i : Nat} {x : V} (h : (nv ts)[i]? = some x) : ∃ n : Nat, ts[i]? = some n ∧ x = .int (n : Int) := by
  rw [List.getElem?_map] at h
  cases e : ts[i]? with
  | none => rw [e] at h; cases h
  | some t =>
    rw [e] at h
    exact ⟨t, rfl, (Option.some.inj h).symm⟩
theorem ok_least (d_is_less : Dfn P w K mg base 1 "is_less" ["u", "v"] (spLess K)) (F : Src K mg "least" s_least ["some"]) : Dfn P w K mg base 2 "least" ["some"] (spLeastF K) := by
  refine F.ok sc_least (fun vs H Q E h => ?_) (fun f cdv A outer s H vs Q E hr h => ?_)
  · obtain ⟨a, ts, rfl, _⟩ := h; rfl
  obtain ⟨a, ts, rfl, ha, ht, hne, q⟩ := h
  refine ⟨_, pss_cons (ps_set (i := 1) sc_least.nd rfl (Or.inl rfl) (pe_ix (ixK_list (K := K) rfl) (pv 0) pe_int (fun _ _ => rfl)))
    (pss_cons (ps_for PassesOwn.never rfl (piK_list (K := K) rfl (pv 0)) (pg_name (i := 2) sc_least.nd rfl (Or.inl rfl))
      (pss_one (ps_if (pt_val (pe_def d_is_less hr (pa_cons (pv 2) (pa_cons (pv 1) pa_nil))))
        (pss_one (ps_set (i := 1) sc_least.nd rfl (Or.inl rfl) (pv 2)))
        (pss_nil))))
    (pss_one (ps_ret (pv 1)))), ?_⟩
  have h0 : 0 < ts.length := List.length_pos_iff.mpr hne
  have lf : (frefs ts).length = ts.length := List.length_map _
  have e0 : atI (frefs ts) 0 = some (.ref ts[0].1) := by
    rw [atI_get_nat (by decide) (by rw [lf]; exact h0)]
    simp
  refine ⟨_, rfl, a, _, _, _, rfl, rfl, ha, e0, ?_⟩
  refine ⟨_, rfl, a, rfl, ⟨_, ha⟩, for_list (xs := frefs ts) (fun i σ H2 => H2 = H ∧ ∃ (t : FP) (o : Option V), t ∈ ts ∧ σ = [some (.ref a), some (.ref t.1), o] ∧ ∀ j (hj : j < ts.length), j < i → t.2.1 * ts[j].2.2 ≤ ts[j].2.1 * t.2.2)
    ⟨rfl, ts[0], _, List.getElem_mem _, rfl, fun j hj z => absurd z (Nat.not_lt_zero _)⟩ (fun i σ H2 _ h => h.1 ▸ ha) ?_ ?_⟩
  · rintro i x σ H2 hx ⟨rfl, t, o, mt, rfl, hle⟩
    obtain ⟨hi, rfl⟩ := frefs_get hx
    obtain ⟨et, pt, bt1, bt2⟩ := ht t mt
    obtain ⟨eu, pu, bu1, bu2⟩ := ht ts[i] (List.getElem_mem _)
    refine ⟨_, rfl, _, rfl, ts[i].1, t.1, _, _, _, _, rfl, SqT.of eu, SqT.of et, bu1, bu2, bt1, bt2, ?_⟩
    refine ⟨_, rfl, ite2 (fun c => ?_) (fun c => ?_)⟩
    · have c' := of_decide_eq_true c
      refine ⟨_, rfl, ⟨rfl, ts[i], _, List.getElem_mem _, rfl, fun j hj z => ?_⟩⟩
      by_cases e : j = i
      · subst e; exact Int.le_refl _
      · exact le_tr pu pt (ht ts[j] (List.getElem_mem _)).2.1 (Int.le_of_lt c') (hle j hj (by omega))
    · have c' : ¬ _ := fun z => c (decide_eq_true z)
      refine ⟨rfl, t, _, mt, rfl, fun j hj z => ?_⟩
      by_cases e : j = i
      · subst e; exact Int.not_lt.mp c'
      · exact hle j hj (by omega)
  · rintro σ H2 ⟨rfl, t, o, mt, rfl, hle⟩
    refine ⟨_, rfl, q t mt fun t' mt' => ?_⟩
    obtain ⟨j, hj, rfl⟩ := List.getElem_of_mem mt'
    exact hle j hj (by rw [lf]; exact hj)
theorem bd_sl {u v : Int × Int} {d : Int} (hu : 0 < u.2) (hv : 0 < v.2) (hd : 0 < d) (bu : Bd 100 u.1 ∧ Bd 100 u.2) (bv : Bd 100 v.1 ∧ Bd 100 v.2) (bd : Bd 64 d) : Bd 300 (sl u v d).1 ∧ Bd 300 (sl u v d).2 := by
  have h1 := bd_fr (n := 201) (t := u.1 * v.2 - v.1 * u.2) (b := u.2 * v.2) (Int.ne_of_gt (Int.mul_pos hu hv)) (((bu.1.mul bv.2).sub (bv.1.mul bu.2)).mono (by decide)) ((bu.2.mul bv.2).mono (by decide))
  have p := (fr_spec (t := u.1 * v.2 - v.1 * u.2) (b := u.2 * v.2) (Int.ne_of_gt (Int.mul_pos hu hv))).pos
  refine bd_fr (Int.ne_of_gt (Int.mul_pos p hd)) ?_ ((h1.2.mul bd).mono (by decide))
  rw [Int.mul_one]
  exact h1.1.mono (by decide)
theorem pt_sz {H : Hp} {zs : List TSz} {k : Nat} (z : SzL H zs) (p : Pt (tz zs) k) : ∃ r, atI (tv zs) (k : Int) = some (.ref r) ∧ H r = some (.tup [.int (pz (tz zs) k).1, .int (pz (tz zs) k).2]) := by
  have hk : k < zs.length := by have := p.1; rwa [List.length_map] at this
  have h := z zs[k] (List.getElem_mem _)
  have e := tz_get hk
  rw [p.2.1] at e
  have a := atI_tv hk
  rw [← e] at h
  generalize zs[k].1 = v at h a
  cases h with
  | fr er => exact ⟨_, a, er⟩
theorem ok_slope_between (d_minus : Dfn P w K mg base 3 "minus" ["u", "v"] (spBin K (fun a b c d => a * d - c * b) fun a b c d => b * d)) (d_over : Dfn P w K mg base 3 "over" ["u", "v"] (spBin K (fun a b c d => a * d) fun a b c d => b * c)) (F : Src K mg "slope_between" s_slope_between ["sizes", "s", "t"]) : Dfn P w K mg base 4 "slope_between" ["sizes", "s", "t"] (spSlope K) := by
  refine F.ok sc_slope_between (fun vs H Q E h => ?_) (fun f cdv A outer s' H vs Q E hr h => ?_)
  · obtain ⟨a, zs, s, t, rfl, _⟩ := h; rfl
  obtain ⟨a, zs, s, t, rfl, ha, hz, hst, ht, ps, pt, q⟩ := h
  refine ⟨_, pss_one (ps_ret (pe_def d_over hr (pa_cons (pe_def d_minus hr (pa_cons (pe_ix (ixK_list (K := K) rfl) (pv 0) (pv 2) (fun _ _ => rfl)) (pa_cons (pe_ix (ixK_list (K := K) rfl) (pv 0) (pv 1) (fun _ _ => rfl)) pa_nil))) (pa_cons (pe_tup (pa_cons (pe_op op_sub (pv 2) (pv 1)) (pa_cons pe_int pa_nil))) pa_nil)))), ?_⟩
  obtain ⟨rt, at', et⟩ := pt_sz hz pt
  obtain ⟨rs, as', es⟩ := pt_sz hz ps
  obtain ⟨_, _, p1, b1, b2⟩ := pt
  obtain ⟨_, _, p2, b3, b4⟩ := ps
  have hn : (pz (tz zs) t).2 * (pz (tz zs) s).2 ≠ 0 := Int.ne_of_gt (Int.mul_pos p1 p2)
  refine ⟨_, rfl, _, rfl, a, _, _, _, rfl, rfl, ha, at', _, rfl, _, rfl, a, _, _, _, rfl, rfl, ha, as', rt, rs, _, _, _, _, rfl, SqT.of et, SqT.of es, b1.mono (by decide), b2.mono (by decide), b3.mono (by decide), b4.mono (by decide), hn, fun r1 H1 g1 e1 => ?_⟩
  have h1 := bd_fr (n := 201) (t := (pz (tz zs) t).1 * (pz (tz zs) s).2 - (pz (tz zs) s).1 * (pz (tz zs) t).2) hn (((b1.mul b4).sub (b3.mul b2)).mono (by decide)) ((b2.mul b4).mono (by decide))
  have pm := (fr_spec (t := (pz (tz zs) t).1 * (pz (tz zs) s).2 - (pz (tz zs) s).1 * (pz (tz zs) t).2) hn).pos
  refine ⟨_, rfl, _, rfl, _, _, rfl, rfl, len_ok rfl, fun p np => ?_⟩
  have kp := same_new np (.tup [.int ((t : Int) - (s : Int)), .int 1])
  refine ⟨r1, p, _, _, (t : Int) - (s : Int), 1, rfl, SqT.of (kp _ _ e1), SqT.of upd_same, h1.1.mono (by decide), h1.2.mono (by decide), (Bd.small (by omega) (by omega)).mono (by decide), (Bd.small (by decide) (by decide)).mono (by decide), Int.ne_of_gt (Int.mul_pos pm (by omega)), fun r2 H2 g2 e2 => ?_⟩
  exact q r2 H2 ((g1.trans kp).trans g2) e2
theorem nv_take_succ {ps : List Nat} {i n : Nat} (h : ps[i]? = some n) (f : Nat → Bool) : nv ((ps.take (i + 1)).filter f) = if f n = true then nv ((ps.take i).filter f) ++ [.int (n : Int)] else nv ((ps.take i).filter f) := by
  rw [List.take_add_one, h]
  show nv ((ps.take i ++ [n]).filter f) = _
  rw [List.filter_append]
  by_cases c : f n = true
  · rw [if_pos c]; simp [c]
  · rw [if_neg c]; simp [c]
theorem nv_len (ps : List Nat) : (nv ps).length = ps.length := List.length_map _
theorem ok_next_side (B : Blt mg) (d_least : Dfn P w K mg base 2 "least" ["some"] (spLeastF K)) (d_slope_between : Dfn P w K mg base 4 "slope_between" ["sizes", "s", "t"] (spSlope K)) (F : Src K mg "next_side" s_next_side ["sizes", "places", "s"]) : Dfn P w K mg base 5 "next_side" ["sizes", "places", "s"] (spNext K) := by
  refine F.ok sc_next_side (fun vs H Q E h => ?_) (fun f cdv A outer s' H vs Q E hr h => ?_)
  · obtain ⟨a, b, zs, ps, s, rfl, _⟩ := h; rfl
  obtain ⟨a, b, zs, ps, s, rfl, ha, hz, hb, lp, lz, hp, hs, ⟨k0, hk0, hk0s⟩, q⟩ := h
  refine ⟨_, pss_cons (ps_setC (i := 3) sc_next_side.nd rfl (Or.inl rfl) (compScope_mk (N := ["t", "s"]) (sl := [none, some 2]) (defScope s_next_side) ["sizes", "places", "s", "behind", "slope", "t"] rfl rfl (by decide +kernel)) rfl (piK_list (K := K) rfl (pv 1)) (fun _ _ _ _ _ => (pg_name (i := 0) (by show List.Nodup (["t", "s"] : List Str); decide +kernel) rfl (Or.inl rfl))) (fun _ _ _ _ _ => (pif_one (pt_cmpR op_gt (pv 0) (pv 1) (nomark _)))) (fun _ _ _ _ _ => (pv 0)))
    (pss_cons (ps_set (i := 4) sc_next_side.nd rfl (Or.inr rfl) (pe_def d_least hr (pa_cons (pe_comp (compScope_mk (N := ["t", "sizes", "s"]) (sl := [none, some 0, some 2]) (defScope s_next_side) ["sizes", "places", "s", "behind", "slope", "t"] rfl rfl (by decide +kernel)) rfl (piK_list (K := K) rfl (pv 3)) (fun _ _ _ _ _ => (pg_name (i := 0) (by show List.Nodup (["t", "sizes", "s"] : List Str); decide +kernel) rfl (Or.inl rfl))) (fun _ _ _ _ _ => pif_none) (fun _ _ _ _ _ => (pe_def d_slope_between hr (pa_cons (pv 1) (pa_cons (pv 2) (pa_cons (pv 0) pa_nil)))))) pa_nil)))
    (pss_cons (ps_set (i := 5) sc_next_side.nd rfl (Or.inl rfl) (pe_callB (callK_maxL (K := K) rfl rfl) rfl B.«max» bt_max (pa_cons (pe_comp (compScope_mk (N := ["t", "slope", "sizes", "s"]) (sl := [none, some 4, some 0, some 2]) (defScope s_next_side) ["sizes", "places", "s", "behind", "slope", "t"] rfl rfl (by decide +kernel)) rfl (piK_list (K := K) rfl (pv 3)) (fun _ _ _ _ _ => (pg_name (i := 0) (by show List.Nodup (["t", "slope", "sizes", "s"] : List Str); decide +kernel) rfl (Or.inl rfl))) (fun _ _ _ _ _ => (pif_one (pt_cmpR (opK_eqD (K := K) rfl hr.units) (pe_def d_slope_between hr (pa_cons (pv 2) (pa_cons (pv 3) (pa_cons (pv 0) pa_nil)))) (pv 1) (nomark _)))) (fun _ _ _ _ _ => (pv 0))) pa_nil)))
    (pss_one (ps_ret (pe_tup (pa_cons (pv 2) (pa_cons (pv 5) (pa_cons (pv 4) pa_nil)))))))), ?_⟩
  have hpl : ∀ k ∈ ps, k < 1000 := fun k hk => by have := (hp k hk).1; rw [List.length_map] at this; omega
  refine ⟨_, rfl, b, rfl, ⟨_, hb⟩, fun D hD => comp_list (xs := nv ps) (fun i ys H2 => Same H H2 ∧ ys = nv ((ps.take i).filter fun n => decide (s < n))) ⟨same_new hD _, rfl⟩ (fun i ys H2 _ h => h.1.seq hb) (fun i m x ys H2 hm hi hx hy hlen h => ?_) (fun ys H2 hy h => ?_)⟩
  · obtain ⟨gg, rfl⟩ := h
    obtain ⟨n, hn, rfl⟩ := nv_get hx
    have e := nv_take_succ hn fun n => decide (s < n)
    refine ⟨_, rfl, _, rfl, _, _, rfl, rfl, _, rfl, ite2 (fun c => ?_) (fun c => ?_)⟩
    · have c' : s < n := by have := of_decide_eq_true c; omega
      rw [if_pos (decide_eq_true c')] at e
      refine ⟨_, rfl, ?_⟩
      refine CW.emit hm hi (by rw [nv_len, sizeLine_eq]; omega) hy hlen ⟨Same.free_upd gg hD _, ?_⟩
      exact e.symm
    · have c' : ¬ s < n := fun z => c (decide_eq_true (by omega))
      rw [if_neg (by rw [decide_eq_false c']; decide)] at e
      exact CW.skip hm hi hy hlen ⟨gg, e.symm⟩
  · obtain ⟨gg, rfl⟩ := h
    rw [nv_len, List.take_length] at hy
    generalize eb : (ps.filter fun n => decide (s < n)) = bs at hy
    have hbs : ∀ k, k ∈ bs ↔ k ∈ ps ∧ s < k := fun k => by rw [← eb, List.mem_filter]; simp
    have lb : bs.length ≤ 1000 := by rw [← eb]; exact Nat.le_trans (List.length_filter_le _ _) lp
    have hyD := hy
    refine ⟨_, rfl, D, rfl, ⟨_, SqL.of hy⟩, fun D2 hD2 => comp_list (xs := nv bs) (fun i ys H3 => Same H2 H3 ∧ ∃ fs : List FP, ys = frefs fs ∧ fs.map (fun f => f.2) = (bs.take i).map (slv (tz zs) s) ∧ ∀ f ∈ fs, H3 f.1 = some (.tup [.int f.2.1, .int f.2.2])) ⟨same_new hD2 _, [], rfl, rfl, fun f hf => by simp at hf⟩ (fun i ys H3 _ h => h.1.seq (SqL.of hyD)) (fun i m x ys H3 hm hi hx hy hlen h => ?_) (fun ys H3 hy2 h => ?_)⟩
    · obtain ⟨g3, fs, rfl, hfs, hff⟩ := h
      obtain ⟨n, hn, rfl⟩ := nv_get hx
      obtain ⟨mn1, mn2⟩ := (hbs n).mp (List.mem_of_getElem? hn)
      have gA := gg.trans g3
      refine ⟨_, rfl, _, rfl, _, rfl, a, zs, s, n, rfl, gA.seq ha, SzL.same hz gA, mn2, hpl n mn1, hp s hs, hp n mn1, fun r H4 g4 e4 => ?_⟩
      refine CW.emit hm hi (by rw [nv_len, sizeLine_eq]; omega) (g4 _ _ hy) hlen ⟨Same.free_upd (g3.trans g4) hD2 _, fs ++ [(r, slv (tz zs) s n)], by simp [frefs], ?_, fun f hf => ?_⟩
      · rw [List.map_append, hfs, List.take_add_one, hn]
        simp
      · have key : H4 f.1 = some (.tup [.int f.2.1, .int f.2.2]) := by
          rcases List.mem_append.mp hf with z | z
          · exact g4 _ _ (hff f z)
          · have : f = (r, slv (tz zs) s n) := by simpa using z
            subst this
            exact e4
        rw [upd_ne (fun z => by rw [z, g4 _ _ hy] at key; cases key)]
        exact key
    · obtain ⟨g3, fs, rfl, hfs, hff⟩ := h
      rw [nv_len, List.take_length] at hfs
      have gA := gg.trans g3
      have hk0b : k0 ∈ bs := (hbs k0).mpr ⟨hk0, hk0s⟩
      have hfne : fs ≠ [] := fun z => by
        rw [z] at hfs
        have : bs = [] := List.map_eq_nil_iff.mp hfs.symm
        rw [this] at hk0b
        simp at hk0b
      have hmem : ∀ f ∈ fs, ∃ k ∈ bs, slv (tz zs) s k = f.2 := fun f hf => by
        have : f.2 ∈ fs.map (fun f => f.2) := List.mem_map_of_mem hf
        rw [hfs] at this
        obtain ⟨k, hk, e⟩ := List.mem_map.mp this
        exact ⟨k, hk, e⟩
      have hspec : ∀ k ∈ bs, SlSpec (pz (tz zs) k) (pz (tz zs) s) ((k : Int) - s) (slv (tz zs) s k) := fun k hk => by
        obtain ⟨m1, m2⟩ := (hbs k).mp hk
        exact sl_spec (hp k m1).2.2.1 (hp s hs).2.2.1 (by omega)
      have hbd : ∀ k ∈ bs, Bd 300 (slv (tz zs) s k).1 ∧ Bd 300 (slv (tz zs) s k).2 := fun k hk => by
        obtain ⟨m1, m2⟩ := (hbs k).mp hk
        have := hpl k m1
        exact bd_sl (hp k m1).2.2.1 (hp s hs).2.2.1 (by omega) (hp k m1).2.2.2 (hp s hs).2.2.2 (Bd.small (by omega) (by omega))
      refine ⟨D2, fs, rfl, SqL.of hy2, fun f hf => ?_, hfne, fun f hf hmin => ?_⟩
      · obtain ⟨k, hk, e⟩ := hmem f hf
        have b := hbd k hk
        have p := (hspec k hk).ok.pos
        rw [e] at b p
        exact ⟨hff f hf, p, b.1.mono (by decide), b.2.mono (by decide)⟩
      obtain ⟨k1, hk1, ek1⟩ := hmem f hf
      have ef := hff f hf
      have hyB := g3 _ _ hyD
      have hle : ∀ k ∈ bs, f.2.1 * (slv (tz zs) s k).2 ≤ (slv (tz zs) s k).1 * f.2.2 := fun k hk => by
        have : slv (tz zs) s k ∈ fs.map (fun f => f.2) := by rw [hfs]; exact List.mem_map_of_mem hk
        obtain ⟨f', hf', e⟩ := List.mem_map.mp this
        rw [← e]
        exact hmin f' hf'
      refine ⟨_, rfl, D, rfl, ⟨_, SqL.of hyB⟩, fun D3 hD3 => comp_list (xs := nv bs) (fun i ys H4 => Same H3 H4 ∧ ys = nv ((bs.take i).filter fun k => decide (slv (tz zs) s k = f.2))) ⟨same_new hD3 _, rfl⟩ (fun i ys H4 _ h => h.1.seq (SqL.of hyB)) (fun i m x ys H4 hm hi hx hy hlen h => ?_) (fun ys H4 hy3 h => ?_)⟩
      · obtain ⟨g4, rfl⟩ := h
        obtain ⟨n, hn, rfl⟩ := nv_get hx
        obtain ⟨mn1, mn2⟩ := (hbs n).mp (List.mem_of_getElem? hn)
        have gB := gA.trans g4
        have e := nv_take_succ hn fun k => decide (slv (tz zs) s k = f.2)
        refine ⟨_, rfl, _, rfl, _, rfl, a, zs, s, n, rfl, gB.seq ha, SzL.same hz gB, mn2, hpl n mn1, hp s hs, hp n mn1, fun r H5 g5 e5 => ?_⟩
        refine ⟨_, rfl, eqFr (SqT.of e5) (SqT.of (g5 _ _ (g4 _ _ ef))) ⟨_, rfl, ite2 (fun c => ?_) (fun c => ?_)⟩⟩
        · rw [if_pos c] at e
          refine ⟨_, rfl, ?_⟩
          exact CW.emit hm hi (by rw [nv_len, sizeLine_eq]; omega) (g5 _ _ hy) hlen ⟨Same.free_upd (g4.trans g5) hD3 _, e.symm⟩
        · rw [if_neg c] at e
          exact CW.skip hm hi (g5 _ _ hy) hlen ⟨g4.trans g5, e.symm⟩
      · obtain ⟨g4, rfl⟩ := h
        rw [nv_len, List.take_length] at hy3
        generalize ec : (bs.filter fun k => decide (slv (tz zs) s k = f.2)) = cs at hy3
        have hcs : ∀ k, k ∈ cs ↔ k ∈ bs ∧ slv (tz zs) s k = f.2 := fun k => by rw [← ec, List.mem_filter]; simp
        have env : nv cs = (cs.map fun n : Nat => (n : Int)).map V.int := by simp [nv, List.map_map, Function.comp_def]
        rw [env] at hy3
        have hcne : (cs.map fun n : Nat => (n : Int)) ≠ [] := fun z => by
          have : cs = [] := List.map_eq_nil_iff.mp z
          have h2 := (hcs k1).mpr ⟨hk1, ek1⟩
          rw [this] at h2
          simp at h2
        refine ⟨D3, _, rfl, SqL.of hy3, hcne, fun M hM hmax => ?_⟩
        obtain ⟨t, ht, rfl⟩ := List.mem_map.mp hM
        obtain ⟨ht1, ht2⟩ := (hcs t).mp ht
        obtain ⟨ht3, ht4⟩ := (hbs t).mp ht1
        refine ⟨_, rfl, _, rfl, _, rfl, len_ok rfl, fun p np => ?_⟩
        have kp := same_new np (.tup [.int (s : Int), .int (t : Int), .ref f.1])
        refine q t f.2 f.1 p _ ⟨hs, ht3, ht4, ht2.symm, fun k hk hsk => hle k ((hbs k).mpr ⟨hk, hsk⟩), fun k hk hsk e => ?_⟩ ((gA.trans g4).trans kp) ((gA.trans g4).free np) upd_same (kp _ _ (g4 _ _ ef))
        have hk' : (k : Int) ∈ cs.map fun n : Nat => (n : Int) := List.mem_map_of_mem ((hcs k).mpr ⟨(hbs k).mpr ⟨hk, hsk⟩, e⟩)
        have := hmax _ hk'
        omega
end
abbrev Side := Nat × Nat × (Int × Int)
abbrev SdP := Addr × Addr × Side
abbrev srefs (ds : List SdP) : List V := ds.map fun d => V.ref d.1
abbrev svals (ds : List SdP) : List Side := ds.map fun d => d.2.2
def SdL (H : Hp) (ds : List SdP) : Prop := ∀ d ∈ ds, H d.1 = some (.tup [.int (d.2.2.1 : Int), .int (d.2.2.2.1 : Int), .ref d.2.1]) ∧ H d.2.1 = some (.tup [.int d.2.2.2.2.1, .int d.2.2.2.2.2])
theorem SdL.same {H H' : Hp} {ds : List SdP} (h : SdL H ds) (g : Same H H') : SdL H' ds := fun d hd => ⟨g _ _ (h d hd).1, g _ _ (h d hd).2⟩
theorem SdL.upd {H : Hp} {ds : List SdP} (h : SdL H ds) {p : Addr} {xs : List V} (hp : H p = some (.lst xs)) (o : HO) : SdL (L2.upd H p o) ds := fun d hd => by
  obtain ⟨e1, e2⟩ := h d hd
  exact ⟨by rw [upd_ne (fun z => by rw [z, hp] at e1; cases e1)]; exact e1, by rw [upd_ne (fun z => by rw [z, hp] at e2; cases e2)]; exact e2⟩
theorem SdL.snoc {H : Hp} {ds : List SdP} {d : SdP} (h : SdL H ds) (hd : H d.1 = some (.tup [.int (d.2.2.1 : Int), .int (d.2.2.2.1 : Int), .ref d.2.1]) ∧ H d.2.1 = some (.tup [.int d.2.2.2.2.1, .int d.2.2.2.2.2])) : SdL H (ds ++ [d]) := fun x hx => by
  rcases List.mem_append.mp hx with y | y
  · exact h x y
  · have : x = d := by simpa using y
    rw [this]; exact hd
def stt (s0 : Nat) (ls : List Side) : Nat → Nat
  | 0 => s0
  | i + 1 => (ls.getD i (0, 0, (0, 1))).2.1
structure Line (Z : List Sz) (ps : List Nat) (s0 : Nat) (ls : List Side) : Prop where
  nth : ∀ i (h : i < ls.length), ls[i].1 = stt s0 ls i ∧ NextOk Z ps ls[i].1 ls[i].2.1 ls[i].2.2
theorem stt_snoc {s0 : Nat} {ls : List Side} {d : Side} {i : Nat} (h : i ≤ ls.length) : stt s0 (ls ++ [d]) i = stt s0 ls i := by
  cases i with
  | zero => rfl
  | succ i =>
    show ((ls ++ [d]).getD i (0, 0, (0, 1))).2.1 = (ls.getD i (0, 0, (0, 1))).2.1
    rw [List.getD_eq_getElem?_getD, List.getD_eq_getElem?_getD, List.getElem?_append_left (by omega)]
theorem stt_last {s0 : Nat} {ls : List Side} {d : Side} : stt s0 (ls ++ [d]) (ls ++ [d]).length = d.2.1 := by
  rw [List.length_append]
  show ((ls ++ [d]).getD ls.length (0, 0, (0, 1))).2.1 = d.2.1
  rw [List.getD_eq_getElem?_getD, List.getElem?_append_right (Nat.le_refl _), Nat.sub_self]
  rfl
theorem Line.snoc {Z : List Sz} {ps : List Nat} {s0 : Nat} {ls : List Side} {d : Side} (h : Line Z ps s0 ls) (h1 : d.1 = stt s0 ls ls.length) (h2 : NextOk Z ps d.1 d.2.1 d.2.2) : Line Z ps s0 (ls ++ [d]) := ⟨fun i hi => by
  by_cases c : i < ls.length
  · rw [List.getElem_append_left c, stt_snoc (by omega)]
    exact h.nth i c
  · have e : i = ls.length := by rw [List.length_append] at hi; have : [d].length = 1 := rfl; omega
    subst e
    rw [List.getElem_append_right (Nat.le_refl _), stt_snoc (Nat.le_refl _)]
    simp only [Nat.sub_self, List.getElem_singleton]
    exact ⟨h1, h2⟩⟩
/-- the places of what is not None -/
def pls (Z : List Sz) : List Nat := (List.range Z.length).filter fun k => (gz Z k).isSome
theorem filt_last (f : Nat → Bool) : ∀ (n : Nat) (h : (List.range n).filter f ≠ []), ∀ k ∈ (List.range n).filter f, k ≤ ((List.range n).filter f).getLast h
  | 0, h => absurd rfl h
  | n + 1, h => by
    intro k hk
    have e : (List.range (n + 1)).filter f = (List.range n).filter f ++ (if f n = true then [n] else []) := by
      rw [List.range_succ, List.filter_append]
      by_cases c : f n = true <;> simp [c]
    by_cases c : f n = true
    · rw [if_pos c] at e
      have e2 : ((List.range (n + 1)).filter f).getLast h = n := by simp only [e]; simp
      rw [e2]
      have := List.mem_range.mp (List.mem_filter.mp hk).1
      omega
    · rw [if_neg c, List.append_nil] at e
      rw [e] at hk
      have h' : (List.range n).filter f ≠ [] := by rw [← e]; exact h
      have := filt_last f n h' k hk
      simp only [e]
      exact this
theorem pls_mem {Z : List Sz} {k : Nat} : k ∈ pls Z ↔ ∃ u, gz Z k = some u := by
  unfold pls
  rw [List.mem_filter, List.mem_range]
  constructor
  · rintro ⟨_, h⟩
    exact Option.isSome_iff_exists.mp h
  · rintro ⟨u, h⟩
    exact ⟨(gz_mem h).1, by rw [h]; rfl⟩
theorem pls_pt {Z : List Sz} (ho : AllOk Z) (hb : BdZ 100 Z) {k : Nat} (h : k ∈ pls Z) : Pt Z k := by
  obtain ⟨u, e⟩ := pls_mem.mp h
  have e2 : pz Z k = u := by unfold pz; rw [e]; rfl
  have m := gz_mem e
  refine ⟨m.1, by rw [e2]; exact e, ?_, ?_, ?_⟩ <;> rw [e2]
  · exact (ho u m.2).pos
  · exact (hb u m.2).1
  · exact (hb u m.2).2
def spSides (K : PySem.W.Frag) : Sp := fun vs H Q _ => ∃ (a : Addr) (zs : List TSz), vs = [.ref a] ∧ SqL K H a (tv zs) ∧ SzL H zs ∧ zs.length ≤ 1000 ∧ AllOk (tz zs) ∧ BdZ 100 (tz zs) ∧ ∃ hne : pls (tz zs) ≠ [],
  ∀ (p : Addr) (ds : List SdP) (H' : Hp), Same H H' → H p = none → H' p = some (.lst (srefs ds)) → SdL H' ds → Line (tz zs) (pls (tz zs)) ((pls (tz zs)).head hne) (svals ds) → stt ((pls (tz zs)).head hne) (svals ds) ds.length = (pls (tz zs)).getLast hne → ds.length ≤ 1000 → Q (.ref p) H'
section
variable {P : Program} {w : World} {K : PySem.W.Frag} {mg : Str → Option Value} {base : Heap}
theorem svals_snoc (ds : List SdP) (d : SdP) : svals (ds ++ [d]) = svals ds ++ [d.2.2] := by simp [svals]
theorem pls_len (Z : List Sz) : (pls Z).length ≤ Z.length := by
  unfold pls
  exact Nat.le_trans (List.length_filter_le _ _) (by rw [List.length_range]; exact Nat.le_refl _)
theorem ok_sides (B : Blt mg) (d_next_side : Dfn P w K mg base 5 "next_side" ["sizes", "places", "s"] (spNext K)) (F : Src K mg "sides" s_sides ["sizes"]) : Dfn P w K mg base 6 "sides" ["sizes"] (spSides K) := by
  refine F.ok sc_sides (fun vs H Q E h => ?_) (fun f cdv A outer s' H vs Q E hr h => ?_)
  · obtain ⟨a, zs, rfl, _⟩ := h; rfl
  obtain ⟨a, zs, rfl, ha, hz, lz, ho, hbz, hne, q⟩ := h
  refine ⟨_, pss_cons (ps_setC (i := 1) sc_sides.nd rfl (Or.inl rfl) (compScope_mk (N := ["place", "size"]) (sl := [none, none]) (defScope s_sides) ["sizes", "places", "told", "s", "side"] rfl rfl (by decide +kernel)) rfl (piK_enum (K := K) rfl rfl B.«enumerate» (pa_cons (pv 0) pa_nil)) (fun _ _ _ _ _ => (pgK_tup (n := 2) (K := K) rfl rfl (pgs_cons (pg_name (i := 0) (by show List.Nodup (["place", "size"] : List Str); decide +kernel) rfl (Or.inl rfl)) (pgs_cons (pg_name (i := 1) (by show List.Nodup (["place", "size"] : List Str); decide +kernel) rfl (Or.inl rfl)) pgs_nil)))) (fun _ _ _ _ _ => (pif_one (pt_cmpR op_isnot (pv 1) pe_non (nomark _)))) (fun _ _ _ _ _ => (pv 0)))
    (pss_cons (ps_set (i := 2) sc_sides.nd rfl (Or.inl rfl) (pe_lst pa_nil))
    (pss_cons (ps_set (i := 3) sc_sides.nd rfl (Or.inl rfl) (pe_ix (ixK_list (K := K) rfl) (pv 1) pe_int (fun _ _ => rfl)))
    (pss_cons (ps_while PassesOwn.never (pt_cmpR op_lt (pv 3) (pe_ix (ixK_list (K := K) rfl) (pv 1) (pe_un un_neg pe_int) (fun _ _ => rfl)) (nomark _))
      (pss_cons (ps_set (i := 4) sc_sides.nd rfl (Or.inl rfl) (pe_def d_next_side hr (pa_cons (pv 0) (pa_cons (pv 1) (pa_cons (pv 3) pa_nil)))))
      (pss_cons (ps_expr (pe_bm PySem.F.plainAttrs_list PySem.F.slot_list_append PySem.F.type_list_append mt_append (pv 2) (pa_cons (pv 4) pa_nil)))
      (pss_one (ps_set (i := 3) sc_sides.nd rfl (Or.inl rfl) (pe_ix (ixK_tup (K := K) rfl) (pv 4) pe_int (fun _ _ => rfl)))))))
    (pss_one (ps_ret (pv 2)))))), ?_⟩
  have ltv : (tv zs).length = zs.length := List.length_map _
  refine ⟨_, rfl, a, rfl, ⟨_, ha⟩, fun D hD => comp_enum (st0 := 0) (xs := tv zs) (fun i ys H2 => Same H H2 ∧ ys = nv ((List.range i).filter fun k => (gz (tz zs) k).isSome)) ⟨same_new hD _, rfl⟩ (fun i ys H2 _ h => h.1.seq ha) (fun i m x ys H2 r hm hi hx hy hlen h hr' => ?_) (fun ys H2 hy h => ?_)⟩
  · obtain ⟨gg, rfl⟩ := h
    obtain ⟨hi', rfl⟩ := tv_get hx
    have e : nv ((List.range (i + 1)).filter fun k => (gz (tz zs) k).isSome) = if (gz (tz zs) i).isSome = true then nv ((List.range i).filter fun k => (gz (tz zs) k).isSome) ++ [.int (i : Int)] else nv ((List.range i).filter fun k => (gz (tz zs) k).isSome) := by
      rw [List.range_succ, List.filter_append]
      by_cases c : (gz (tz zs) i).isSome = true <;> simp [c]
    rw [tz_get hi'] at e
    have sz := (hz zs[i] (List.getElem_mem _)).same gg
    have kr := same_new hr' (.tup [.int ((0 + i : Nat) : Int), zs[i].1])
    generalize zs[i].1 = v at sz kr ⊢
    generalize zs[i].2 = z at sz e
    refine ⟨r, _, rfl, SqT.of upd_same, rfl, _, _, rfl, _, _, rfl, rfl, ?_⟩
    cases sz with
    | non => exact ⟨_, rfl, rfl, _, rfl, iteF (CW.skip hm hi (kr _ _ hy) hlen ⟨gg.trans kr, e.symm⟩)⟩
    | @fr ru u eu =>
      refine ⟨_, rfl, rfl, _, rfl, iteT ⟨_, rfl, ?_⟩⟩
      refine CW.emit hm hi (by rw [ltv, sizeLine_eq]; omega) (kr _ _ hy) hlen ⟨Same.free_upd (gg.trans kr) hD _, ?_⟩
      have e2 : ((0 + i : Nat) : Int) = (i : Int) := by omega
      rw [e2]
      exact e.symm
  · obtain ⟨gg, rfl⟩ := h
    have epl : ((List.range (tv zs).length).filter fun k => (gz (tz zs) k).isSome) = pls (tz zs) := by unfold pls; rw [List.length_map, List.length_map]
    rw [epl] at hy
    have lpl := pls_len (tz zs)
    rw [List.length_map] at lpl
    have hpt : ∀ k ∈ pls (tz zs), Pt (tz zs) k := fun k hk => pls_pt ho hbz hk
    have hmax := filt_last (fun k => (gz (tz zs) k).isSome) (tz zs).length hne
    have hlm : (pls (tz zs)).getLast hne ∈ pls (tz zs) := List.getLast_mem hne
    have hhm : (pls (tz zs)).head hne ∈ pls (tz zs) := List.head_mem hne
    have hpos : 0 < (pls (tz zs)).length := List.length_pos_iff.mpr hne
    have a0 : atI (nv (pls (tz zs))) 0 = some (.int ((pls (tz zs)).head hne : Int)) := by
      rw [atI_get_nat (by decide) (by rw [nv_len]; exact hpos)]
      simp [List.head_eq_getElem]
    have a1 : atI (nv (pls (tz zs))) (-1) = some (.int ((pls (tz zs)).getLast hne : Int)) := by
      unfold atI ixN
      rw [if_neg (by decide), if_pos (by rw [nv_len]; omega), nv_len]
      have e : (-1 + ((pls (tz zs)).length : Int)).toNat = (pls (tz zs)).length - 1 := by omega
      show (nv (pls (tz zs)))[(-1 + ((pls (tz zs)).length : Int)).toNat]? = _
      rw [e, List.getElem?_map, List.getElem?_eq_getElem (by omega), List.getLast_eq_getElem]
      rfl
    have hmax' : ∀ k ∈ pls (tz zs), k ≤ (pls (tz zs)).getLast hne := hmax
    have hb : SqL K H2 D (nv (pls (tz zs))) := SqL.of hy
    clear hmax epl
    generalize (pls (tz zs)).head hne = s0 at *
    generalize (pls (tz zs)).getLast hne = e0 at *
    refine ⟨len_ok rfl, fun pt npt => ?_⟩
    have kt := same_new npt (.lst [])
    have gA := gg.trans kt
    have fpt : H pt = none := gg.free npt
    have hb2 := kt.seq hb
    have hbe := kt _ _ hy
    have ept := upd_same (H := H2) (a := pt) (o := .lst [])
    have hDp : D ≠ pt := fun z => by rw [← z, hy] at npt; cases npt
    generalize L2.upd H2 pt (.lst []) = H3 at gA hb2 hbe ept ⊢
    refine ⟨_, rfl, D, _, _, _, rfl, rfl, hb2, a0, ?_⟩
    refine while_in (fun σ H4 => Same H H4 ∧ ∃ (ds : List SdP) (s : Nat) (o : Option V), σ = [some (.ref a), some (.ref D), some (.ref pt), some (.int (s : Int)), o] ∧ H4 D = some (.lst (nv (pls (tz zs)))) ∧ H4 pt = some (.lst (srefs ds)) ∧ SdL H4 ds ∧ Line (tz zs) (pls (tz zs)) s0 (svals ds) ∧ s = stt s0 (svals ds) ds.length ∧ s ∈ pls (tz zs) ∧ ds.length ≤ s) (fun σ _ => match σ with | [_, _, _, some (.int y), _] => ((e0 : Int) - y).toNat | _ => 0)
      ⟨gA, [], s0, _, rfl, hbe, ept, fun d hd => by simp at hd, ⟨fun i hi => absurd hi (Nat.not_lt_zero _)⟩, rfl, hhm, Nat.zero_le _⟩ ?_
    rintro σ H4 ⟨g4, ds, s, o, rfl, hb4, ep4, hd4, hL, hs, ms, hls⟩
    have hs1000 : s < 1000 := by have := (hpt s ms).1; rw [List.length_map] at this; omega
    refine ⟨_, rfl, _, rfl, _, rfl, D, _, _, _, rfl, rfl, SqL.of hb4, a1, _, _, rfl, rfl, _, rfl, ite2 (fun c => ?_) (fun c => ?_)⟩
    · have c' : s < e0 := by have := of_decide_eq_true c; omega
      refine win ⟨_, rfl, _, rfl, _, rfl, a, D, zs, pls (tz zs), s, rfl, g4.seq ha, SzL.same hz g4, SqL.of hb4, by omega, lz, hpt, ms, ⟨e0, hlm, c'⟩, fun t x r p H5 ok g5 n5 e5 e6 => ?_⟩
      replace ep4 := g5 _ _ ep4
      replace hd4 := hd4.same g5
      replace hb4 := g5 _ _ hb4
      have g45 := g4.trans g5
      have hpp : p ≠ pt := fun z => by rw [z, ep4] at e5; cases e5
      refine ⟨_, rfl, .inl ⟨rfl, _, SqL.of ep4⟩, _, rfl, pt, _, _, rfl, rfl, ep4, by rw [List.length_map, sizeLine_eq]; omega, ?_⟩
      have e5' : (L2.upd H5 pt (.lst (srefs ds ++ [.ref p]))) p = some (.tup [.int (s : Int), .int (t : Int), .ref r]) := by rw [upd_ne hpp]; exact e5
      refine ⟨_, rfl, p, _, _, _, rfl, rfl, SqT.of e5', rfl, ⟨g45.free_upd fpt _, ds ++ [(p, r, (s, t, x))], t, _, rfl, ?_, ?_, ?_, ?_, ?_, ok.ht, ?_⟩, ?_⟩
      · rw [upd_ne hDp]; exact hb4
      · simp [srefs, upd_same]
      · exact SdL.upd (SdL.snoc hd4 ⟨e5, e6⟩) ep4 _
      · rw [svals_snoc]
        refine Line.snoc hL ?_ ok
        rw [List.length_map]; exact hs
      · rw [svals_snoc]
        have := stt_last (s0 := s0) (ls := svals ds) (d := (s, t, x))
        rw [List.length_append, List.length_map] at this
        rw [List.length_append]
        exact this.symm
      · rw [List.length_append]
        have := ok.lt
        show _ + 1 ≤ t
        omega
      · have := ok.lt
        show ((e0 : Int) - (t : Int)).toNat < ((e0 : Int) - (s : Int)).toNat
        omega
    · have c' : ¬ s < e0 := fun z => c (decide_eq_true (by omega))
      have := hmax' s ms
      have e : s = e0 := by omega
      refine ⟨_, rfl, q pt ds H4 g4 fpt ep4 hd4 hL ?_ (by omega)⟩
      rw [← hs, e]
end
theorem NextOk.bd {Z : List Sz} {s t : Nat} {x : Int × Int} (h : NextOk Z (pls Z) s t x) (ho : AllOk Z) (hb : BdZ 100 Z) (hl : Z.length ≤ 1000) : Ok x ∧ Bd 300 x.1 ∧ Bd 300 x.2 ∧ SlSpec (pz Z t) (pz Z s) ((t : Int) - s) x := by
  have p1 := pls_pt ho hb h.hs
  have p2 := pls_pt ho hb h.ht
  have l := h.lt
  have l2 := p2.1
  have S := sl_spec (d := (t : Int) - s) p2.2.2.1 p1.2.2.1 (by omega)
  have e : x = sl (pz Z t) (pz Z s) ((t : Int) - s) := h.eq
  have b := bd_sl (d := (t : Int) - s) p2.2.2.1 p1.2.2.1 (by omega) p2.2.2.2 p1.2.2.2 (Bd.small (by omega) (by omega))
  rw [← e] at S b
  exact ⟨S.ok, b.1, b.2, S⟩
theorem rises {Z : List Sz} (ho : AllOk Z) (hb : BdZ 100 Z) (hl : Z.length ≤ 1000) {s t t' : Nat} {x y : Int × Int} (h1 : NextOk Z (pls Z) s t x) (h2 : NextOk Z (pls Z) t t' y) : x.1 * y.2 < y.1 * x.2 := by
  obtain ⟨okx, _, _, S1⟩ := h1.bd ho hb hl
  obtain ⟨oky, _, _, S2⟩ := h2.bd ho hb hl
  have ps := pls_pt ho hb h1.hs
  have pt := pls_pt ho hb h1.ht
  have pt' := pls_pt ho hb h2.ht
  have l1 := h1.lt
  have l2 := h2.lt
  have hlt : s < t' := by omega
  have S3 := sl_spec (d := (t' : Int) - s) pt'.2.2.1 ps.2.2.1 (by omega)
  have hp : 0 < lft (pz Z t') (pz Z s) ((t' : Int) - s) x := lft_pos S3 okx pt'.2.2.1 ps.2.2.1 (by omega) (h1.le t' h2.ht hlt) fun z => by
    have := h1.mx t' h2.ht hlt z
    omega
  have e : (t' : Int) - s = ((t : Int) - s) + ((t' : Int) - t) := by omega
  rw [e] at hp
  exact steeper ps.2.2.1 pt.2.2.1 pt'.2.2.1 (by omega) okx S2 (lft_zero S1) hp
/-! ### a line, side by side, is one only -/
inductive LR (Z : List Sz) (ps : List Nat) : Nat → List Side → Nat → Prop where
  | nil {s : Nat} : LR Z ps s [] s
  | cons {s t e : Nat} {x : Int × Int} {ls : List Side} : NextOk Z ps s t x → LR Z ps t ls e → LR Z ps s ((s, t, x) :: ls) e
theorem Line.lr {Z : List Sz} {ps : List Nat} : ∀ {ls : List Side} {s0 : Nat}, Line Z ps s0 ls → LR Z ps s0 ls (stt s0 ls ls.length)
  | [], s0, _ => .nil
  | d :: ls, s0, h => by
    obtain ⟨e, n⟩ := h.nth 0 (by simp)
    have e' : d.1 = s0 := e
    have n' : NextOk Z ps d.1 d.2.1 d.2.2 := n
    have hs : ∀ i, stt s0 (d :: ls) (i + 1) = stt d.2.1 ls i := fun i => by cases i <;> simp [stt]
    have ht : Line Z ps d.2.1 ls := ⟨fun i hi => by
      obtain ⟨a, b⟩ := h.nth (i + 1) (by simp; omega)
      rw [hs] at a
      simp only [List.getElem_cons_succ] at a b
      exact ⟨a, b⟩⟩
    have r := ht.lr
    rw [List.length_cons, hs]
    subst e'
    exact .cons n' r
theorem NextOk.uniq {Z : List Sz} (ho : AllOk Z) (hb : BdZ 100 Z) (hl : Z.length ≤ 1000) {s t t' : Nat} {x x' : Int × Int} (h : NextOk Z (pls Z) s t x) (h' : NextOk Z (pls Z) s t' x') : t' = t ∧ x' = x := by
  obtain ⟨ok, _, _, _⟩ := h.bd ho hb hl
  obtain ⟨ok', _, _, _⟩ := h'.bd ho hb hl
  have l1 := h.le t' h'.ht h'.lt
  have l2 := h'.le t h.ht h.lt
  rw [← h'.eq] at l1
  rw [← h.eq] at l2
  have e : x' = x := Ok.eq ok' ok (by omega)
  refine ⟨?_, e⟩
  have m1 := h.mx t' h'.ht h'.lt (by rw [← h'.eq, e])
  have m2 := h'.mx t h.ht h.lt (by rw [← h.eq, e])
  omega
theorem LR.map {Z Z' : List Sz} (ho : AllOk Z') (hb : BdZ 100 Z') (hl : Z'.length ≤ 1000) {φ : Nat → Nat} {ψ : Int × Int → Int × Int} (hN : ∀ s t x, NextOk Z (pls Z) s t x → NextOk Z' (pls Z') (φ s) (φ t) (ψ x)) {s e : Nat} {ls : List Side} (h : LR Z (pls Z) s ls e) (hm : ∀ k ∈ pls Z', k ≤ φ e) :
    ∀ {s' e' : Nat} {ls' : List Side}, s' = φ s → e' = φ e → LR Z' (pls Z') s' ls' e' → ls' = ls.map fun d => (φ d.1, φ d.2.1, ψ d.2.2) := by
  induction h with
  | nil =>
    intro s' e' ls' es ee h'
    cases h' with
    | nil => rfl
    | cons n r =>
      have := hm _ n.ht
      have := n.lt
      omega
  | cons n r ih =>
    intro s' e' ls' es ee h'
    have n2 := hN _ _ _ n
    cases h' with
    | nil =>
      have := hm _ n2.ht
      have := n2.lt
      omega
    | cons n3 r3 =>
      subst es
      obtain ⟨e1, e2⟩ := n2.uniq ho hb hl n3
      rw [e2, List.map_cons, ih hm e1 ee r3, e1]
/-! ### the lowest places by a slope -/
theorem head_min {Z : List Sz} (hne : pls Z ≠ []) : ∀ k ∈ pls Z, (pls Z).head hne ≤ k := by
  intro k hk
  have hp : (pls Z).Pairwise (· < ·) := by
    unfold pls
    exact List.Pairwise.filter _ List.pairwise_lt_range
  have : ∀ (l : List Nat) (h : l ≠ []), l.Pairwise (· < ·) → ∀ k ∈ l, l.head h ≤ k := by
    intro l h p k hk
    cases l with
    | nil => exact absurd rfl h
    | cons a r =>
      rcases List.mem_cons.mp hk with rfl | hk
      · exact Nat.le_refl _
      · exact Nat.le_of_lt ((List.pairwise_cons.mp p).1 k hk)
  exact this _ hne hp k hk
theorem last_max {Z : List Sz} (hne : pls Z ≠ []) : ∀ k ∈ pls Z, k ≤ (pls Z).getLast hne := filt_last (fun k => (gz Z k).isSome) Z.length hne
def nm (D : Int) (Z : List Sz) (k : Nat) : Int := (pz Z k).1 * D / (pz Z k).2
def Gx (D : Int) (Z : List Sz) (x : Int × Int) (k : Nat) : Int := nm D Z k * x.2 - x.1 * D * (k : Int)
structure Scl (Z : List Sz) (D : Int) : Prop where
  pos : 0 < D
  rep : ∀ k ∈ pls Z, ∃ n, Rep (pz Z k) n D
theorem rep_div {x : Int × Int} {n D : Int} (h : Rep x n D) : x.1 * D / x.2 = n := by
  rw [h.eq]
  exact Int.mul_ediv_cancel _ (Int.ne_of_gt h.ok.pos)
theorem Scl.at {Z : List Sz} {D : Int} (S : Scl Z D) {k : Nat} (hk : k ∈ pls Z) : Rep (pz Z k) (nm D Z k) D := by
  obtain ⟨n, h⟩ := S.rep k hk
  have e : nm D Z k = n := rep_div h
  rw [e]; exact h
theorem lft_scale {u v x : Int × Int} {n m d D : Int} (hu : Rep u n D) (hv : Rep v m D) : D * lft u v d x = u.2 * v.2 * ((n - m) * x.2 - x.1 * D * d) := by
  have e1 := hu.eq
  have e2 := hv.eq
  unfold lft
  generalize u.1 = u1 at *
  generalize u.2 = u2 at *
  generalize v.1 = v1 at *
  generalize v.2 = v2 at *
  clear hu hv
  grind
theorem lft_G {Z : List Sz} {D : Int} (S : Scl Z D) {k s : Nat} (hk : k ∈ pls Z) (hs : s ∈ pls Z) (x : Int × Int) : D * lft (pz Z k) (pz Z s) ((k : Int) - s) x = (pz Z k).2 * (pz Z s).2 * (Gx D Z x k - Gx D Z x s) := by
  rw [lft_scale (S.at hk) (S.at hs)]
  unfold Gx
  generalize nm D Z k = a
  generalize nm D Z s = b
  have : (a - b) * x.2 - x.1 * D * ((k : Int) - s) = a * x.2 - x.1 * D * (k : Int) - (b * x.2 - x.1 * D * (s : Int)) := by
    generalize (k : Int) = k'
    generalize (s : Int) = s'
    grind
  rw [this]
theorem G_zero {Z : List Sz} {D : Int} (S : Scl Z D) {k s : Nat} (hk : k ∈ pls Z) (hs : s ∈ pls Z) {x : Int × Int} (h : lft (pz Z k) (pz Z s) ((k : Int) - s) x = 0) : Gx D Z x k = Gx D Z x s := by
  have e := lft_G S hk hs x
  rw [h, Int.mul_zero] at e
  have p : 0 < (pz Z k).2 * (pz Z s).2 := Int.mul_pos (S.at hk).ok.pos (S.at hs).ok.pos
  rcases Int.mul_eq_zero.mp e.symm with z | z
  · omega
  · omega
theorem G_nonneg {Z : List Sz} {D : Int} (S : Scl Z D) {k s : Nat} (hk : k ∈ pls Z) (hs : s ∈ pls Z) {x : Int × Int} (h : 0 ≤ lft (pz Z k) (pz Z s) ((k : Int) - s) x) : Gx D Z x s ≤ Gx D Z x k := by
  have e := lft_G S hk hs x
  have p : 0 < (pz Z k).2 * (pz Z s).2 := Int.mul_pos (S.at hk).ok.pos (S.at hs).ok.pos
  have h1 : 0 ≤ D * lft (pz Z k) (pz Z s) ((k : Int) - s) x := Int.mul_nonneg (Int.le_of_lt S.pos) h
  rw [e, Int.mul_comm] at h1
  have := Int.nonneg_of_mul_nonneg_left h1 p
  omega
theorem G_pos {Z : List Sz} {D : Int} (S : Scl Z D) {k s : Nat} (hk : k ∈ pls Z) (hs : s ∈ pls Z) {x : Int × Int} (h : 0 < lft (pz Z k) (pz Z s) ((k : Int) - s) x) : Gx D Z x s < Gx D Z x k := by
  have e := lft_G S hk hs x
  have p : 0 < (pz Z k).2 * (pz Z s).2 := Int.mul_pos (S.at hk).ok.pos (S.at hs).ok.pos
  have h1 : 0 < D * lft (pz Z k) (pz Z s) ((k : Int) - s) x := Int.mul_pos S.pos h
  rw [e, Int.mul_comm] at h1
  have := Int.pos_of_mul_pos_left h1 p
  omega
structure NextG (D : Int) (Z : List Sz) (s t : Nat) (x : Int × Int) : Prop where
  ok : Ok x
  eq : Gx D Z x t = Gx D Z x s
  le : ∀ k ∈ pls Z, s < k → Gx D Z x s ≤ Gx D Z x k
  lt : ∀ k ∈ pls Z, t < k → Gx D Z x s < Gx D Z x k
theorem NextOk.g {Z : List Sz} {D : Int} (S : Scl Z D) (ho : AllOk Z) (hb : BdZ 100 Z) (hl : Z.length ≤ 1000) {s t : Nat} {x : Int × Int} (h : NextOk Z (pls Z) s t x) : NextG D Z s t x := by
  obtain ⟨ok, _, _, S1⟩ := h.bd ho hb hl
  have ps := pls_pt ho hb h.hs
  have pt := pls_pt ho hb h.ht
  refine ⟨ok, G_zero S h.ht h.hs (lft_zero S1), fun k hk hlt => ?_, fun k hk hlt => ?_⟩
  · have pk := pls_pt ho hb hk
    have S2 := sl_spec (d := (k : Int) - s) pk.2.2.1 ps.2.2.1 (by omega)
    exact G_nonneg S hk h.hs (lft_nonneg S2 pk.2.2.1 ps.2.2.1 (by omega) (h.le k hk hlt))
  · have l := h.lt
    have pk := pls_pt ho hb hk
    have S2 := sl_spec (d := (k : Int) - s) pk.2.2.1 ps.2.2.1 (by omega)
    refine G_pos S hk h.hs (lft_pos S2 ok pk.2.2.1 ps.2.2.1 (by omega) (h.le k hk (by omega)) fun z => ?_)
    have := h.mx k hk (by omega) z
    omega
theorem turn_up {D : Int} {Z : List Sz} (hD : 0 < D) {x y : Int × Int} (hx : 0 < x.2) (hy : 0 < y.2) (h : x.1 * y.2 < y.1 * x.2) {k t : Nat} (hk : k < t) (g : Gx D Z x t ≤ Gx D Z x k) : Gx D Z y t < Gx D Z y k := by
  unfold Gx at *
  generalize nm D Z k = a at *
  generalize nm D Z t = b at *
  have e : (a * y.2 - y.1 * D * (k : Int) - (b * y.2 - y.1 * D * (t : Int))) * x.2 = (a * x.2 - x.1 * D * (k : Int) - (b * x.2 - x.1 * D * (t : Int))) * y.2 + (y.1 * x.2 - x.1 * y.2) * D * ((t : Int) - k) := by
    generalize (k : Int) = k'
    generalize (t : Int) = t'
    clear g h hx hy
    grind
  have p1 : 0 ≤ (a * x.2 - x.1 * D * (k : Int) - (b * x.2 - x.1 * D * (t : Int))) * y.2 := Int.mul_nonneg (by omega) (Int.le_of_lt hy)
  have p2 : 0 < (y.1 * x.2 - x.1 * y.2) * D * ((t : Int) - k) := Int.mul_pos (Int.mul_pos (by omega) hD) (by omega)
  have p3 : 0 < (a * y.2 - y.1 * D * (k : Int) - (b * y.2 - y.1 * D * (t : Int))) * x.2 := by rw [e]; omega
  have := Int.pos_of_mul_pos_left p3 hx
  omega
theorem turn_dn {D : Int} {Z : List Sz} (hD : 0 < D) {x y : Int × Int} (hx : 0 < x.2) (hy : 0 < y.2) (h : x.1 * y.2 < y.1 * x.2) {k t : Nat} (hk : t < k) (g : Gx D Z y t ≤ Gx D Z y k) : Gx D Z x t < Gx D Z x k := by
  unfold Gx at *
  generalize nm D Z k = a at *
  generalize nm D Z t = b at *
  have e : (a * x.2 - x.1 * D * (k : Int) - (b * x.2 - x.1 * D * (t : Int))) * y.2 = (a * y.2 - y.1 * D * (k : Int) - (b * y.2 - y.1 * D * (t : Int))) * x.2 + (y.1 * x.2 - x.1 * y.2) * D * ((k : Int) - t) := by
    generalize (k : Int) = k'
    generalize (t : Int) = t'
    clear g h hx hy
    grind
  have p1 : 0 ≤ (a * y.2 - y.1 * D * (k : Int) - (b * y.2 - y.1 * D * (t : Int))) * x.2 := Int.mul_nonneg (by omega) (Int.le_of_lt hx)
  have p2 : 0 < (y.1 * x.2 - x.1 * y.2) * D * ((k : Int) - t) := Int.mul_pos (Int.mul_pos (by omega) hD) (by omega)
  have p3 : 0 < (a * x.2 - x.1 * D * (k : Int) - (b * x.2 - x.1 * D * (t : Int))) * y.2 := by rw [e]; omega
  have := Int.pos_of_mul_pos_left p3 hy
  omega
/-- the first and the last of the lowest places -/
structure Low (ps : List Nat) (g : Nat → Int) (a b : Nat) : Prop where
  ha : a ∈ ps
  hb : b ∈ ps
  le : a ≤ b
  eq : g b = g a
  mn : ∀ k ∈ ps, g a ≤ g k
  ends : ∀ k ∈ ps, g k = g a → a ≤ k ∧ k ≤ b
theorem Low.uniq {ps : List Nat} {g : Nat → Int} {a b a' b' : Nat} (h : Low ps g a b) (h' : Low ps g a' b') : a' = a ∧ b' = b := by
  have e : g a' = g a := by have := h.mn a' h'.ha; have := h'.mn a h.ha; omega
  have h1 := h.ends a' h'.ha e
  have h2 := h.ends b' h'.hb (by rw [h'.eq, e])
  have h3 := h'.ends a h.ha e.symm
  have h4 := h'.ends b h.hb (by rw [h.eq, e])
  omega
theorem least_of (f : Nat → Int) : ∀ (l : List Nat), l ≠ [] → ∃ a ∈ l, ∀ k ∈ l, f a ≤ f k
  | [], h => absurd rfl h
  | [a], _ => ⟨a, List.mem_cons_self, fun k hk => by rw [List.mem_singleton.mp hk]; exact Int.le_refl _⟩
  | a :: b :: r, _ => by
    obtain ⟨m, hm, h⟩ := least_of f (b :: r) (by simp)
    by_cases c : f a ≤ f m
    · refine ⟨a, List.mem_cons_self, fun k hk => ?_⟩
      rcases List.mem_cons.mp hk with rfl | hk
      · exact Int.le_refl _
      · have := h k hk; omega
    · refine ⟨m, List.mem_cons_of_mem _ hm, fun k hk => ?_⟩
      rcases List.mem_cons.mp hk with rfl | hk
      · omega
      · exact h k hk
theorem low_ex {ps : List Nat} (g : Nat → Int) (h : ps ≠ []) : ∃ a b, Low ps g a b := by
  obtain ⟨m, hm, hle⟩ := least_of g ps h
  have hf : ∀ k, k ∈ ps.filter (fun k => decide (g k = g m)) ↔ k ∈ ps ∧ g k = g m := fun k => by rw [List.mem_filter, decide_eq_true_iff]
  have hne : ps.filter (fun k => decide (g k = g m)) ≠ [] := List.ne_nil_of_mem ((hf m).mpr ⟨hm, rfl⟩)
  obtain ⟨a, ha, la⟩ := least_of (fun k => (k : Int)) _ hne
  obtain ⟨b, hb, lb⟩ := least_of (fun k => -(k : Int)) _ hne
  have ha' := (hf a).mp ha
  have hb' := (hf b).mp hb
  refine ⟨a, b, ha'.1, hb'.1, by have := la b hb; omega, by omega, fun k hk => by have := hle k hk; omega, fun k hk e => ?_⟩
  have mk := (hf k).mpr ⟨hk, by omega⟩
  have := la k mk
  have := lb k mk
  omega
theorem LR.lows {Z : List Sz} {D : Int} (S : Scl Z D) (ho : AllOk Z) (hb : BdZ 100 Z) (hl : Z.length ≤ 1000) {s e : Nat} {ls : List Side} (h : LR Z (pls Z) s ls e) :
    (∀ t x ls', ls = (s, t, x) :: ls' → ∀ k ∈ pls Z, k < s → Gx D Z x s < Gx D Z x k) → ∀ d ∈ ls, Ok d.2.2 ∧ d.1 < d.2.1 ∧ Low (pls Z) (Gx D Z d.2.2) d.1 d.2.1 := by
  induction h with
  | nil => intro _ d hd; simp at hd
  | @cons s t e x ls n r ih =>
    intro hbf
    have g := n.g S ho hb hl
    have hb1 := hbf t x ls rfl
    have l := n.lt
    have L : Low (pls Z) (Gx D Z x) s t := ⟨n.hs, n.ht, by omega, g.eq, fun k hk => by
      rcases Nat.lt_trichotomy k s with z | z | z
      · have := hb1 k hk z; omega
      · rw [z]; exact Int.le_refl _
      · exact g.le k hk z, fun k hk e => by
      rcases Nat.lt_or_ge k s with z | z
      · have := hb1 k hk z; omega
      · rcases Nat.lt_or_ge t k with z2 | z2
        · have := g.lt k hk z2; omega
        · exact ⟨z, z2⟩⟩
    intro d hd
    rcases List.mem_cons.mp hd with rfl | hd
    · exact ⟨g.ok, n.lt, L⟩
    · refine ih (fun t' y ls' e' k hk hlt => ?_) d hd
      subst e'
      cases r with
      | cons n' r' =>
        have g' := n'.g S ho hb hl
        refine turn_up S.pos g.ok.pos g'.ok.pos (rises ho hb hl n n') hlt ?_
        have := L.mn k hk
        have := L.eq
        omega
theorem LR.has {Z : List Sz} {D : Int} (S : Scl Z D) (ho : AllOk Z) (hb : BdZ 100 Z) (hl : Z.length ≤ 1000) {s e : Nat} {ls : List Side} (h : LR Z (pls Z) s ls e) (hm : ∀ k ∈ pls Z, k ≤ e) {x : Int × Int} (hx : Ok x) {a b : Nat} (L : Low (pls Z) (Gx D Z x) a b) (hab : a < b) : s ≤ a → (a, b, x) ∈ ls := by
  induction h with
  | nil =>
    intro hs
    have := hm b L.hb
    omega
  | @cons s t e y ls n r ih =>
    intro hs
    have g := n.g S ho hb hl
    have l := n.lt
    rcases Int.lt_trichotomy (x.1 * y.2) (y.1 * x.2) with c | c | c
    · exfalso
      have h1 := turn_dn (Z := Z) (k := b) (t := s) S.pos hx.pos g.ok.pos c (by omega) (g.le b L.hb (by omega))
      have := L.mn s n.hs
      have := L.eq
      omega
    · have e := Ok.eq hx g.ok c
      subst e
      have h1 : Gx D Z x s = Gx D Z x a := by
        have := L.mn s n.hs
        rcases Nat.eq_or_lt_of_le hs with z | z
        · rw [z]
        · have := g.le a L.ha z; omega
      have h2 := L.ends s n.hs h1
      have h3 := L.ends t n.ht (by rw [g.eq, h1])
      have h4 : b ≤ t := by
        refine Nat.le_of_not_lt fun z => ?_
        have := g.lt b L.hb z
        have := L.eq
        omega
      have e1 : a = s := by omega
      have e2 : b = t := by omega
      subst e1 e2
      exact List.mem_cons_self
    · refine List.mem_cons_of_mem _ (ih hm ?_)
      refine Nat.le_of_not_lt fun z => ?_
      have h0 : Gx D Z y s ≤ Gx D Z y a := by
        rcases Nat.eq_or_lt_of_le hs with z | z
        · rw [z]; exact Int.le_refl _
        · exact g.le a L.ha z
      have h1 := turn_up (Z := Z) (k := a) (t := t) S.pos g.ok.pos hx.pos c z (by rw [g.eq]; exact h0)
      have := L.mn t n.ht
      omega
/-- a whole line: its sides are just the slopes by which several places are lowest -/
theorem line_iff {Z : List Sz} {D : Int} (S : Scl Z D) (ho : AllOk Z) (hb : BdZ 100 Z) (hl : Z.length ≤ 1000) (hne : pls Z ≠ []) {ls : List Side} (h : LR Z (pls Z) ((pls Z).head hne) ls ((pls Z).getLast hne)) (a b : Nat) (x : Int × Int) :
    (a, b, x) ∈ ls ↔ Ok x ∧ a < b ∧ Low (pls Z) (Gx D Z x) a b := by
  constructor
  · intro m
    exact h.lows S ho hb hl (fun t x ls' _ k hk hlt => by have := head_min hne k hk; omega) _ m
  · rintro ⟨ok, hab, L⟩
    exact h.has S ho hb hl (last_max hne) ok L hab (head_min hne a L.ha)
/-! ### sums of sizes, over one bottom -/
def dn : List Sz → Int
  | [] => 1
  | none :: r => dn r
  | some u :: r => u.2 * dn r
theorem dn_pos : ∀ {Z : List Sz}, AllOk Z → 0 < dn Z
  | [], _ => by decide
  | none :: r, h => dn_pos (Z := r) fun x hx => h x (List.mem_cons_of_mem _ hx)
  | some u :: r, h => Int.mul_pos (h u List.mem_cons_self).pos (dn_pos (Z := r) fun x hx => h x (List.mem_cons_of_mem _ hx))
theorem dn_dvd : ∀ {Z : List Sz} {u : Int × Int}, some u ∈ Z → u.2 ∣ dn Z
  | none :: r, u, h => by
    rcases List.mem_cons.mp h with z | z
    · cases z
    · exact dn_dvd (Z := r) z
  | some v :: r, u, h => by
    rcases List.mem_cons.mp h with z | z
    · cases z; exact Int.dvd_mul_right _ _
    · exact Int.dvd_trans (dn_dvd (Z := r) z) (Int.dvd_mul_left _ _)
theorem pz_of {Z : List Sz} {k : Nat} {u : Int × Int} (h : gz Z k = some u) : pz Z k = u := by unfold pz; rw [h]; rfl
theorem scl_of {Z : List Sz} {D : Int} (ho : AllOk Z) (hD : 0 < D) (hd : ∀ u, some u ∈ Z → u.2 ∣ D) : Scl Z D := by
  refine ⟨hD, fun k hk => ?_⟩
  obtain ⟨u, e⟩ := pls_mem.mp hk
  have m := gz_mem e
  rw [pz_of e]
  exact ⟨u.1 * (D / u.2), ho u m.2, hD, by rw [Int.mul_assoc, Int.ediv_mul_cancel (hd u m.2)]⟩
theorem scl_two {X Y : List Sz} (hx : AllOk X) (hy : AllOk Y) : ∃ D, Scl X D ∧ Scl Y D :=
  ⟨dn X * dn Y, scl_of hx (Int.mul_pos (dn_pos hx) (dn_pos hy)) fun u hu => Int.dvd_trans (dn_dvd hu) (Int.dvd_mul_right _ _),
    scl_of hy (Int.mul_pos (dn_pos hx) (dn_pos hy)) fun u hu => Int.dvd_trans (dn_dvd hu) (Int.dvd_mul_left _ _)⟩
theorem gz_cvz {X Y : List Sz} {k : Nat} (hk : k < X.length + Y.length - 1) : gz (cvz X Y) k = bst X Y k X.length := gz_get (by unfold cvz; simp [hk])
theorem rep_red {x : Int × Int} {n m D : Int} (h : Rep x (n * D + m * D) (D * D)) (hD : 0 < D) : Rep x (n + m) D := by
  refine ⟨h.ok, hD, ?_⟩
  have e := h.eq
  have e2 : x.1 * D * D = (n + m) * x.2 * D := by
    generalize x.1 = x1 at *
    generalize x.2 = x2 at *
    clear h hD
    grind
  exact Int.eq_of_mul_eq_mul_right (by omega) e2
theorem rep_ad {X Y : List Sz} {D : Int} (SX : Scl X D) (SY : Scl Y D) {i j : Nat} {u v : Int × Int} (e1 : gz X i = some u) (e2 : gz Y j = some v) : Rep (ad u v) (nm D X i + nm D Y j) D := by
  have h1 := SX.at (pls_mem.mpr ⟨u, e1⟩)
  have h2 := SY.at (pls_mem.mpr ⟨v, e2⟩)
  rw [pz_of e1] at h1
  rw [pz_of e2] at h2
  exact rep_red (h1.ad h2) SX.pos
/-- a place of the sum comes of two places -/
theorem cv_of {X Y : List Sz} {D : Int} (hx : AllOk X) (hy : AllOk Y) (SX : Scl X D) (SY : Scl Y D) {k : Nat} (hk : k ∈ pls (cvz X Y)) :
    ∃ i j, i ∈ pls X ∧ j ∈ pls Y ∧ i + j = k ∧ nm D (cvz X Y) k = nm D X i + nm D Y j ∧ Rep (pz (cvz X Y) k) (nm D X i + nm D Y j) D := by
  obtain ⟨w, e⟩ := pls_mem.mp hk
  have hlt := (gz_mem e).1
  rw [len_cvz] at hlt
  have e' := e
  rw [gz_cvz hlt] at e'
  rcases fold_least (T := sm X Y k) (fun i x e => (sm_ok hx hy e).pos) X.length with ⟨z, _⟩ | ⟨y, ey, ⟨i, hi, ei⟩, _⟩
  · have : bst X Y k X.length = none := z
    rw [this] at e'; cases e'
  · have : bst X Y k X.length = some y := ey
    rw [this] at e'
    cases e'
    obtain ⟨c, u, v, e1, e2, rfl⟩ := sm_some ei
    have R := rep_ad SX SY e1 e2
    refine ⟨i, k - i, pls_mem.mpr ⟨u, e1⟩, pls_mem.mpr ⟨v, e2⟩, by omega, ?_, ?_⟩
    · unfold nm
      rw [pz_of e]
      exact rep_div R
    · rw [pz_of e]; exact R
theorem cv_scl {X Y : List Sz} {D : Int} (hx : AllOk X) (hy : AllOk Y) (SX : Scl X D) (SY : Scl Y D) : Scl (cvz X Y) D :=
  ⟨SX.pos, fun k hk => by obtain ⟨i, j, _, _, _, _, R⟩ := cv_of hx hy SX SY hk; exact ⟨_, R⟩⟩
/-- two places have a sum that is no less than what stands there -/
theorem cv_le {X Y : List Sz} {D : Int} (hx : AllOk X) (hy : AllOk Y) (SX : Scl X D) (SY : Scl Y D) {i j : Nat} (hi : i ∈ pls X) (hj : j ∈ pls Y) :
    i + j ∈ pls (cvz X Y) ∧ nm D (cvz X Y) (i + j) ≤ nm D X i + nm D Y j := by
  obtain ⟨u, e1⟩ := pls_mem.mp hi
  obtain ⟨v, e2⟩ := pls_mem.mp hj
  have l1 := (gz_mem e1).1
  have l2 := (gz_mem e2).1
  have g := gz_cvz (X := X) (Y := Y) (k := i + j) (by omega)
  have es : sm X Y (i + j) i = some (ad u v) := by
    unfold sm
    rw [if_pos (by omega), show i + j - i = j by omega, e1, e2]
    rfl
  rcases fold_least (T := sm X Y (i + j)) (fun i x e => (sm_ok hx hy e).pos) X.length with ⟨_, z⟩ | ⟨y, ey, _, hmin⟩
  · rw [z i l1] at es; cases es
  · have ey' : bst X Y (i + j) X.length = some y := ey
    rw [ey'] at g
    have hm := pls_mem.mpr ⟨y, g⟩
    refine ⟨hm, ?_⟩
    have R1 := (cv_scl hx hy SX SY).at hm
    rw [pz_of g] at R1
    have R2 := rep_ad SX SY e1 e2
    have := (Rep.le R1 R2).mp (hmin i _ l1 es)
    exact Int.le_of_mul_le_mul_right this SX.pos
theorem low_add {X Y : List Sz} {D : Int} (hx : AllOk X) (hy : AllOk Y) (SX : Scl X D) (SY : Scl Y D) {x : Int × Int} (ok : Ok x) {a b c d : Nat} (L : Low (pls X) (Gx D X x) a b) (M : Low (pls Y) (Gx D Y x) c d) :
    Low (pls (cvz X Y)) (Gx D (cvz X Y) x) (a + c) (b + d) := by
  have lin : ∀ (p q : Int) (i j : Nat), (p + q) * x.2 - x.1 * D * ((i + j : Nat) : Int) = (p * x.2 - x.1 * D * (i : Int)) + (q * x.2 - x.1 * D * (j : Int)) := fun p q i j => by
    rw [Int.natCast_add]
    generalize (i : Int) = i'
    generalize (j : Int) = j'
    grind
  have up : ∀ i j, i ∈ pls X → j ∈ pls Y → i + j ∈ pls (cvz X Y) ∧ Gx D (cvz X Y) x (i + j) ≤ Gx D X x i + Gx D Y x j := fun i j hi hj => by
    obtain ⟨hm, hle⟩ := cv_le hx hy SX SY hi hj
    refine ⟨hm, ?_⟩
    unfold Gx
    rw [← lin]
    have := Int.mul_le_mul_of_nonneg_right hle (Int.le_of_lt ok.pos)
    omega
  have dw : ∀ k ∈ pls (cvz X Y), ∃ i j, i ∈ pls X ∧ j ∈ pls Y ∧ i + j = k ∧ Gx D (cvz X Y) x k = Gx D X x i + Gx D Y x j := fun k hk => by
    obtain ⟨i, j, hi, hj, e, en, _⟩ := cv_of hx hy SX SY hk
    refine ⟨i, j, hi, hj, e, ?_⟩
    unfold Gx
    rw [← lin, ← en, e]
  have low : ∀ k ∈ pls (cvz X Y), Gx D X x a + Gx D Y x c ≤ Gx D (cvz X Y) x k := fun k hk => by
    obtain ⟨i, j, hi, hj, _, e⟩ := dw k hk
    have := L.mn i hi
    have := M.mn j hj
    omega
  have u1 := up a c L.ha M.ha
  have u2 := up b d L.hb M.hb
  have e1 := low _ u1.1
  have e2 := low _ u2.1
  have l1 := L.eq
  have l2 := M.eq
  refine ⟨u1.1, u2.1, by have := L.le; have := M.le; omega, by omega, fun k hk => by have := low k hk; omega, fun k hk e => ?_⟩
  obtain ⟨i, j, hi, hj, e', e3⟩ := dw k hk
  have m1 := L.mn i hi
  have m2 := M.mn j hj
  have h1 := L.ends i hi (by omega)
  have h2 := M.ends j hj (by omega)
  omega
theorem cv_ne {X Y : List Sz} {D : Int} (hx : AllOk X) (hy : AllOk Y) (SX : Scl X D) (SY : Scl Y D) (nx : pls X ≠ []) (ny : pls Y ≠ []) : pls (cvz X Y) ≠ [] :=
  List.ne_nil_of_mem (cv_le hx hy SX SY (List.head_mem nx) (List.head_mem ny)).1
theorem cv_head {X Y : List Sz} {D : Int} (hx : AllOk X) (hy : AllOk Y) (SX : Scl X D) (SY : Scl Y D) (nx : pls X ≠ []) (ny : pls Y ≠ []) (nz : pls (cvz X Y) ≠ []) : (pls (cvz X Y)).head nz = (pls X).head nx + (pls Y).head ny := by
  have h1 := head_min nz _ (cv_le hx hy SX SY (List.head_mem nx) (List.head_mem ny)).1
  obtain ⟨i, j, hi, hj, e, _⟩ := cv_of hx hy SX SY (List.head_mem nz)
  have h2 := head_min nx i hi
  have h3 := head_min ny j hj
  omega
theorem sz_ext {X Y : List Sz} (hl : X.length = Y.length) (h : ∀ k, gz X k = gz Y k) : X = Y := by
  refine List.ext_getElem hl fun k h1 h2 => ?_
  have := h k
  rw [gz_get (List.getElem?_eq_getElem h1), gz_get (List.getElem?_eq_getElem h2)] at this
  exact this
theorem cv_assoc {X Y W : List Sz} {D : Int} (hx : AllOk X) (hy : AllOk Y) (hw : AllOk W) (SX : Scl X D) (SY : Scl Y D) (SW : Scl W D) (lx : 1 ≤ X.length) (ly : 1 ≤ Y.length) (lw : 1 ≤ W.length) : cvz (cvz X Y) W = cvz X (cvz Y W) := by
  have oA := cvz_ok hx hy
  have oB := cvz_ok hy hw
  have SA := cv_scl hx hy SX SY
  have SB := cv_scl hy hw SY SW
  have S1 := cv_scl oA hw SA SW
  have S2 := cv_scl hx oB SX SB
  have d1 : ∀ k ∈ pls (cvz (cvz X Y) W), k ∈ pls (cvz X (cvz Y W)) ∧ nm D (cvz X (cvz Y W)) k ≤ nm D (cvz (cvz X Y) W) k := fun k hk => by
    obtain ⟨p, l, hp, hl, e, en, _⟩ := cv_of oA hw SA SW hk
    obtain ⟨i, j, hi, hj, e', en', _⟩ := cv_of hx hy SX SY hp
    have h1 := cv_le hy hw SY SW hj hl
    have h2 := cv_le hx oB SX SB hi h1.1
    have ek : i + (j + l) = k := by omega
    rw [ek] at h2
    exact ⟨h2.1, by omega⟩
  have d2 : ∀ k ∈ pls (cvz X (cvz Y W)), k ∈ pls (cvz (cvz X Y) W) ∧ nm D (cvz (cvz X Y) W) k ≤ nm D (cvz X (cvz Y W)) k := fun k hk => by
    obtain ⟨i, p, hi, hp, e, en, _⟩ := cv_of hx oB SX SB hk
    obtain ⟨j, l, hj, hl, e', en', _⟩ := cv_of hy hw SY SW hp
    have h1 := cv_le hx hy SX SY hi hj
    have h2 := cv_le oA hw SA SW h1.1 hl
    have ek : i + j + l = k := by omega
    rw [ek] at h2
    exact ⟨h2.1, by omega⟩
  refine sz_ext (by rw [len_cvz, len_cvz, len_cvz, len_cvz]; omega) fun k => ?_
  cases e1 : gz (cvz (cvz X Y) W) k with
  | none =>
    cases e2 : gz (cvz X (cvz Y W)) k with
    | none => rfl
    | some v =>
      obtain ⟨u, eu⟩ := pls_mem.mp (d2 k (pls_mem.mpr ⟨v, e2⟩)).1
      rw [e1] at eu; cases eu
  | some u =>
    have m1 := pls_mem.mpr ⟨u, e1⟩
    obtain ⟨v, e2⟩ := pls_mem.mp (d1 k m1).1
    have m2 := pls_mem.mpr ⟨v, e2⟩
    have R1 := S1.at m1
    have R2 := S2.at m2
    rw [pz_of e1] at R1
    rw [pz_of e2] at R2
    have h1 := (d1 k m1).2
    have h2 := (d2 k m2).2
    have en : nm D (cvz (cvz X Y) W) k = nm D (cvz X (cvz Y W)) k := by omega
    rw [e2, Rep.uniq R1 R2 (by rw [en])]
/-! ### lengths by slopes -/
abbrev SL := (Int × Int) × Nat
def lk : List SL → Int × Int → Nat
  | [], _ => 0
  | q :: r, x => if q.1 = x then q.2 else lk r x
def mrg : List SL → SL → List SL
  | [], p => [p]
  | q :: r, p => if q.1 = p.1 then (q.1, q.2 + p.2) :: r else q :: mrg r p
def Dst (l : List SL) : Prop := l.Pairwise fun a b => a.1 ≠ b.1
theorem lk_mem : ∀ {l : List SL}, Dst l → ∀ {x : Int × Int} {n : Nat}, (x, n) ∈ l → lk l x = n
  | q :: r, d, x, n, h => by
    unfold lk
    rcases List.mem_cons.mp h with z | z
    · subst z; rw [if_pos rfl]
    · rw [if_neg fun e => (List.pairwise_cons.mp d).1 _ z e]
      exact lk_mem (List.pairwise_cons.mp d).2 z
theorem lk_none : ∀ {l : List SL} {x : Int × Int}, (∀ n, (x, n) ∉ l) → lk l x = 0
  | [], _, _ => rfl
  | q :: r, x, h => by
    unfold lk
    rw [if_neg fun e => h q.2 (by rw [← e]; exact List.mem_cons_self)]
    exact lk_none fun n hn => h n (List.mem_cons_of_mem _ hn)
theorem lk_in : ∀ {l : List SL} {x : Int × Int} {n : Nat}, lk l x = n → 0 < n → (x, n) ∈ l
  | [], _, _, h, hp => by have : (0 : Nat) = _ := h; omega
  | q :: r, x, n, h, hp => by
    unfold lk at h
    by_cases c : q.1 = x
    · rw [if_pos c] at h
      rw [← c, ← h]; exact List.mem_cons_self
    · rw [if_neg c] at h
      exact List.mem_cons_of_mem _ (lk_in h hp)
theorem lk_mrg (p : SL) (x : Int × Int) : ∀ l : List SL, lk (mrg l p) x = lk l x + if p.1 = x then p.2 else 0
  | [] => by
    show (if p.1 = x then p.2 else lk [] x) = lk [] x + _
    show (if p.1 = x then p.2 else 0) = 0 + _
    omega
  | q :: r => by
    unfold mrg
    by_cases c : q.1 = p.1
    · rw [if_pos c]
      show (if q.1 = x then q.2 + p.2 else lk r x) = (if q.1 = x then q.2 else lk r x) + _
      by_cases c2 : q.1 = x
      · rw [if_pos c2, if_pos c2, if_pos (c ▸ c2)]
      · rw [if_neg c2, if_neg c2, if_neg (c ▸ c2)]; rfl
    · rw [if_neg c]
      show (if q.1 = x then q.2 else lk (mrg r p) x) = (if q.1 = x then q.2 else lk r x) + _
      by_cases c2 : q.1 = x
      · rw [if_pos c2, if_pos c2, if_neg fun z => c (c2.trans z.symm)]; rfl
      · rw [if_neg c2, if_neg c2]; exact lk_mrg p x r
theorem mrg_keys (p : SL) : ∀ {l : List SL} {q : SL}, q ∈ mrg l p → (∃ q' ∈ l, q'.1 = q.1) ∨ q.1 = p.1
  | [], q, h => .inr (by rw [List.mem_singleton.mp h])
  | q0 :: r, q, h => by
    unfold mrg at h
    by_cases c : q0.1 = p.1
    · rw [if_pos c] at h
      rcases List.mem_cons.mp h with rfl | z
      · exact .inr c
      · exact .inl ⟨q, List.mem_cons_of_mem _ z, rfl⟩
    · rw [if_neg c] at h
      rcases List.mem_cons.mp h with rfl | z
      · exact .inl ⟨_, List.mem_cons_self, rfl⟩
      · rcases mrg_keys p z with ⟨q', m, e⟩ | e
        · exact .inl ⟨q', List.mem_cons_of_mem _ m, e⟩
        · exact .inr e
theorem mrg_dst (p : SL) : ∀ {l : List SL}, Dst l → Dst (mrg l p)
  | [], _ => List.pairwise_singleton ..
  | q :: r, d => by
    obtain ⟨d1, d2⟩ := List.pairwise_cons.mp d
    unfold mrg
    by_cases c : q.1 = p.1
    · rw [if_pos c]; exact List.pairwise_cons.mpr ⟨fun b hb => d1 b hb, d2⟩
    · rw [if_neg c]
      refine List.pairwise_cons.mpr ⟨fun b hb => ?_, mrg_dst p d2⟩
      rcases mrg_keys p hb with ⟨q', m, e⟩ | e
      · rw [← e]; exact d1 q' m
      · rw [e]; exact c
theorem mrg_pos (p : SL) (hp : 0 < p.2) : ∀ {l : List SL}, (∀ q ∈ l, 0 < q.2) → ∀ q ∈ mrg l p, 0 < q.2
  | [], _, q, h => by rw [List.mem_singleton.mp h]; exact hp
  | q0 :: r, hl, q, h => by
    unfold mrg at h
    have h0 := hl q0 List.mem_cons_self
    by_cases c : q0.1 = p.1
    · rw [if_pos c] at h
      rcases List.mem_cons.mp h with rfl | z
      · show 0 < q0.2 + p.2; omega
      · exact hl q (List.mem_cons_of_mem _ z)
    · rw [if_neg c] at h
      rcases List.mem_cons.mp h with rfl | z
      · exact h0
      · exact mrg_pos p hp (fun q hq => hl q (List.mem_cons_of_mem _ hq)) q z
def mrgs (l : List SL) (ps : List SL) : List SL := ps.foldl mrg l
theorem mrgs_dst : ∀ (ps : List SL) {l : List SL}, Dst l → Dst (mrgs l ps)
  | [], _, d => d
  | p :: ps, l, d => mrgs_dst ps (l := mrg l p) (mrg_dst p d)
theorem mrgs_pos : ∀ (ps : List SL) {l : List SL}, (∀ p ∈ ps, 0 < p.2) → (∀ q ∈ l, 0 < q.2) → ∀ q ∈ mrgs l ps, 0 < q.2
  | [], _, _, h => h
  | p :: ps, l, hp, h => mrgs_pos ps (l := mrg l p) (fun q hq => hp q (List.mem_cons_of_mem _ hq)) (mrg_pos p (hp p List.mem_cons_self) h)
theorem lk_mrgs : ∀ (ps : List SL) {l : List SL}, Dst ps → ∀ x, lk (mrgs l ps) x = lk l x + lk ps x
  | [], l, _, x => rfl
  | p :: ps, l, d, x => by
    obtain ⟨d1, d2⟩ := List.pairwise_cons.mp d
    show lk (mrgs (mrg l p) ps) x = lk l x + (if p.1 = x then p.2 else lk ps x)
    rw [lk_mrgs ps d2, lk_mrg]
    by_cases c : p.1 = x
    · rw [if_pos c, if_pos c, lk_none fun n hn => d1 _ hn c]; rfl
    · rw [if_neg c, if_neg c]; rfl
theorem perm_lk {F G : List SL} (dF : Dst F) (dG : Dst G) (pF : ∀ p ∈ F, 0 < p.2) (pG : ∀ p ∈ G, 0 < p.2) (h : ∀ x, lk F x = lk G x) : F.Perm G := by
  have nd : ∀ {l : List SL}, Dst l → l.Nodup := fun d => List.Pairwise.imp (fun h e => h (congrArg Prod.fst e)) d
  refine (List.perm_ext_iff_of_nodup (nd dF) (nd dG)).mpr fun p => ?_
  constructor
  · intro m
    exact lk_in (by rw [← h]; exact lk_mem dF m) (pF p m)
  · intro m
    exact lk_in (by rw [h]; exact lk_mem dG m) (pG p m)
theorem lxl_irr (x y : Int × Int) (h1 : lxl x y = true) (h2 : lxl y x = true) : False := by
  rw [lxl_eq] at h1 h2
  omega
theorem sorted_one {β : Type} : ∀ {l l' : List ((Int × Int) × β)}, l.Perm l' → l.Pairwise (fun a b => lxl a.1 b.1 = true) → l'.Pairwise (fun a b => lxl a.1 b.1 = true) → l = l'
  | [], l', p, _, _ => (List.nil_perm.mp p).symm
  | a :: r, [], p, _, _ => absurd p.length_eq (by simp)
  | a :: r, b :: r', p, s, s' => by
    obtain ⟨s1, s2⟩ := List.pairwise_cons.mp s
    obtain ⟨t1, t2⟩ := List.pairwise_cons.mp s'
    have e : a = b := by
      refine Classical.byContradiction fun hne => ?_
      have m1 : a ∈ r' := by
        rcases List.mem_cons.mp (p.mem_iff.mp List.mem_cons_self) with z | z
        · exact absurd z hne
        · exact z
      have m2 : b ∈ r := by
        rcases List.mem_cons.mp (p.mem_iff.mpr List.mem_cons_self) with z | z
        · exact absurd z.symm hne
        · exact z
      exact lxl_irr _ _ (s1 b m2) (t1 a m1)
    subst e
    rw [sorted_one (List.perm_cons a |>.mp p) s2 t2]
def lens (ls : List Side) : List SL := ls.map fun d => (d.2.2, d.2.1 - d.1)
theorem LR.starts {Z : List Sz} {ps : List Nat} {s e : Nat} {ls : List Side} (h : LR Z ps s ls e) : (∀ d ∈ ls, s ≤ d.1) ∧ ls.Pairwise fun d d' => d.1 < d'.1 := by
  induction h with
  | nil => exact ⟨fun d hd => by simp at hd, .nil⟩
  | @cons s t e x ls n r ih =>
    have l := n.lt
    refine ⟨fun d hd => ?_, List.pairwise_cons.mpr ⟨fun d hd => ?_, ih.2⟩⟩
    · rcases List.mem_cons.mp hd with rfl | hd
      · exact Nat.le_refl _
      · have := ih.1 d hd; omega
    · have := ih.1 d hd
      show s < d.1
      omega
section
variable {Z : List Sz} {D : Int}
theorem lens_ok (S : Scl Z D) (ho : AllOk Z) (hb : BdZ 100 Z) (hl : Z.length ≤ 1000) (hne : pls Z ≠ []) {ls : List Side} (h : LR Z (pls Z) ((pls Z).head hne) ls ((pls Z).getLast hne)) :
    Dst (lens ls) ∧ (∀ p ∈ lens ls, 0 < p.2) ∧ (∀ x, ¬ Ok x → lk (lens ls) x = 0) ∧ ∀ x a b, Ok x → Low (pls Z) (Gx D Z x) a b → lk (lens ls) x = b - a := by
  have iff := line_iff S ho hb hl hne h
  have D1 : Dst (lens ls) := by
    unfold Dst lens
    rw [List.pairwise_map]
    refine List.Pairwise.imp_of_mem (fun {d d'} hd hd' hlt e => ?_) h.starts.2
    obtain ⟨_, _, L⟩ := (iff d.1 d.2.1 d.2.2).mp hd
    obtain ⟨_, _, L'⟩ := (iff d'.1 d'.2.1 d'.2.2).mp hd'
    have e' : d.2.2 = d'.2.2 := e
    rw [← e'] at L'
    have := (L.uniq L').1
    omega
  refine ⟨D1, fun p hp => ?_, fun x hx => ?_, fun x a b ok L => ?_⟩
  · obtain ⟨d, hd, rfl⟩ := List.mem_map.mp hp
    have := ((iff d.1 d.2.1 d.2.2).mp hd).2.1
    show 0 < d.2.1 - d.1
    omega
  · refine lk_none fun n hn => ?_
    obtain ⟨d, hd, e⟩ := List.mem_map.mp hn
    have e' : d.2.2 = x := congrArg Prod.fst e
    exact hx (e' ▸ ((iff d.1 d.2.1 d.2.2).mp hd).1)
  · by_cases c : a < b
    · exact lk_mem D1 (List.mem_map.mpr ⟨(a, b, x), (iff a b x).mpr ⟨ok, c, L⟩, rfl⟩)
    · have hab : a = b := by have := L.le; omega
      rw [lk_none fun n hn => ?_]
      · omega
      · obtain ⟨d, hd, e⟩ := List.mem_map.mp hn
        have e' : d.2.2 = x := congrArg Prod.fst e
        obtain ⟨_, hlt, L'⟩ := (iff d.1 d.2.1 d.2.2).mp hd
        rw [e'] at L'
        have := L.uniq L'
        omega
end
/-- the sides of the sum are those of both, put together -/
theorem lens_sum {X Y : List Sz} {D : Int} (SX : Scl X D) (SY : Scl Y D) (hx : AllOk X) (hy : AllOk Y) (bX : BdZ 100 X) (bY : BdZ 100 Y) (bZ : BdZ 100 (cvz X Y)) (lx : X.length ≤ 100) (ly : Y.length ≤ 100) (nx : pls X ≠ []) (ny : pls Y ≠ []) (nz : pls (cvz X Y) ≠ []) {l1 l2 l3 : List Side}
    (h1 : LR X (pls X) ((pls X).head nx) l1 ((pls X).getLast nx)) (h2 : LR Y (pls Y) ((pls Y).head ny) l2 ((pls Y).getLast ny)) (h3 : LR (cvz X Y) (pls (cvz X Y)) ((pls (cvz X Y)).head nz) l3 ((pls (cvz X Y)).getLast nz)) :
    (lens l3).Perm (mrgs (lens l1) (lens l2)) := by
  obtain ⟨d1, p1, z1, k1⟩ := lens_ok SX hx bX (by omega) nx h1
  obtain ⟨d2, p2, z2, k2⟩ := lens_ok SY hy bY (by omega) ny h2
  obtain ⟨d3, p3, z3, k3⟩ := lens_ok (cv_scl hx hy SX SY) (cvz_ok hx hy) bZ (by rw [len_cvz]; omega) nz h3
  refine perm_lk d3 (mrgs_dst _ d1) p3 (mrgs_pos _ p2 p1) fun x => ?_
  rw [lk_mrgs _ d2]
  by_cases ok : Ok x
  · obtain ⟨a, b, L⟩ := low_ex (Gx D X x) nx
    obtain ⟨c, d, M⟩ := low_ex (Gx D Y x) ny
    rw [k1 x a b ok L, k2 x c d ok M, k3 x _ _ ok (low_add hx hy SX SY ok L M)]
    have := L.le
    have := M.le
    omega
  · rw [z1 x ok, z2 x ok, z3 x ok]
/-! ### lengths, in the heap -/
def FRow (H : Hp) (es : List FLn) : Prop := ∀ t ∈ es, H t.1 = some (.lst [.ref t.2.1, .int t.2.2.2]) ∧ H t.2.1 = some (.tup [.int t.2.2.1.1, .int t.2.2.1.2])
theorem FRow.same {H H' : Hp} {es : List FLn} (h : FRow H es) (g : Same H H') : FRow H' es := fun t ht => ⟨g _ _ (h t ht).1, g _ _ (h t ht).2⟩
theorem FRow.snoc {H : Hp} {es : List FLn} {t : FLn} (h : FRow H es) (ht : H t.1 = some (.lst [.ref t.2.1, .int t.2.2.2]) ∧ H t.2.1 = some (.tup [.int t.2.2.1.1, .int t.2.2.1.2])) : FRow H (es ++ [t]) := fun x hx => by
  rcases List.mem_append.mp hx with y | y
  · exact h x y
  · have : x = t := by simpa using y
    rw [this]; exact ht
def fdat (es : List FLn) : List ((Int × Int) × Int) := es.map fun t => (t.2.2.1, t.2.2.2)
def lensI (l : List SL) : List ((Int × Int) × Int) := l.map fun p => (p.1, (p.2 : Int))
theorem fdat_snoc (es : List FLn) (t : FLn) : fdat (es ++ [t]) = fdat es ++ [(t.2.2.1, t.2.2.2)] := by simp [fdat]
theorem lensI_snoc (l : List SL) (p : SL) : lensI (l ++ [p]) = lensI l ++ [(p.1, (p.2 : Int))] := by simp [lensI]
theorem flrefs_get {ts : List FLn} {i : Nat} {x : V} (h : (flrefs ts)[i]? = some x) : ∃ hi : i < ts.length, x = .ref ts[i].1 := by
  rw [List.getElem?_map] at h
  cases e : ts[i]? with
  | none => rw [e] at h; cases h
  | some t =>
    rw [e] at h
    obtain ⟨hi, e2⟩ := List.getElem?_eq_some_iff.mp e
    subst e2
    exact ⟨hi, (Option.some.inj h).symm⟩
theorem srefs_get3 {ts : List SdP} {i : Nat} {x : V} (h : (srefs ts)[i]? = some x) : ∃ hi : i < ts.length, x = .ref ts[i].1 := by
  rw [List.getElem?_map] at h
  cases e : ts[i]? with
  | none => rw [e] at h; cases h
  | some t =>
    rw [e] at h
    obtain ⟨hi, e2⟩ := List.getElem?_eq_some_iff.mp e
    subst e2
    exact ⟨hi, (Option.some.inj h).symm⟩
/-- a list that is no row and no fraction of these changes nothing in them -/
theorem FRow.upd {H : Hp} {es : List FLn} (h : FRow H es) {p : Addr} {xs : List V} (hp : H p = some (.lst xs)) (hx : ∀ t ∈ es, t.1 ≠ p) (o : HO) : FRow (L2.upd H p o) es := fun t ht => by
  obtain ⟨e1, e2⟩ := h t ht
  exact ⟨by rw [upd_ne (hx t ht)]; exact e1, by rw [upd_ne (fun z => by rw [z, hp] at e2; cases e2)]; exact e2⟩
def spLengths (K : PySem.W.Frag) : Sp := fun vs H Q _ => ∃ (a : Addr) (ds : List SdP), vs = [.ref a] ∧ H a = some (.lst (srefs ds)) ∧ SdL H ds ∧ ds.length ≤ 1000 ∧ (∀ d ∈ ds, d.2.2.1 ≤ d.2.2.2.1) ∧
  ∀ (p : Addr) (es : List FLn) (H' : Hp), Same H H' → H p = none → H' p = some (.lst (flrefs es)) → FRow H' es → (∀ t ∈ es, t.1 ≠ p) → fdat es = lensI (lens (svals ds)) → es.length = ds.length → Q (.ref p) H'
section
variable {P : Program} {w : World} {K : PySem.W.Frag} {mg : Str → Option Value} {base : Heap}
theorem ok_q_lengths (F : Src K mg "_law_lengths" s_q_lengths ["_law_found"]) : Dfn P w K mg base 1 "_law_lengths" ["_law_found"] (spLengths K) := by
  refine F.ok sc_q_lengths (fun vs H Q E h => ?_) (fun f cdv A outer s' H vs Q E hr h => ?_)
  · obtain ⟨a, ds, rfl, _⟩ := h; rfl
  obtain ⟨a, ds, rfl, ha, hd, ld, hle, q⟩ := h
  refine ⟨_, pss_cons (ps_set (i := 1) sc_q_lengths.nd rfl (Or.inl rfl) (pe_lst pa_nil))
    (pss_cons (ps_for PassesOwn.never rfl (piK_list (K := K) rfl (pv 0)) (pgK_tup (n := 3) (K := K) rfl rfl (pgs_cons (pg_name (i := 2) sc_q_lengths.nd rfl (Or.inl rfl)) (pgs_cons (pg_name (i := 3) sc_q_lengths.nd rfl (Or.inl rfl)) (pgs_cons (pg_name (i := 4) sc_q_lengths.nd rfl (Or.inl rfl)) pgs_nil))))
      (pss_one (ps_expr (pe_bm PySem.F.plainAttrs_list PySem.F.slot_list_append PySem.F.type_list_append mt_append (pv 1) (pa_cons (pe_lst (pa_cons (pv 4) (pa_cons (pe_op op_sub (pv 3) (pv 2)) pa_nil))) pa_nil)))))
    (pss_one (ps_ret (pv 1)))), ?_⟩
  refine ⟨len_ok rfl, fun pt npt => ?_⟩
  have kt := same_new npt (.lst [])
  have lsr : (srefs ds).length = ds.length := List.length_map _
  refine ⟨_, rfl, a, rfl, ⟨_, SqL.of (kt _ _ ha)⟩, for_list (xs := srefs ds) (fun i σ H2 => Same H H2 ∧ ∃ (es : List FLn) (o1 o2 o3 : Option V), σ = [some (.ref a), some (.ref pt), o1, o2, o3] ∧ H2 pt = some (.lst (flrefs es)) ∧ FRow H2 es ∧ (∀ t ∈ es, t.1 ≠ pt) ∧ fdat es = lensI (lens ((svals ds).take i)) ∧ es.length = i)
    ⟨kt, [], _, _, _, rfl, upd_same, fun t ht => by simp at ht, fun t ht => by simp at ht, rfl, rfl⟩ (fun i σ H2 _ h => SqL.of (h.1 _ _ ha)) ?_ ?_⟩
  · rintro i x σ H2 hx ⟨gg, es, o1, o2, o3, rfl, ep, hf, hne, he, le⟩
    obtain ⟨hi, rfl⟩ := srefs_get3 hx
    have hdd := hd ds[i] (List.getElem_mem _)
    have hle' := hle ds[i] (List.getElem_mem _)
    refine ⟨ds[i].1, _, rfl, SqT.of (gg _ _ hdd.1), rfl, _, _, rfl, _, _, rfl, _, _, rfl, rfl, ?_⟩
    refine ⟨_, rfl, .inl ⟨rfl, _, SqL.of ep⟩, _, rfl, _, rfl, _, rfl, _, _, rfl, rfl, len_ok rfl, fun pl npl => ?_⟩
    have kl := same_new npl (.lst [.ref ds[i].2.1, .int ((ds[i].2.2.2.1 : Int) - (ds[i].2.2.1 : Int))])
    have hpl : pl ≠ pt := fun z => by rw [z, ep] at npl; cases npl
    have ep2 := kl _ _ ep
    refine ⟨pt, _, _, rfl, rfl, ep2, by rw [List.length_map, sizeLine_eq]; omega, ?_⟩
    have fr2 : FRow _ (es ++ [(pl, ds[i].2.1, ds[i].2.2.2.2, (ds[i].2.2.2.1 : Int) - (ds[i].2.2.1 : Int))]) := FRow.snoc (hf.same kl) ⟨upd_same, kl _ _ (gg _ _ hdd.2)⟩
    have hne2 : ∀ t ∈ es ++ [((pl, ds[i].2.1, ds[i].2.2.2.2, (ds[i].2.2.2.1 : Int) - (ds[i].2.2.1 : Int)) : FLn)], t.1 ≠ pt := fun t ht => by
      rcases List.mem_append.mp ht with y | y
      · exact hne t y
      · have : t = (pl, ds[i].2.1, ds[i].2.2.2.2, (ds[i].2.2.2.1 : Int) - (ds[i].2.2.1 : Int)) := by simpa using y
        rw [this]; exact hpl
    refine ⟨(gg.trans kl).free_upd npt _, es ++ [(pl, ds[i].2.1, ds[i].2.2.2.2, (ds[i].2.2.2.1 : Int) - (ds[i].2.2.1 : Int))], _, _, _, rfl, ?_, FRow.upd fr2 ep2 hne2 _, hne2, ?_, ?_⟩
    · simp [flrefs, upd_same]
    · rw [fdat_snoc, he, List.take_add_one, List.getElem?_map, List.getElem?_eq_getElem hi]
      have e : lens (((svals ds).take i) ++ (Option.map (fun d : SdP => d.2.2) (some ds[i])).toList) = lens ((svals ds).take i) ++ [(ds[i].2.2.2.2, ds[i].2.2.2.1 - ds[i].2.2.1)] := by simp [lens]
      rw [e, lensI_snoc, Int.ofNat_sub hle']
    · simp [le]
  · rintro σ H2 ⟨gg, es, o1, o2, o3, rfl, ep, hf, hne, he, le⟩
    rw [lsr] at he le
    refine ⟨_, rfl, q pt es H2 gg npt ep hf hne ?_ le⟩
    rw [he]
    have : (svals ds).length = ds.length := List.length_map _
    rw [← this, List.take_length]
end
def spBegin (K : PySem.W.Frag) : Sp := fun vs H Q _ => ∃ (a : Addr) (zs : List TSz), vs = [.ref a] ∧ SqL K H a (tv zs) ∧ SzL H zs ∧ zs.length ≤ 1000 ∧ ∃ hne : pls (tz zs) ≠ [], ∀ H', Same H H' → Q (.int ((pls (tz zs)).head hne : Int)) H'
section
variable {P : Program} {w : World} {K : PySem.W.Frag} {mg : Str → Option Value} {base : Heap}
theorem ok_q_begin (B : Blt mg) (F : Src K mg "_law_begin" s_q_begin ["_law_sizes_here"]) : Dfn P w K mg base 1 "_law_begin" ["_law_sizes_here"] (spBegin K) := by
  refine F.ok sc_q_begin (fun vs H Q E h => ?_) (fun f cdv A outer s' H vs Q E hr h => ?_)
  · obtain ⟨a, zs, rfl, _⟩ := h; rfl
  obtain ⟨a, zs, rfl, ha, hz, lz, hne, q⟩ := h
  refine ⟨_, pss_one (ps_ret (pe_ix (ixK_list (K := K) rfl) (pe_comp (compScope_mk (N := ["_law_k", "_law_sizes_here"]) (sl := [none, some 0]) (defScope s_q_begin) ["_law_sizes_here"] rfl rfl (by decide +kernel)) rfl (pi_range1 rfl B.«range» (pa_cons (pe_callB (callK_len (K := K) rfl) rfl B.«len» bt_len (pa_cons (pv 0) pa_nil)) pa_nil)) (fun _ _ _ _ _ => (pg_name (i := 0) (by show List.Nodup (["_law_k", "_law_sizes_here"] : List Str); decide +kernel) rfl (Or.inl rfl))) (fun _ _ _ _ _ => (pif_one (pt_cmpR op_isnot (pe_ix (ixK_list (K := K) rfl) (pv 1) (pv 0) (fun _ _ => rfl)) pe_non (nomark _)))) (fun _ _ _ _ _ => (pv 0))) pe_int (fun _ _ => rfl))), ?_⟩
  have ltv : (tv zs).length = zs.length := List.length_map _
  refine ⟨_, rfl, a, _, rfl, .inl ha, ?_⟩
  rw [ltv]
  refine ⟨_, rfl, by omega, by omega, fun D hD => ?_⟩
  rw [Int.toNat_natCast]
  refine comp_range (fun i ys H2 => Same H H2 ∧ ys = nv ((List.range i).filter fun k => (gz (tz zs) k).isSome)) ⟨same_new hD _, rfl⟩ ?_ ?_
  · rintro i m ys H2 hm hi hy hlen ⟨gg, rfl⟩
    have e : nv ((List.range (i + 1)).filter fun k => (gz (tz zs) k).isSome) = if (gz (tz zs) i).isSome = true then nv ((List.range i).filter fun k => (gz (tz zs) k).isSome) ++ [.int (i : Int)] else nv ((List.range i).filter fun k => (gz (tz zs) k).isSome) := by
      rw [List.range_succ, List.filter_append]
      by_cases c : (gz (tz zs) i).isSome = true <;> simp [c]
    rw [tz_get hi] at e
    have ei : (0 : Int) + (i : Int) = (i : Int) := by omega
    have ak := atI_tv hi
    have sz := (hz zs[i] (List.getElem_mem _)).same gg
    rw [ei]
    generalize zs[i].1 = v at sz ak
    generalize zs[i].2 = z at sz e
    refine ⟨_, rfl, _, rfl, a, _, _, _, rfl, rfl, gg.seq ha, ak, rfl, _, rfl, ?_⟩
    cases sz with
    | non => exact iteF (CW.skip hm hi hy hlen ⟨gg, e.symm⟩)
    | @fr ru u eu =>
      refine iteT ⟨_, rfl, ?_⟩
      exact CW.emit hm hi (by rw [sizeLine_eq]; omega) hy hlen ⟨Same.free_upd gg hD _, e.symm⟩
  · rintro ys H2 hy ⟨gg, rfl⟩
    have epl : ((List.range zs.length).filter fun k => (gz (tz zs) k).isSome) = pls (tz zs) := by unfold pls; rw [List.length_map]
    rw [epl] at hy
    have hpos : 0 < (pls (tz zs)).length := List.length_pos_iff.mpr hne
    have a0 : atI (nv (pls (tz zs))) 0 = some (.int ((pls (tz zs)).head hne : Int)) := by
      rw [atI_get_nat (by decide) (by rw [nv_len]; exact hpos)]
      simp [List.head_eq_getElem]
    exact ⟨D, _, _, _, rfl, rfl, SqL.of hy, a0, q H2 gg⟩
end
/-! ### two lists of lengths put to one -/
theorem mrg_new (p : SL) : ∀ {l : List SL}, (∀ q ∈ l, q.1 ≠ p.1) → mrg l p = l ++ [p]
  | [], _ => rfl
  | q :: r, h => by
    unfold mrg
    rw [if_neg (h q List.mem_cons_self), mrg_new p fun q hq => h q (List.mem_cons_of_mem _ hq)]
    rfl
def bmp (x : Int × Int) (n : Nat) (q : SL) : SL := if q.1 = x then (q.1, q.2 + n) else q
theorem bmp_none {x : Int × Int} {n : Nat} {l : List SL} (h : ∀ q ∈ l, q.1 ≠ x) : l.map (bmp x n) = l := by
  refine (List.map_congr_left fun q hq => ?_).trans (List.map_id l)
  exact if_neg (h q hq)
theorem mrg_old (p : SL) : ∀ {l : List SL}, Dst l → (∃ q ∈ l, q.1 = p.1) → mrg l p = l.map (bmp p.1 p.2)
  | [], _, ⟨q, hq, _⟩ => by simp at hq
  | q0 :: r, d, ⟨q, hq, e⟩ => by
    obtain ⟨d1, d2⟩ := List.pairwise_cons.mp d
    unfold mrg
    rw [List.map_cons]
    by_cases c : q0.1 = p.1
    · rw [if_pos c, bmp_none fun q hq => fun z => d1 q hq (c.trans z.symm)]
      unfold bmp
      rw [if_pos c]
    · rw [if_neg c]
      rcases List.mem_cons.mp hq with z | z
      · rw [z] at e; exact absurd e c
      · rw [mrg_old p d2 ⟨q, z, e⟩]
        unfold bmp
        rw [if_neg c]
def bmpF (x : Int × Int) (n : Int) (t : FLn) : FLn := if t.2.2.1 = x then (t.1, t.2.1, t.2.2.1, t.2.2.2 + n) else t
theorem bmpF_ref (x : Int × Int) (n : Int) (t : FLn) : (bmpF x n t).1 = t.1 := by unfold bmpF; split <;> rfl
theorem flrefs_bmp (x : Int × Int) (n : Int) (es : List FLn) : flrefs (es.map (bmpF x n)) = flrefs es := by
  unfold flrefs
  rw [List.map_map]
  exact List.map_congr_left fun t _ => by show V.ref (bmpF x n t).1 = V.ref t.1; rw [bmpF_ref]
theorem fdat_bmp {x : Int × Int} {n : Nat} {es : List FLn} {M : List SL} (h : fdat es = lensI M) : fdat (es.map (bmpF x n)) = lensI (M.map (bmp x n)) := by
  have e1 : fdat (es.map (bmpF x n)) = (fdat es).map fun p => if p.1 = x then (p.1, p.2 + (n : Int)) else p := by
    unfold fdat
    rw [List.map_map, List.map_map]
    refine List.map_congr_left fun t _ => ?_
    show ((bmpF x n t).2.2.1, (bmpF x n t).2.2.2) = if t.2.2.1 = x then (t.2.2.1, t.2.2.2 + (n : Int)) else (t.2.2.1, t.2.2.2)
    unfold bmpF
    by_cases c : t.2.2.1 = x
    · rw [if_pos c, if_pos c]
    · rw [if_neg c, if_neg c]
  have e2 : lensI (M.map (bmp x n)) = (lensI M).map fun p => if p.1 = x then (p.1, p.2 + (n : Int)) else p := by
    unfold lensI
    rw [List.map_map, List.map_map]
    refine List.map_congr_left fun q _ => ?_
    show ((bmp x n q).1, ((bmp x n q).2 : Int)) = if q.1 = x then (q.1, (q.2 : Int) + (n : Int)) else (q.1, (q.2 : Int))
    unfold bmp
    by_cases c : q.1 = x
    · rw [if_pos c, if_pos c]; simp
    · rw [if_neg c, if_neg c]
  rw [e1, e2, h]
theorem fdat_keys {es : List FLn} {M : List SL} (h : fdat es = lensI M) : es.map (fun t => t.2.2.1) = M.map Prod.fst := by
  have := congrArg (List.map Prod.fst) h
  unfold fdat lensI at this
  rw [List.map_map, List.map_map] at this
  exact this
theorem fdat_dst {es : List FLn} {M : List SL} (h : fdat es = lensI M) (d : Dst M) : es.Pairwise fun a b => a.2.2.1 ≠ b.2.2.1 := by
  have d2 : (M.map Prod.fst).Pairwise (· ≠ ·) := List.pairwise_map.mpr d
  rw [← fdat_keys h] at d2
  exact List.pairwise_map.mp d2
theorem pw_eq {α β : Type} {f : α → β} : ∀ {l : List α}, l.Pairwise (fun a b => f a ≠ f b) → ∀ {a b : α}, a ∈ l → b ∈ l → f a = f b → a = b
  | q :: r, d, a, b, ha, hb, e => by
    obtain ⟨d1, d2⟩ := List.pairwise_cons.mp d
    rcases List.mem_cons.mp ha with z | z
    · rcases List.mem_cons.mp hb with y | y
      · rw [z, y]
      · rw [z] at e; exact absurd e (d1 b y)
    · rcases List.mem_cons.mp hb with y | y
      · rw [y] at e; exact absurd e.symm (d1 a z)
      · exact pw_eq d2 z y e
theorem filt_one {α β : Type} [DecidableEq β] {f : α → β} {x : β} : ∀ {l : List α}, l.Pairwise (fun a b => f a ≠ f b) → (l.filter (fun a => decide (f a = x)) = [] ∧ ∀ a ∈ l, f a ≠ x) ∨ ∃ a ∈ l, f a = x ∧ l.filter (fun a => decide (f a = x)) = [a]
  | [], _ => .inl ⟨rfl, fun a ha => by simp at ha⟩
  | q :: r, d => by
    obtain ⟨d1, d2⟩ := List.pairwise_cons.mp d
    by_cases c : f q = x
    · refine .inr ⟨q, List.mem_cons_self, c, ?_⟩
      rw [List.filter_cons_of_pos (by simpa using c)]
      rw [List.filter_eq_nil_iff.mpr fun a ha => by simpa using fun z => d1 a ha (c.trans z.symm)]
    · rw [List.filter_cons_of_neg (by simpa using c)]
      rcases filt_one (x := x) d2 with ⟨e, h⟩ | ⟨a, ha, e, h⟩
      · exact .inl ⟨e, fun a ha => by
          rcases List.mem_cons.mp ha with rfl | ha
          · exact c
          · exact h a ha⟩
      · exact .inr ⟨a, List.mem_cons_of_mem _ ha, e, h⟩

def spMerged (K : PySem.W.Frag) : Sp := fun vs H Q _ => ∃ (a b : Addr) (es fs : List FLn) (A C : List SL), vs = [.ref a, .ref b] ∧ H a = some (.lst (flrefs es)) ∧ H b = some (.lst (flrefs fs)) ∧ FRow H es ∧ FRow H fs ∧ es.length ≤ 100 ∧ fs.length ≤ 100 ∧ fdat es = lensI A ∧ fdat fs = lensI C ∧ Dst A ∧
  ∀ (p : Addr) (ts : List FLn) (H' : Hp), Same H H' → H p = none → H' p = some (.lst (flrefs ts)) → FRow H' ts → fdat ts = lensI (mrgs A C) → Q (.ref p) H'
theorem mrgs_snoc (l ps : List SL) (p : SL) : mrgs l (ps ++ [p]) = mrg (mrgs l ps) p := by unfold mrgs; rw [List.foldl_append]; rfl
theorem mrg_len (p : SL) : ∀ l : List SL, (mrg l p).length ≤ l.length + 1
  | [] => Nat.le_refl _
  | q :: r => by
    unfold mrg
    split
    · simp
    · have := mrg_len p r; simp; omega
theorem den_row {K : PySem.W.Frag} {H : Hp} {t : FLn} (h : H t.1 = some (.lst [.ref t.2.1, .int t.2.2.2]) ∧ H t.2.1 = some (.tup [.int t.2.2.1.1, .int t.2.2.1.2])) : Den K H (.ref t.1) (.list [dO (some t.2.2.1), .int t.2.2.2]) := by
  refine .lst (SqL.of h.1) rfl fun i v w h1 h2 => ?_
  match i with
  | 0 => cases h1; cases h2; exact den_tup (SqT.of h.2) rfl
  | 1 => cases h1; cases h2; exact .int _
  | i + 2 => simp at h1
def dF (p : (Int × Int) × Int) : PyData := .list [dO (some p.1), .int p.2]
theorem den_rows {K : PySem.W.Frag} {H : Hp} {a : Addr} {es : List FLn} (ha : SqL K H a (flrefs es)) (h : FRow H es) : Den K H (.ref a) (.list ((fdat es).map dF)) := by
  refine .lst ha (by simp [fdat]) fun i x d h1 h2 => ?_
  obtain ⟨hi, rfl⟩ := flrefs_get h1
  unfold fdat at h2
  rw [List.getElem?_map, List.getElem?_map, List.getElem?_eq_getElem hi] at h2
  cases h2
  exact den_row (h es[i] (List.getElem_mem _))
theorem fl_dF (p : (Int × Int) × Int) : Fl 2 (dF p) := .lst fun d hd => by
  simp only [List.mem_cons, List.not_mem_nil, or_false] at hd
  rcases hd with rfl | rfl
  · exact fl_dO _
  · exact .int _
theorem fl_rows (l : List ((Int × Int) × Int)) : Fl 3 (.list (l.map dF)) := .lst fun d hd => by
  obtain ⟨i, _, rfl⟩ := List.mem_map.mp hd
  exact fl_dF i
section
variable {P : Program} {w : World} {K : PySem.W.Frag} {mg : Str → Option Value} {base : Heap}
theorem ok_q_merged (B : Blt mg) (F : Src K mg "_law_merged" s_q_merged ["_law_one", "_law_other"]) : Dfn P w K mg base 1 "_law_merged" ["_law_one", "_law_other"] (spMerged K) := by
  refine F.ok sc_q_merged (fun vs H Q E h => ?_) (fun f cdv A outer s' H vs Q E hr h => ?_)
  · obtain ⟨a, b, es, fs, A, C, rfl, _⟩ := h; rfl
  obtain ⟨a, b, es, fs, A, C, rfl, ha, hb, he, hf, le, lf, dA, dC, dst, q⟩ := h
  refine ⟨_, pss_cons (ps_setC (i := 2) sc_q_merged.nd rfl (Or.inl rfl) (compScope_mk (N := ["_law_pair"]) (sl := [none]) (defScope s_q_merged) ["_law_one", "_law_other", "_law_found", "_law_slope", "_law_size", "_law_some"] rfl rfl (by decide +kernel)) rfl (piK_list (K := K) rfl (pv 0)) (fun _ _ _ _ _ => (pg_name (i := 0) (by show List.Nodup (["_law_pair"] : List Str); decide +kernel) rfl (Or.inl rfl))) (fun _ _ _ _ _ => pif_none) (fun _ _ _ _ _ => (pe_callTy (callK_list (K := K) rfl) rfl B.«list» bt_list (pa_cons (pv 0) pa_nil))))
    (pss_cons (ps_for PassesOwn.never rfl (piK_list (K := K) rfl (pv 1)) (pgK_lst (n := 2) (K := K) rfl rfl (pgs_cons (pg_name (i := 3) sc_q_merged.nd rfl (Or.inr rfl)) (pgs_cons (pg_name (i := 4) sc_q_merged.nd rfl (Or.inl rfl)) pgs_nil)))
      (pss_cons (ps_setC (i := 5) sc_q_merged.nd rfl (Or.inl rfl) (compScope_mk (N := ["_law_pair", "_law_slope"]) (sl := [none, some 3]) (defScope s_q_merged) ["_law_one", "_law_other", "_law_found", "_law_slope", "_law_size", "_law_some"] rfl rfl (by decide +kernel)) rfl (piK_list (K := K) rfl (pv 2)) (fun _ _ _ _ _ => (pg_name (i := 0) (by show List.Nodup (["_law_pair", "_law_slope"] : List Str); decide +kernel) rfl (Or.inl rfl))) (fun _ _ _ _ _ => (pif_one (pt_cmpR (opK_eqD (K := K) rfl hr.units) (pe_ix (ixK_list (K := K) rfl) (pv 0) pe_int (fun _ _ => rfl)) (pv 1) (nomark _)))) (fun _ _ _ _ _ => (pv 0)))
      (pss_one (ps_if (pt_cmpR (opK_eqD (K := K) rfl hr.units) (pv 5) (pe_lst pa_nil) (nomark _))
        (pss_one (ps_expr (pe_bm PySem.F.plainAttrs_list PySem.F.slot_list_append PySem.F.type_list_append mt_append (pv 2) (pa_cons (pe_lst (pa_cons (pv 3) (pa_cons (pv 4) pa_nil))) pa_nil))))
        (pss_one (ps_augS (pe_ix (ixK_list (K := K) rfl) (pv 5) pe_int (fun _ _ => rfl)) pe_int (getK_list (K := K) rfl) (pv 4) ip_add set_list))))))
    (pss_one (ps_ret (pv 2)))), ?_⟩
  have lse : (flrefs es).length = es.length := List.length_map _
  have lsf : (flrefs fs).length = fs.length := List.length_map _
  refine ⟨_, rfl, a, rfl, ⟨_, SqL.of ha⟩, fun D hD => comp_list (xs := flrefs es) (fun i ys H2 => Same H H2 ∧ ∃ ts : List FLn, ys = flrefs ts ∧ FRow H2 ts ∧ (∀ t ∈ ts, H t.1 = none ∧ t.1 ≠ D) ∧ fdat ts = (fdat es).take i) ⟨same_new hD _, [], rfl, fun t ht => by simp at ht, fun t ht => by simp at ht, rfl⟩ (fun i ys H2 _ h => SqL.of (h.1 _ _ ha)) (fun i m x ys H2 hm hi hx hy hlen h => ?_) (fun ys H2 hy h => ?_)⟩
  · obtain ⟨gg, ts, rfl, ht, hn, hd⟩ := h
    obtain ⟨hi', rfl⟩ := flrefs_get hx
    obtain ⟨e1, e2⟩ := (he.same gg) es[i] (List.getElem_mem _)
    refine ⟨_, rfl, es[i].1, _, rfl, .inl (SqL.of e1), fun l nl => ?_⟩
    have kl := same_new nl (.lst [.ref es[i].2.1, .int es[i].2.2.2])
    have hlD : l ≠ D := fun z => by rw [z, hy] at nl; cases nl
    have hy2 := kl _ _ hy
    have hn2 : ∀ t ∈ ts ++ [((l, es[i].2) : FLn)], H t.1 = none ∧ t.1 ≠ D := fun t m => by
      rcases List.mem_append.mp m with y | y
      · exact hn t y
      · have : t = (l, es[i].2) := by simpa using y
        rw [this]; exact ⟨gg.free nl, hlD⟩
    refine CW.emit hm hi (by rw [lse, sizeLine_eq]; omega) hy2 hlen ⟨Same.free_upd (gg.trans kl) hD _, ts ++ [(l, es[i].2)], by simp [flrefs], ?_, hn2, ?_⟩
    · exact FRow.upd (FRow.snoc (t := (l, es[i].2)) (ht.same kl) ⟨upd_same, kl _ _ e2⟩) hy2 (fun t m => (hn2 t m).2) _
    · rw [fdat_snoc, hd, List.take_add_one]
      unfold fdat
      rw [List.getElem?_map, List.getElem?_eq_getElem hi']
      rfl
  · obtain ⟨gg, ts, rfl, ht, hn, hd⟩ := h
    rw [lse, show es.length = (fdat es).length by simp [fdat], List.take_length, dA] at hd
    refine ⟨_, rfl, b, rfl, ⟨_, SqL.of (gg _ _ hb)⟩, for_list (xs := flrefs fs) (fun i σ H3 => Same H H3 ∧ ∃ (ts : List FLn) (o1 o2 o3 : Option V), σ = [some (.ref a), some (.ref b), some (.ref D), o1, o2, o3] ∧ H3 D = some (.lst (flrefs ts)) ∧ FRow H3 ts ∧ (∀ t ∈ ts, H t.1 = none ∧ t.1 ≠ D) ∧ fdat ts = lensI (mrgs A (C.take i)) ∧ ts.length ≤ 100 + i)
      ⟨gg, ts, _, _, _, rfl, hy, ht, hn, hd, ?_⟩ (fun i σ H2 _ h => SqL.of (h.1 _ _ hb)) ?_ ?_⟩
    · have := congrArg List.length hd
      rw [← dA] at this
      unfold fdat at this
      simp only [List.length_map] at this
      omega
    · rintro i x σ H3 hx ⟨g3, ts, o1, o2, o3, rfl, eD, ht, hn, hd, lt⟩
      obtain ⟨hi, rfl⟩ := flrefs_get hx
      obtain ⟨f1, f2⟩ := (hf.same g3) fs[i] (List.getElem_mem _)
      have hiC : i < C.length := by
        have := congrArg List.length dC
        unfold fdat lensI at this
        simp only [List.length_map] at this
        omega
      have hci : (fs[i].2.2.1, fs[i].2.2.2) = (C[i].1, (C[i].2 : Int)) := by
        have := congrArg (fun l => l[i]?) dC
        unfold fdat lensI at this
        simp only [List.getElem?_map, List.getElem?_eq_getElem hi, List.getElem?_eq_getElem hiC, Option.map_some] at this
        exact Option.some.inj this
      have hc1 : fs[i].2.2.1 = C[i].1 := congrArg Prod.fst hci
      have hc2 : fs[i].2.2.2 = (C[i].2 : Int) := congrArg Prod.snd hci
      have tk : C.take (i + 1) = C.take i ++ [C[i]] := by rw [List.take_add_one, List.getElem?_eq_getElem hiC]; rfl
      have dM : Dst (mrgs A (C.take i)) := mrgs_dst _ dst
      have ltn : (flrefs ts).length = ts.length := List.length_map _
      refine ⟨fs[i].1, _, rfl, SqL.of f1, rfl, _, _, rfl, _, _, rfl, rfl, ?_⟩
      generalize hxs : fs[i].2.2.1 = xx at f1 f2 hc1
      generalize fs[i].2.2.2 = nn at f1 f2 hc2 ⊢
      generalize fs[i].2.1 = rr at f1 f2 ⊢
      refine ⟨_, rfl, D, rfl, ⟨_, SqL.of eD⟩, fun D2 hD2 => comp_list (xs := flrefs ts) (fun j ys H4 => Same H3 H4 ∧ ys = flrefs ((ts.take j).filter fun t => decide (t.2.2.1 = xx))) ⟨same_new hD2 _, rfl⟩ (fun j ys H4 _ h => SqL.of (h.1 _ _ eD)) (fun j m x ys H4 hm hj hx' hy' hlen h => ?_) (fun ys H4 hy' h => ?_)⟩
      · obtain ⟨g4, rfl⟩ := h
        obtain ⟨hj', rfl⟩ := flrefs_get hx'
        obtain ⟨r1, r2⟩ := (ht.same g4) ts[j] (List.getElem_mem _)
        have et : (ts.take (j + 1)).filter (fun t => decide (t.2.2.1 = xx)) = (ts.take j).filter (fun t => decide (t.2.2.1 = xx)) ++ (if decide (ts[j].2.2.1 = xx) = true then [ts[j]] else []) := by
          rw [List.take_add_one, List.getElem?_eq_getElem hj', List.filter_append]
          by_cases c : ts[j].2.2.1 = xx <;> simp [c]
        refine ⟨_, rfl, ts[j].1, _, _, _, rfl, rfl, SqL.of r1, rfl, _, rfl, eqFr (SqT.of r2) (SqT.of (g4 _ _ f2)) ⟨_, rfl, ite2 (fun c => ?_) (fun c => ?_)⟩⟩
        · refine ⟨_, rfl, ?_⟩
          refine CW.emit hm hj (by rw [ltn, sizeLine_eq]; omega) hy' hlen ⟨Same.free_upd g4 hD2 _, ?_⟩
          rw [et, if_pos c]
          simp [flrefs]
        · refine CW.skip hm hj hy' hlen ⟨g4, ?_⟩
          rw [et, if_neg c, List.append_nil]
      · obtain ⟨g4, rfl⟩ := h
        rw [ltn, List.take_length] at hy'
        have g34 := g3.trans g4
        have eD4 := g4 _ _ eD
        have ht4 := ht.same g4
        have f24 := g4 _ _ f2
        have nD : H D = none := hD
        rcases filt_one (x := xx) (fdat_dst hd dM) with ⟨e0, hno⟩ | ⟨t, mt, etx, e0⟩
        · rw [e0] at hy'
          refine ⟨_, rfl, len_ok rfl, fun pe npe => ?_⟩
          have ke := same_new npe (.lst [])
          refine eqSame (n := 3) (d := .list ([].map dF)) (den_rows (es := []) (SqL.of (ke _ _ hy')) (fun t ht => by simp at ht)) (den_rows (es := []) (SqL.of upd_same) (fun t ht => by simp at ht)) (fl_rows []) (by decide) ⟨_, rfl, iteT ?_⟩
          have eD5 := ke _ _ eD4
          refine ⟨_, rfl, .inl ⟨rfl, _, SqL.of eD5⟩, _, rfl, _, rfl, len_ok rfl, fun pl npl => ?_⟩
          have kl := same_new npl (.lst [.ref rr, .int nn])
          have hpl : pl ≠ D := fun z => by rw [z, eD5] at npl; cases npl
          have eD6 := kl _ _ eD5
          have g5 := ke.trans kl
          have fr2 : FRow _ (ts ++ [((pl, rr, xx, nn) : FLn)]) := FRow.snoc (ht4.same g5) ⟨upd_same, g5 _ _ f24⟩
          have hn2 : ∀ t ∈ ts ++ [((pl, rr, xx, nn) : FLn)], H t.1 = none ∧ t.1 ≠ D := fun t m => by
            rcases List.mem_append.mp m with y | y
            · exact hn t y
            · have : t = (pl, rr, xx, nn) := by simpa using y
              rw [this]; exact ⟨(g34.trans ke).free npl, hpl⟩
          refine ⟨D, _, _, rfl, rfl, eD6, by rw [List.length_map, sizeLine_eq]; omega, ?_⟩
          refine ⟨(g34.trans g5).free_upd nD _, ts ++ [(pl, rr, xx, nn)], _, _, _, rfl, ?_, FRow.upd fr2 eD6 (fun t m => (hn2 t m).2) _, hn2, ?_, ?_⟩
          · simp [flrefs, upd_same]
          · rw [tk, mrgs_snoc, mrg_new, fdat_snoc, hd, lensI_snoc, hc1, hc2]
            intro q hq z
            have hk := fdat_keys hd
            have : q.1 ∈ ts.map (fun t => t.2.2.1) := by rw [hk]; exact List.mem_map_of_mem hq
            obtain ⟨t, mt, e⟩ := List.mem_map.mp this
            exact hno t mt (by rw [e, z, hc1])
          · simp; omega
        · rw [e0] at hy'
          obtain ⟨r1, r2⟩ := ht4 t mt
          refine ⟨_, rfl, len_ok rfl, fun pe npe => ?_⟩
          have ke := same_new npe (.lst [])
          have ky := ke _ _ hy'
          have kr1 := ke _ _ r1
          have kr2 := ke _ _ r2
          refine ⟨.list ((fdat [t]).map dF), .list ([].map dF), den_rows (es := [t]) (SqL.of ky) (fun t' ht' => by rw [List.mem_singleton.mp ht']; exact ⟨kr1, kr2⟩), den_rows (es := []) (SqL.of upd_same) (fun t ht => by simp at ht), (fl_rows _).shaped (by decide), (fl_rows []).shaped (by decide), ?_⟩
          refine ⟨_, rfl, iteF ?_⟩
          have eD5 := ke _ _ eD4
          have ht5 := ht4.same ke
          refine ⟨_, rfl, D2, _, _, _, rfl, rfl, SqL.of ky, rfl, t.1, _, 1, _, rfl, rfl, SqL.of kr1, by decide, rfl, _, rfl, _, _, rfl, rfl, t.1, _, 1, 1, rfl, rfl, kr1, rfl, ?_⟩
          have nt := hn t mt
          have hne : ∀ t' ∈ ts, t'.2.2.1 ≠ xx → t'.1 ≠ t.1 := fun t' m' hx' z => by
            obtain ⟨u1, u2⟩ := ht5 t' m'
            rw [z, kr1] at u1
            simp only [Option.some.injEq, HO.lst.injEq, List.cons.injEq, V.ref.injEq, V.int.injEq, and_true] at u1
            rw [← u1.1, kr2] at u2
            simp only [Option.some.injEq, HO.tup.injEq, List.cons.injEq, V.int.injEq, and_true] at u2
            exact hx' (by rw [← etx]; exact (Prod.ext u2.1 u2.2).symm)
          have fr2 : FRow (L2.upd (L2.upd H4 pe (.lst [])) t.1 (.lst [.ref t.2.1, .int (t.2.2.2 + nn)])) (ts.map (bmpF xx nn)) := fun t2 m2 => by
            obtain ⟨t', m', rfl⟩ := List.mem_map.mp m2
            obtain ⟨u1, u2⟩ := ht5 t' m'
            by_cases c : t'.2.2.1 = xx
            · have e : t' = t := pw_eq (fdat_dst hd dM) m' mt (c.trans etx.symm)
              subst e
              have eb : bmpF xx nn t' = (t'.1, t'.2.1, t'.2.2.1, t'.2.2.2 + nn) := if_pos c
              rw [eb]
              exact ⟨upd_same, by rw [upd_ne (fun z => by rw [z, kr1] at u2; cases u2)]; exact u2⟩
            · have eb : bmpF xx nn t' = t' := if_neg c
              rw [eb]
              exact ⟨by rw [upd_ne (hne t' m' c)]; exact u1, by rw [upd_ne (fun z => by rw [z, kr1] at u2; cases u2)]; exact u2⟩
          refine ⟨(g34.trans ke).free_upd nt.1 _, ts.map (bmpF xx nn), _, _, _, rfl, ?_, fr2, ?_, ?_, ?_⟩
          · rw [flrefs_bmp, upd_ne (fun z => nt.2 z.symm)]; exact eD5
          · intro t2 m2
            obtain ⟨t', m', rfl⟩ := List.mem_map.mp m2
            rw [bmpF_ref]; exact hn t' m'
          · rw [tk, mrgs_snoc, mrg_old _ dM, hc2, fdat_bmp hd, hc1]
            have hk := fdat_keys hd
            have : t.2.2.1 ∈ (mrgs A (C.take i)).map Prod.fst := by rw [← hk]; exact List.mem_map_of_mem mt
            obtain ⟨q, mq, e⟩ := List.mem_map.mp this
            exact ⟨q, mq, by rw [e, etx, hc1]⟩
          · simp; omega
    · rintro σ H3 ⟨g3, ts, o1, o2, o3, rfl, eD, ht, hn, hd, lt⟩
      refine ⟨_, rfl, q D ts H3 g3 hD eD ht ?_⟩
      have hlC : fs.length = C.length := by
        have := congrArg List.length dC
        unfold fdat lensI at this
        simpa using this
      rw [hd, lsf, hlC, List.take_length]
end
theorem BdZ.mono {m n : Nat} {zs : List Sz} (h : BdZ m zs) (l : m ≤ n) : BdZ n zs := fun x hx => ⟨(h x hx).1.mono l, (h x hx).2.mono l⟩
theorem But.keep {b : Addr} {H0 H H' : Hp} (h : But b H H') (g : Same H0 H) (hb : H0 b = none) : Same H0 H' := fun a o e => h a o (fun z => by rw [z, hb] at e; cases e) (g a o e)
theorem cvz_bd {X Y : List Sz} {n : Nat} (hx : AllOk X) (hy : AllOk Y) (bX : BdZ n X) (bY : BdZ n Y) : BdZ (n + n + 1) (cvz X Y) := fun x h => by
  obtain ⟨k, hk, e⟩ := List.mem_map.mp h
  exact (bst_bd hx hy bX bY e).2
theorem lr_of {Z : List Sz} {hne : pls Z ≠ []} {ds : List SdP} (hL : Line Z (pls Z) ((pls Z).head hne) (svals ds)) (hend : stt ((pls Z).head hne) (svals ds) ds.length = (pls Z).getLast hne) : LR Z (pls Z) ((pls Z).head hne) (svals ds) ((pls Z).getLast hne) := by
  have := hL.lr
  rw [List.length_map, hend] at this
  exact this
theorem LR.rng {Z : List Sz} {ps : List Nat} {s e : Nat} {ls : List Side} (h : LR Z ps s ls e) : ∀ d ∈ ls, d.1 ∈ ps ∧ d.1 < d.2.1 := by
  induction h with
  | nil => intro d hd; simp at hd
  | cons n r ih =>
    intro d hd
    rcases List.mem_cons.mp hd with rfl | hd
    · exact ⟨n.hs, n.lt⟩
    · exact ih d hd
theorem LR.len {Z : List Sz} {s e : Nat} {ls : List Side} (h : LR Z (pls Z) s ls e) : ls.length ≤ Z.length := by
  have := pigeon Z.length (ls.map fun d => d.1) (by
    rw [List.nodup_iff_pairwise_ne, List.pairwise_map]
    exact List.Pairwise.imp (fun h => Nat.ne_of_lt h) h.starts.2) (fun x hx => by
    obtain ⟨d, hd, rfl⟩ := List.mem_map.mp hx
    obtain ⟨u, e⟩ := pls_mem.mp (h.rng d hd).1
    exact (gz_mem e).1)
  rwa [List.length_map] at this
theorem FRow.row {K : PySem.W.Frag} {H : Hp} {es : List FLn} (h : FRow H es) : LRow K H es := fun t ht => ⟨SqL.of (h t ht).1, SqT.of (h t ht).2⟩
theorem fdat_perm {es fs : List FLn} (h : es.Perm fs) : (fdat es).Perm (fdat fs) := h.map _
theorem lensI_perm {a b : List SL} (h : a.Perm b) : (lensI a).Perm (lensI b) := h.map _
theorem fdat_srt {es : List FLn} (h : es.Pairwise (fun a b => lxl a.2.2.1 b.2.2.1 = true)) : (fdat es).Pairwise (fun a b => lxl a.1 b.1 = true) := List.pairwise_map.mpr h
def spLaw (K : PySem.W.Frag) : Sp := fun vs H Q _ => ∃ (a : Addr) (ns : List Int), vs = [.ref a] ∧ SqL K H a (ns.map V.int) ∧ ns.length ≤ 63 ∧ ∀ H', Q (.bl true) H'
section
variable {P : Program} {w : World} {K : PySem.W.Frag} {mg : Str → Option Value} {base : Heap}
theorem ok_law (B : Blt mg) (d_q_bag : Dfn P w K mg base 1 "_law_bag" ["_law_script", "_law_at"] (spBag K)) (d_q_sizes : Dfn P w K mg base 2 "_law_sizes" ["_law_bag_here", "_law_most"] (spSizes K))
    (d_joined : Dfn P w K mg base 4 "joined" ["one", "other"] (spCv K)) (d_sides : Dfn P w K mg base 6 "sides" ["sizes"] (spSides K)) (d_q_lengths : Dfn P w K mg base 1 "_law_lengths" ["_law_found"] (spLengths K)) (d_q_merged : Dfn P w K mg base 1 "_law_merged" ["_law_one", "_law_other"] (spMerged K))
    (d_q_begin : Dfn P w K mg base 1 "_law_begin" ["_law_sizes_here"] (spBegin K))
    {f : Addr} {fd : FuncData} (F : Fun K "law" "law" s_law f fd) : FnOk P w K mg base CX0 7 f fd ["_law_script"] (spLaw K) := by
  refine F.ok sc_law (fun vs H Q E h => ?_) (fun cdv A outer s H vs Q E hr h => ?_)
  · obtain ⟨a, ns, rfl, _⟩ := h; rfl
  obtain ⟨a, ns, rfl, hS, hlen, q⟩ := h
  refine ⟨_, pss_cons (ps_for PassesOwn.never rfl (pi_rangeS rfl B.«range» (pa_cons pe_int (pa_cons (pe_callB (call_max2 rfl) rfl B.«max» bt_max (pa_cons pe_int (pa_cons (pe_callB (call_min2 rfl) rfl B.«min» bt_min (pa_cons pe_int (pa_cons (pe_callB (callK_len (K := K) rfl) rfl B.«len» bt_len (pa_cons (pv 0) pa_nil)) pa_nil))) pa_nil))) (pa_cons pe_int pa_nil)))) (pg_name (i := 1) sc_law.nd rfl (Or.inl rfl))
      (pss_cons (ps_set (i := 2) sc_law.nd rfl (Or.inl rfl) (pe_def d_q_bag hr (pa_cons (pv 0) (pa_cons (pv 1) pa_nil))))
      (pss_cons (ps_set (i := 3) sc_law.nd rfl (Or.inl rfl) (pe_def d_q_sizes hr (pa_cons (pv 2) (pa_cons pe_int pa_nil))))
      (pss_cons (ps_set (i := 4) sc_law.nd rfl (Or.inl rfl) (pe_def d_q_sizes hr (pa_cons (pe_def d_q_bag hr (pa_cons (pv 0) (pa_cons (pe_op op_add (pv 1) pe_int) pa_nil))) (pa_cons pe_int pa_nil))))
      (pss_cons (ps_set (i := 5) sc_law.nd rfl (Or.inl rfl) (pe_def d_joined hr (pa_cons (pv 3) (pa_cons (pv 4) pa_nil))))
      (pss_cons (ps_set (i := 6) sc_law.nd rfl (Or.inl rfl) (pe_def d_q_merged hr (pa_cons (pe_def d_q_lengths hr (pa_cons (pe_def d_sides hr (pa_cons (pv 3) pa_nil)) pa_nil)) (pa_cons (pe_def d_q_lengths hr (pa_cons (pe_def d_sides hr (pa_cons (pv 4) pa_nil)) pa_nil)) pa_nil))))
      (pss_cons (ps_set (i := 7) sc_law.nd rfl (Or.inl rfl) (pe_def d_q_lengths hr (pa_cons (pe_def d_sides hr (pa_cons (pv 5) pa_nil)) pa_nil)))
      (pss_cons (ps_if (PW.pt (pw_or (pt_cmpR (opK_neD (K := K) rfl hr.units) (pe_callB (callK_sortL (K := K) rfl hr.units) rfl B.«sorted» bt_sorted (pa_cons (pv 7) pa_nil)) (pe_callB (callK_sortL (K := K) rfl hr.units) rfl B.«sorted» bt_sorted (pa_cons (pv 6) pa_nil)) (nomark _)) (pw_or1 (pt_cmpR op_ne (pe_def d_q_begin hr (pa_cons (pv 5) pa_nil)) (pe_op op_add (pe_def d_q_begin hr (pa_cons (pv 3) pa_nil)) (pe_def d_q_begin hr (pa_cons (pv 4) pa_nil))) (nomark _)))))
        (pss_one (ps_ret pe_bl))
        (pss_nil))
      (pss_one (ps_if (pt_cmpR (opK_neD (K := K) rfl hr.units) (pe_def d_joined hr (pa_cons (pv 5) (pa_cons (pv 3) pa_nil))) (pe_def d_joined hr (pa_cons (pv 3) (pa_cons (pe_def d_joined hr (pa_cons (pv 4) (pa_cons (pv 3) pa_nil))) pa_nil))) (nomark _))
        (pss_one (ps_ret pe_bl))
        (pss_nil)))))))))))
    (pss_one (ps_ret pe_bl)), ?_⟩
  have hn : (ns.map V.int).length = ns.length := List.length_map _
  obtain ⟨J, hJ, hJ1, hJ2⟩ : ∃ J : Int, (if (if ((ns.map V.int).length : Int) < 6 then ((ns.map V.int).length : Int) else 6) > 2 then (if ((ns.map V.int).length : Int) < 6 then ((ns.map V.int).length : Int) else 6) else 2) = J ∧ 2 ≤ J ∧ J ≤ 6 := ⟨_, rfl, by split <;> omega, by split <;> (try split) <;> omega⟩
  refine ⟨_, rfl, a, _, rfl, .inl hS, _, _, rfl, _, _, rfl, 0, J, by rw [← hJ], ⟨by decide, by decide, by omega, by omega⟩, ?_⟩
  refine for_step (fun i σ H2 => Same H H2 ∧ ∃ o1 o2 o3 o4 o5 o6 o7, σ = [some (.ref a), o1, o2, o3, o4, o5, o6, o7]) ⟨Same.refl H, _, _, _, _, _, _, _, rfl⟩ ?_ ?_
  · rintro i σ H0 hi ⟨g0, o1, o2, o3, o4, o5, o6, o7, rfl⟩
    refine ⟨_, rfl, _, rfl, a, ns, _, rfl, g0.seq hS, by omega, fun b g r H1 g1 n1 e1 => ?_⟩
    refine ⟨_, rfl, b, g, r, 13, rfl, e1, by decide, by decide, fun p1 xs g3 r3 H4 k4 eB3 np1 eX zx ox bx lx1 lx2 lst1 => ?_⟩
    have gB : Same H0 H4 := k4.keep g1 n1
    clear k4 eB3 np1
    refine ⟨_, rfl, _, rfl, _, _, rfl, rfl, a, ns, _, rfl, (g0.trans gB).seq hS, by omega, fun b2 g4 r4 H5 g5 n5 e5 => ?_⟩
    refine ⟨b2, g4, r4, 13, rfl, e5, by decide, by decide, fun p2 ys g6 r6 H6 k6 eB6 np2 eY zy oy by' ly1 ly2 lst2 => ?_⟩
    have g46 : Same H4 H6 := k6.keep g5 n5
    replace eX := g46 _ _ eX
    replace zx := SzL.same zx g46
    have gC := gB.trans g46
    clear e5 k6 eB6 np2 g46 g5 n5 gB
    have bx1 : BdZ 100 (tz xs) := BdZ.mono bx (by decide)
    have by1 : BdZ 100 (tz ys) := BdZ.mono by' (by decide)
    have hnx : pls (tz xs) ≠ [] := by obtain ⟨u, e⟩ := lst1; exact List.ne_nil_of_mem (pls_mem.mpr ⟨u, e⟩)
    have hny : pls (tz ys) ≠ [] := by obtain ⟨u, e⟩ := lst2; exact List.ne_nil_of_mem (pls_mem.mpr ⟨u, e⟩)
    obtain ⟨D, SX, SY⟩ := scl_two ox oy
    have ltx : (tz xs).length = xs.length := List.length_map _
    have lty : (tz ys).length = ys.length := List.length_map _
    refine ⟨_, rfl, _, rfl, p1, p2, xs, ys, rfl, SqL.of eX, SqL.of eY, zx, zy, ox, oy, bx1, by1, lx1, by omega, ly1, by omega, fun p3 zs H7 g7 n7 e7 z7 t7 => ?_⟩
    have oz : AllOk (tz zs) := t7 ▸ cvz_ok ox oy
    have bz : BdZ 100 (tz zs) := t7 ▸ BdZ.mono (cvz_bd ox oy bx by') (by decide)
    have hnz : pls (tz zs) ≠ [] := t7 ▸ cv_ne ox oy SX SY hnx hny
    have ltz : zs.length = xs.length + ys.length - 1 := by
      have := congrArg List.length t7
      rw [len_cvz, List.length_map, ltx, lty] at this
      exact this
    replace eX := g7 _ _ eX
    replace eY := g7 _ _ eY
    replace zx := SzL.same zx g7
    replace zy := SzL.same zy g7
    replace gC := gC.trans g7
    clear g7
    -- due
    refine ⟨_, rfl, p1, xs, rfl, SqL.of eX, zx, by omega, ox, bx1, hnx, fun pd ds H8 g8 n8 e8 sd8 hL8 hend8 ld8 => ?_⟩
    have R1 := lr_of hL8 hend8
    refine ⟨pd, ds, rfl, e8, sd8, ld8, fun d hd => Nat.le_of_lt (R1.rng d.2.2 (List.mem_map_of_mem hd)).2, fun pl es H9 g9 n9 e9 f9 ne9 d9 l9 => ?_⟩
    have g89 := g8.trans g9
    refine ⟨_, rfl, p2, ys, rfl, SqL.of (g89 _ _ eY), SzL.same zy g89, by omega, oy, by1, hny, fun pd2 ds2 H10 g10 n10 e10 sd10 hL10 hend10 ld10 => ?_⟩
    have R2 := lr_of hL10 hend10
    refine ⟨pd2, ds2, rfl, e10, sd10, ld10, fun d hd => Nat.le_of_lt (R2.rng d.2.2 (List.mem_map_of_mem hd)).2, fun pl2 fs H11 g11 n11 e11 f11 ne11 d11 l11 => ?_⟩
    have g911 := g10.trans g11
    have K1 := lens_ok SX ox bx1 (by omega) hnx R1
    have len1 := R1.len
    have len2 := R2.len
    rw [List.length_map] at len1 len2
    refine ⟨pl, pl2, es, fs, lens (svals ds), lens (svals ds2), rfl, g911 _ _ e9, e11, f9.same g911, f11, by omega, by omega, d9, d11, K1.1, fun pm ts H12 g12 n12 e12 f12 d12 => ?_⟩
    have gE := (g89.trans g911).trans g12
    replace eX := gE _ _ eX
    replace eY := gE _ _ eY
    replace zx := SzL.same zx gE
    replace zy := SzL.same zy gE
    replace e7 := gE _ _ e7
    replace z7 := SzL.same z7 gE
    replace gC := gC.trans gE
    clear gE g12 g911 g11 g10 g89 g9 g8 e8 sd8 e9 f9 e10 sd10 e11 f11
    -- found
    refine ⟨_, rfl, p3, zs, rfl, SqL.of e7, z7, by omega, oz, bz, hnz, fun pd3 ds3 H13 g13 n13 e13 sd13 hL13 hend13 ld13 => ?_⟩
    have R3 := lr_of hL13 hend13
    refine ⟨pd3, ds3, rfl, e13, sd13, ld13, fun d hd => Nat.le_of_lt (R3.rng d.2.2 (List.mem_map_of_mem hd)).2, fun pl3 us H14 g14 n14 e14 f14 ne14 d14 l14 => ?_⟩
    have len3 := R3.len
    rw [List.length_map, List.length_map] at len3
    have gF := g13.trans g14
    replace eX := gF _ _ eX
    replace eY := gF _ _ eY
    replace zx := SzL.same zx gF
    replace zy := SzL.same zy gF
    replace e7 := gF _ _ e7
    replace z7 := SzL.same z7 gF
    replace e12 := gF _ _ e12
    replace f12 := f12.same gF
    replace gC := gC.trans gF
    clear gF g13 g14 e13 sd13
    have K3 := lens_ok (t7 ▸ cv_scl ox oy SX SY) oz bz (by rw [List.length_map]; omega) hnz R3
    have aux : ∀ Z, Z = cvz (tz xs) (tz ys) → BdZ 100 Z → ∀ (hz : pls Z ≠ []) (l3 : List Side), LR Z (pls Z) ((pls Z).head hz) l3 ((pls Z).getLast hz) → (lens l3).Perm (mrgs (lens (svals ds)) (lens (svals ds2))) ∧ (pls Z).head hz = (pls (tz xs)).head hnx + (pls (tz ys)).head hny := by
      rintro _ rfl b hz l3 h
      exact ⟨lens_sum SX SY ox oy bx1 by1 b (by omega) (by omega) hnx hny hz R1 R2 h, cv_head ox oy SX SY hnx hny hz⟩
    obtain ⟨pm3, hd3⟩ := aux _ t7 bz hnz _ R3
    have lts : ts.length = us.length := by
      have h1 := congrArg List.length d12
      have h2 := congrArg List.length d14
      have h3 := pm3.length_eq
      unfold fdat lensI at h1 h2
      simp only [List.length_map] at h1 h2
      omega
    -- sorted
    refine ⟨_, rfl, pl3, us, rfl, SqL.of e14, f14.row, by omega, fdat_dst d14 K3.1, fun us' q1 pu su nq1 => ?_⟩
    have kq1 := same_new nq1 (.lst (flrefs us'))
    refine ⟨_, rfl, pm, ts, rfl, SqL.of (kq1 _ _ e12), (f12.same kq1).row, by omega, fdat_dst d12 (mrgs_dst _ K1.1), fun ts' q2 pt st nq2 => ?_⟩
    have kq2 := same_new nq2 (.lst (flrefs ts'))
    have eqs : fdat us' = fdat ts' := by
      refine sorted_one ?_ (fdat_srt su) (fdat_srt st)
      refine (fdat_perm pu).trans ?_
      rw [d14]
      refine (lensI_perm pm3).trans ?_
      rw [← d12]
      exact (fdat_perm pt).symm
    have kq := kq1.trans kq2
    refine neSame (n := 3) (d := .list ((fdat us').map dF)) (den_rows (SqL.of (kq2 _ _ upd_same)) (fun t m => (f14.same kq) t (pu.mem_iff.mp m))) (eqs ▸ den_rows (SqL.of upd_same) (fun t m => (f12.same kq) t (pt.mem_iff.mp m))) (fl_rows _) (by decide) ⟨_, rfl, iteF ?_⟩
    replace eX := kq _ _ eX
    replace eY := kq _ _ eY
    replace zx := SzL.same zx kq
    replace zy := SzL.same zy kq
    replace e7 := kq _ _ e7
    replace z7 := SzL.same z7 kq
    replace gC := gC.trans kq
    clear kq kq1 kq2 e14 f14 e12 f12
    -- begins
    refine ⟨_, rfl, p3, zs, rfl, SqL.of e7, z7, by omega, hnz, fun H15 g15 => ?_⟩
    refine ⟨_, rfl, p1, xs, rfl, SqL.of (g15 _ _ eX), SzL.same zx g15, by omega, hnx, fun H16 g16 => ?_⟩
    have g156 := g15.trans g16
    refine ⟨_, rfl, p2, ys, rfl, SqL.of (g156 _ _ eY), SzL.same zy g156, by omega, hny, fun H17 g17 => ?_⟩
    have gG := g156.trans g17
    refine ⟨_, _, rfl, rfl, ?_⟩
    refine ⟨rfl, _, rfl, ?_⟩
    have ec : (((pls (tz zs)).head hnz : Nat) : Int) = ((pls (tz xs)).head hnx : Int) + ((pls (tz ys)).head hny : Int) := by rw [hd3, Int.natCast_add]
    refine iteNS (congrArg V.int ec) ?_
    replace eX := gG _ _ eX
    replace eY := gG _ _ eY
    replace zx := SzL.same zx gG
    replace zy := SzL.same zy gG
    replace e7 := gG _ _ e7
    replace z7 := SzL.same z7 gG
    replace gC := gC.trans gG
    clear gG g156 g15 g16 g17
    -- put together of three
    refine ⟨_, rfl, _, rfl, p3, p1, zs, xs, rfl, SqL.of e7, SqL.of eX, z7, zx, oz, ox, bz, bx1, by omega, by omega, lx1, by omega, fun q4 as H18 g18 n18 e18 z18 t18 => ?_⟩
    refine ⟨_, rfl, _, rfl, _, rfl, p2, p1, ys, xs, rfl, SqL.of (g18 _ _ eY), SqL.of (g18 _ _ eX), SzL.same zy g18, SzL.same zx g18, oy, ox, by1, bx1, ly1, by omega, lx1, by omega, fun q5 bs H19 g19 n19 e19 z19 t19 => ?_⟩
    have ob : AllOk (tz bs) := t19 ▸ cvz_ok oy ox
    have bb : BdZ 100 (tz bs) := t19 ▸ BdZ.mono (cvz_bd oy ox by' bx) (by decide)
    have ltb : bs.length = ys.length + xs.length - 1 := by
      have := congrArg List.length t19
      rw [len_cvz, List.length_map, ltx, lty] at this
      exact this
    have g189 := g18.trans g19
    refine ⟨p1, q5, xs, bs, rfl, SqL.of (g189 _ _ eX), SqL.of e19, SzL.same zx g189, z19, ox, ob, bx1, bb, lx1, by omega, by omega, by omega, fun q6 cs H20 g20 n20 e20 z20 t20 => ?_⟩
    have g1920 := g19.trans g20
    have eq3 : tz cs = tz as := by
      rw [t20, t18, t19, t7]
      exact (cv_assoc ox oy ox SX SY SX (by omega) (by omega) (by omega)).symm
    refine neSame (n := 2) (d := dSz (tz as)) (den_sz (SqL.of (g1920 _ _ e18)) (SzL.same z18 g1920)) (eq3 ▸ den_sz (SqL.of e20) z20) (fl_sz _) (by decide) ⟨_, rfl, iteF ?_⟩
    exact ⟨(g0.trans gC).trans (g18.trans g1920), _, _, _, _, _, _, _, rfl⟩
  · rintro σ H0 ⟨g0, _⟩
    exact q _
end
theorem all_mk {l : PySem.W.OpenLaw} {w : World} {K : PySem.W.Frag} {h : Heap} {mg : Str → Option Value} {fa : Addr} (X : K.In h) (G : h.Ns mainGlobals mg) (hfa : mg "law" = some (.ref fa))
    {f0 : Addr} {od0 an0 : Option Addr} {sl0 : Array (Option Value)} {oc0 kV0 dc0 pm0 cd0 ct0 : Value}
    {f1 : Addr} {od1 an1 : Option Addr} {sl1 : Array (Option Value)} {oc1 kV1 dc1 pm1 cd1 ct1 : Value}
    {f2 : Addr} {od2 an2 : Option Addr} {sl2 : Array (Option Value)} {oc2 kV2 dc2 pm2 cd2 ct2 : Value}
    {f3 : Addr} {od3 an3 : Option Addr} {sl3 : Array (Option Value)} {oc3 kV3 dc3 pm3 cd3 ct3 : Value}
    {f4 : Addr} {od4 an4 : Option Addr} {sl4 : Array (Option Value)} {oc4 kV4 dc4 pm4 cd4 ct4 : Value}
    {f5 : Addr} {od5 an5 : Option Addr} {sl5 : Array (Option Value)} {oc5 kV5 dc5 pm5 cd5 ct5 : Value}
    {f6 : Addr} {od6 an6 : Option Addr} {sl6 : Array (Option Value)} {oc6 kV6 dc6 pm6 cd6 ct6 : Value}
    {f7 : Addr} {od7 an7 : Option Addr} {sl7 : Array (Option Value)} {oc7 kV7 dc7 pm7 cd7 ct7 : Value}
    {f8 : Addr} {od8 an8 : Option Addr} {sl8 : Array (Option Value)} {oc8 kV8 dc8 pm8 cd8 ct8 : Value}
    {f9 : Addr} {od9 an9 : Option Addr} {sl9 : Array (Option Value)} {oc9 kV9 dc9 pm9 cd9 ct9 : Value}
    {f10 : Addr} {od10 an10 : Option Addr} {sl10 : Array (Option Value)} {oc10 kV10 dc10 pm10 cd10 ct10 : Value}
    {f11 : Addr} {od11 an11 : Option Addr} {sl11 : Array (Option Value)} {oc11 kV11 dc11 pm11 cd11 ct11 : Value}
    {f12 : Addr} {od12 an12 : Option Addr} {sl12 : Array (Option Value)} {oc12 kV12 dc12 pm12 cd12 ct12 : Value}
    {f13 : Addr} {od13 an13 : Option Addr} {sl13 : Array (Option Value)} {oc13 kV13 dc13 pm13 cd13 ct13 : Value}
    {f14 : Addr} {od14 an14 : Option Addr} {sl14 : Array (Option Value)} {oc14 kV14 dc14 pm14 cd14 ct14 : Value}
    {f15 : Addr} {od15 an15 : Option Addr} {sl15 : Array (Option Value)} {oc15 kV15 dc15 pm15 cd15 ct15 : Value}
    {f16 : Addr} {od16 an16 : Option Addr} {sl16 : Array (Option Value)} {oc16 kV16 dc16 pm16 cd16 ct16 : Value}
    {f17 : Addr} {od17 an17 : Option Addr} {sl17 : Array (Option Value)} {oc17 kV17 dc17 pm17 cd17 ct17 : Value}
    {f18 : Addr} {od18 an18 : Option Addr} {sl18 : Array (Option Value)} {oc18 kV18 dc18 pm18 cd18 ct18 : Value}
    (a0 : PySem.W.nsIn K mainGlobals "common_divisor" = some (some (.ref f0))) (l0 : K.lookup f0 = some ⟨oc0, od0, .func (PySem.W.fnOf "common_divisor" "common_divisor" (defArgs s_common_divisor) (defBody s_common_divisor) (defScope s_common_divisor) .none kV0 dc0 pm0 an0 cd0 ct0), sl0⟩) (c0 : PySem.W.codeIn K cd0 "common_divisor" = true) (k0 : PySem.W.keepIn K (.ref f0) = true)
    (a1 : PySem.W.nsIn K mainGlobals "fraction" = some (some (.ref f1))) (l1 : K.lookup f1 = some ⟨oc1, od1, .func (PySem.W.fnOf "fraction" "fraction" (defArgs s_fraction) (defBody s_fraction) (defScope s_fraction) .none kV1 dc1 pm1 an1 cd1 ct1), sl1⟩) (c1 : PySem.W.codeIn K cd1 "fraction" = true) (k1 : PySem.W.keepIn K (.ref f1) = true)
    (a2 : PySem.W.nsIn K mainGlobals "plus" = some (some (.ref f2))) (l2 : K.lookup f2 = some ⟨oc2, od2, .func (PySem.W.fnOf "plus" "plus" (defArgs s_plus) (defBody s_plus) (defScope s_plus) .none kV2 dc2 pm2 an2 cd2 ct2), sl2⟩) (c2 : PySem.W.codeIn K cd2 "plus" = true) (k2 : PySem.W.keepIn K (.ref f2) = true)
    (a3 : PySem.W.nsIn K mainGlobals "minus" = some (some (.ref f3))) (l3 : K.lookup f3 = some ⟨oc3, od3, .func (PySem.W.fnOf "minus" "minus" (defArgs s_minus) (defBody s_minus) (defScope s_minus) .none kV3 dc3 pm3 an3 cd3 ct3), sl3⟩) (c3 : PySem.W.codeIn K cd3 "minus" = true) (k3 : PySem.W.keepIn K (.ref f3) = true)
    (a4 : PySem.W.nsIn K mainGlobals "over" = some (some (.ref f4))) (l4 : K.lookup f4 = some ⟨oc4, od4, .func (PySem.W.fnOf "over" "over" (defArgs s_over) (defBody s_over) (defScope s_over) .none kV4 dc4 pm4 an4 cd4 ct4), sl4⟩) (c4 : PySem.W.codeIn K cd4 "over" = true) (k4 : PySem.W.keepIn K (.ref f4) = true)
    (a5 : PySem.W.nsIn K mainGlobals "is_less" = some (some (.ref f5))) (l5 : K.lookup f5 = some ⟨oc5, od5, .func (PySem.W.fnOf "is_less" "is_less" (defArgs s_is_less) (defBody s_is_less) (defScope s_is_less) .none kV5 dc5 pm5 an5 cd5 ct5), sl5⟩) (c5 : PySem.W.codeIn K cd5 "is_less" = true) (k5 : PySem.W.keepIn K (.ref f5) = true)
    (a6 : PySem.W.nsIn K mainGlobals "least" = some (some (.ref f6))) (l6 : K.lookup f6 = some ⟨oc6, od6, .func (PySem.W.fnOf "least" "least" (defArgs s_least) (defBody s_least) (defScope s_least) .none kV6 dc6 pm6 an6 cd6 ct6), sl6⟩) (c6 : PySem.W.codeIn K cd6 "least" = true) (k6 : PySem.W.keepIn K (.ref f6) = true)
    (a7 : PySem.W.nsIn K mainGlobals "slope_between" = some (some (.ref f7))) (l7 : K.lookup f7 = some ⟨oc7, od7, .func (PySem.W.fnOf "slope_between" "slope_between" (defArgs s_slope_between) (defBody s_slope_between) (defScope s_slope_between) .none kV7 dc7 pm7 an7 cd7 ct7), sl7⟩) (c7 : PySem.W.codeIn K cd7 "slope_between" = true) (k7 : PySem.W.keepIn K (.ref f7) = true)
    (a8 : PySem.W.nsIn K mainGlobals "next_side" = some (some (.ref f8))) (l8 : K.lookup f8 = some ⟨oc8, od8, .func (PySem.W.fnOf "next_side" "next_side" (defArgs s_next_side) (defBody s_next_side) (defScope s_next_side) .none kV8 dc8 pm8 an8 cd8 ct8), sl8⟩) (c8 : PySem.W.codeIn K cd8 "next_side" = true) (k8 : PySem.W.keepIn K (.ref f8) = true)
    (a9 : PySem.W.nsIn K mainGlobals "sides" = some (some (.ref f9))) (l9 : K.lookup f9 = some ⟨oc9, od9, .func (PySem.W.fnOf "sides" "sides" (defArgs s_sides) (defBody s_sides) (defScope s_sides) .none kV9 dc9 pm9 an9 cd9 ct9), sl9⟩) (c9 : PySem.W.codeIn K cd9 "sides" = true) (k9 : PySem.W.keepIn K (.ref f9) = true)
    (a10 : PySem.W.nsIn K mainGlobals "joined" = some (some (.ref f10))) (l10 : K.lookup f10 = some ⟨oc10, od10, .func (PySem.W.fnOf "joined" "joined" (defArgs s_joined) (defBody s_joined) (defScope s_joined) .none kV10 dc10 pm10 an10 cd10 ct10), sl10⟩) (c10 : PySem.W.codeIn K cd10 "joined" = true) (k10 : PySem.W.keepIn K (.ref f10) = true)
    (a11 : PySem.W.nsIn K mainGlobals "_law_bag" = some (some (.ref f11))) (l11 : K.lookup f11 = some ⟨oc11, od11, .func (PySem.W.fnOf "_law_bag" "_law_bag" (defArgs s_q_bag) (defBody s_q_bag) (defScope s_q_bag) .none kV11 dc11 pm11 an11 cd11 ct11), sl11⟩) (c11 : PySem.W.codeIn K cd11 "_law_bag" = true) (k11 : PySem.W.keepIn K (.ref f11) = true)
    (a12 : PySem.W.nsIn K mainGlobals "_law_take" = some (some (.ref f12))) (l12 : K.lookup f12 = some ⟨oc12, od12, .func (PySem.W.fnOf "_law_take" "_law_take" (defArgs s_q_take) (defBody s_q_take) (defScope s_q_take) .none kV12 dc12 pm12 an12 cd12 ct12), sl12⟩) (c12 : PySem.W.codeIn K cd12 "_law_take" = true) (k12 : PySem.W.keepIn K (.ref f12) = true)
    (a13 : PySem.W.nsIn K mainGlobals "_law_low" = some (some (.ref f13))) (l13 : K.lookup f13 = some ⟨oc13, od13, .func (PySem.W.fnOf "_law_low" "_law_low" (defArgs s_q_low) (defBody s_q_low) (defScope s_q_low) .none kV13 dc13 pm13 an13 cd13 ct13), sl13⟩) (c13 : PySem.W.codeIn K cd13 "_law_low" = true) (k13 : PySem.W.keepIn K (.ref f13) = true)
    (a14 : PySem.W.nsIn K mainGlobals "_law_sizes" = some (some (.ref f14))) (l14 : K.lookup f14 = some ⟨oc14, od14, .func (PySem.W.fnOf "_law_sizes" "_law_sizes" (defArgs s_q_sizes) (defBody s_q_sizes) (defScope s_q_sizes) .none kV14 dc14 pm14 an14 cd14 ct14), sl14⟩) (c14 : PySem.W.codeIn K cd14 "_law_sizes" = true) (k14 : PySem.W.keepIn K (.ref f14) = true)
    (a15 : PySem.W.nsIn K mainGlobals "_law_lengths" = some (some (.ref f15))) (l15 : K.lookup f15 = some ⟨oc15, od15, .func (PySem.W.fnOf "_law_lengths" "_law_lengths" (defArgs s_q_lengths) (defBody s_q_lengths) (defScope s_q_lengths) .none kV15 dc15 pm15 an15 cd15 ct15), sl15⟩) (c15 : PySem.W.codeIn K cd15 "_law_lengths" = true) (k15 : PySem.W.keepIn K (.ref f15) = true)
    (a16 : PySem.W.nsIn K mainGlobals "_law_merged" = some (some (.ref f16))) (l16 : K.lookup f16 = some ⟨oc16, od16, .func (PySem.W.fnOf "_law_merged" "_law_merged" (defArgs s_q_merged) (defBody s_q_merged) (defScope s_q_merged) .none kV16 dc16 pm16 an16 cd16 ct16), sl16⟩) (c16 : PySem.W.codeIn K cd16 "_law_merged" = true) (k16 : PySem.W.keepIn K (.ref f16) = true)
    (a17 : PySem.W.nsIn K mainGlobals "_law_begin" = some (some (.ref f17))) (l17 : K.lookup f17 = some ⟨oc17, od17, .func (PySem.W.fnOf "_law_begin" "_law_begin" (defArgs s_q_begin) (defBody s_q_begin) (defScope s_q_begin) .none kV17 dc17 pm17 an17 cd17 ct17), sl17⟩) (c17 : PySem.W.codeIn K cd17 "_law_begin" = true) (k17 : PySem.W.keepIn K (.ref f17) = true)
    (a18 : PySem.W.nsIn K mainGlobals "law" = some (some (.ref f18))) (l18 : K.lookup f18 = some ⟨oc18, od18, .func (PySem.W.fnOf "law" "law" (defArgs s_law) (defBody s_law) (defScope s_law) .none kV18 dc18 pm18 an18 cd18 ct18), sl18⟩) (c18 : PySem.W.codeIn K cd18 "law" = true) (k18 : PySem.W.keepIn K (.ref f18) = true)
    (z_abs : PySem.W.nsIn K mainGlobals "abs" = some none)
    (z_enumerate : PySem.W.nsIn K mainGlobals "enumerate" = some none)
    (z_len : PySem.W.nsIn K mainGlobals "len" = some none)
    (z_list : PySem.W.nsIn K mainGlobals "list" = some none)
    (z_max : PySem.W.nsIn K mainGlobals "max" = some none)
    (z_min : PySem.W.nsIn K mainGlobals "min" = some none)
    (z_range : PySem.W.nsIn K mainGlobals "range" = some none)
    (z_sorted : PySem.W.nsIn K mainGlobals "sorted" = some none) :
    ∃ fd : FuncData, (∀ (s : Shared) (v : Value), BindsTo s fd ⟨[v], []⟩ [("_law_script", v)]) ∧ ∀ base : Heap, K.In base → base.Ns mainGlobals mg → FnOk l.prog w K mg base CX0 7 fa fd ["_law_script"] (spLaw K) := by
  have e := hfa.symm.trans (PySem.W.mg_of X G a18)
  cases e
  have S_common_divisor : Src K mg "common_divisor" s_common_divisor ["one", "other"] := src_mk X G a0 l0 c0 k0 fun _ _ _ _ _ _ us hl => match us, hl with | [_, _], _ => rfl
  have S_fraction : Src K mg "fraction" s_fraction ["top", "bottom"] := src_mk X G a1 l1 c1 k1 fun _ _ _ _ _ _ us hl => match us, hl with | [_, _], _ => rfl
  have S_plus : Src K mg "plus" s_plus ["u", "v"] := src_mk X G a2 l2 c2 k2 fun _ _ _ _ _ _ us hl => match us, hl with | [_, _], _ => rfl
  have S_minus : Src K mg "minus" s_minus ["u", "v"] := src_mk X G a3 l3 c3 k3 fun _ _ _ _ _ _ us hl => match us, hl with | [_, _], _ => rfl
  have S_over : Src K mg "over" s_over ["u", "v"] := src_mk X G a4 l4 c4 k4 fun _ _ _ _ _ _ us hl => match us, hl with | [_, _], _ => rfl
  have S_is_less : Src K mg "is_less" s_is_less ["u", "v"] := src_mk X G a5 l5 c5 k5 fun _ _ _ _ _ _ us hl => match us, hl with | [_, _], _ => rfl
  have S_least : Src K mg "least" s_least ["some"] := src_mk X G a6 l6 c6 k6 fun _ _ _ _ _ _ us hl => match us, hl with | [_], _ => rfl
  have S_slope_between : Src K mg "slope_between" s_slope_between ["sizes", "s", "t"] := src_mk X G a7 l7 c7 k7 fun _ _ _ _ _ _ us hl => match us, hl with | [_, _, _], _ => rfl
  have S_next_side : Src K mg "next_side" s_next_side ["sizes", "places", "s"] := src_mk X G a8 l8 c8 k8 fun _ _ _ _ _ _ us hl => match us, hl with | [_, _, _], _ => rfl
  have S_sides : Src K mg "sides" s_sides ["sizes"] := src_mk X G a9 l9 c9 k9 fun _ _ _ _ _ _ us hl => match us, hl with | [_], _ => rfl
  have S_joined : Src K mg "joined" s_joined ["one", "other"] := src_mk X G a10 l10 c10 k10 fun _ _ _ _ _ _ us hl => match us, hl with | [_, _], _ => rfl
  have S_q_bag : Src K mg "_law_bag" s_q_bag ["_law_script", "_law_at"] := src_mk X G a11 l11 c11 k11 fun _ _ _ _ _ _ us hl => match us, hl with | [_, _], _ => rfl
  have S_q_take : Src K mg "_law_take" s_q_take ["_law_bag_here", "_law_many"] := src_mk X G a12 l12 c12 k12 fun _ _ _ _ _ _ us hl => match us, hl with | [_, _], _ => rfl
  have S_q_low : Src K mg "_law_low" s_q_low ["_law_top", "_law_bottom"] := src_mk X G a13 l13 c13 k13 fun _ _ _ _ _ _ us hl => match us, hl with | [_, _], _ => rfl
  have S_q_sizes : Src K mg "_law_sizes" s_q_sizes ["_law_bag_here", "_law_most"] := src_mk X G a14 l14 c14 k14 fun _ _ _ _ _ _ us hl => match us, hl with | [_, _], _ => rfl
  have S_q_lengths : Src K mg "_law_lengths" s_q_lengths ["_law_found"] := src_mk X G a15 l15 c15 k15 fun _ _ _ _ _ _ us hl => match us, hl with | [_], _ => rfl
  have S_q_merged : Src K mg "_law_merged" s_q_merged ["_law_one", "_law_other"] := src_mk X G a16 l16 c16 k16 fun _ _ _ _ _ _ us hl => match us, hl with | [_, _], _ => rfl
  have S_q_begin : Src K mg "_law_begin" s_q_begin ["_law_sizes_here"] := src_mk X G a17 l17 c17 k17 fun _ _ _ _ _ _ us hl => match us, hl with | [_], _ => rfl
  have F_law := fun_mk (st := s_law) l18 c18 k18
  have B : Blt mg := ⟨PySem.W.mg_none_of X G z_abs, PySem.W.mg_none_of X G z_enumerate, PySem.W.mg_none_of X G z_len, PySem.W.mg_none_of X G z_list, PySem.W.mg_none_of X G z_max, PySem.W.mg_none_of X G z_min, PySem.W.mg_none_of X G z_range, PySem.W.mg_none_of X G z_sorted⟩
  refine ⟨PySem.W.fnOf "law" "law" (defArgs s_law) (defBody s_law) (defScope s_law) .none kV18 dc18 pm18 an18 cd18 ct18, fun s v => .of_eq rfl, fun base _ _ => ?_⟩
  have dl := ok_q_low (P := l.prog) (w := w) (base := base) B S_q_low
  have dt := ok_q_take (P := l.prog) (w := w) (base := base) B S_q_take
  have df := ok_fraction (ok_common_divisor (P := l.prog) (w := w) (base := base) B S_common_divisor) S_fraction
  have dle := ok_is_less (P := l.prog) (w := w) (base := base) S_is_less
  have ds := ok_slope_between (ok_minus df S_minus) (ok_over df S_over) S_slope_between
  have dn := ok_next_side B (ok_least dle S_least) ds S_next_side
  have dj := ok_joined B (ok_plus df S_plus) dle S_joined
  exact ok_law B (ok_q_bag B S_q_bag) (ok_q_sizes B dt dl S_q_sizes) dj (ok_sides B dn S_sides) (ok_q_lengths S_q_lengths) (ok_q_merged B S_q_merged) (ok_q_begin B S_q_begin) F_law
theorem walk {l : PySem.W.OpenLaw} {q : Program} {loose : List Str} {XP : (Str → Option Value) → Heap → Prop} {YP : World → Heap → Prop} {d : DefRec} {K : Params → PySem.W.Frag} (hn : l.most = some 63) (hdf : d.params.defaults = [])
    (hY : ∀ (w : World) (h : Heap), YP w h → (K w.params).In h)
    (F : ∀ (w : World) (mg : Str → Option Value) (fa : Addr) (h : Heap), (K w.params).In h → h.Ns mainGlobals mg → mg d.name = some (.ref fa) →
      ∃ fd : FuncData, (∀ (s : Shared) (u : Value), BindsTo s fd ⟨[u], []⟩ [("_law_script", u)]) ∧ ∀ base : Heap, (K w.params).In base → base.Ns mainGlobals mg → FnOk l.prog w (K w.params) mg base CX0 7 fa fd ["_law_script"] (spLaw (K w.params))) :
    PySem.W.WalkO q loose XP YP l.row.toRowW d [] (fun f vs => PySem.call f vs) :=
  L2.walk_of (n := 63) (k := 7) (x := "_law_script") (CX := fun _ => CX0) (sp := fun w => spLaw (K w.params)) hn (by decide) hdf ⟨rfl, by decide, by decide⟩ hY F (fun _ _ a ns hl _ hS => ⟨a, ns, rfl, hS, hl, fun _ => rfl⟩) fun _ _ _ _ _ z => z
end K25
open PySem PySem.W PyProof.Rows
set_option maxRecDepth 100000 in
set_option maxHeartbeats 0 in
theorem PySem.Challenge.cw_branchdepth_k25_whole_sides_put_together_holds : PySem.Challenge.rw_branchdepth_k25_whole_sides_put_together.Holds := by
  w_on; o_law; k_head; (case hw => w_witness2)
  k_fill
  refine K25.walk (l := PySem.Challenge.rw_branchdepth_k25_whole_sides_put_together) rfl rfl (fun w h Y => PySem.W.kIn_of Y) ?F
  case F =>
    intro w mg fa h KX G hmg
    refine' K25.all_mk KX G hmg ?a0 ?l0 ?c0 ?k0 ?a1 ?l1 ?c1 ?k1 ?a2 ?l2 ?c2 ?k2 ?a3 ?l3 ?c3 ?k3 ?a4 ?l4 ?c4 ?k4 ?a5 ?l5 ?c5 ?k5 ?a6 ?l6 ?c6 ?k6 ?a7 ?l7 ?c7 ?k7 ?a8 ?l8 ?c8 ?k8 ?a9 ?l9 ?c9 ?k9 ?a10 ?l10 ?c10 ?k10 ?a11 ?l11 ?c11 ?k11 ?a12 ?l12 ?c12 ?k12 ?a13 ?l13 ?c13 ?k13 ?a14 ?l14 ?c14 ?k14 ?a15 ?l15 ?c15 ?k15 ?a16 ?l16 ?c16 ?k16 ?a17 ?l17 ?c17 ?k17 ?a18 ?l18 ?c18 ?k18 ?z_abs ?z_enumerate ?z_len ?z_list ?z_max ?z_min ?z_range ?z_sorted
    (case a0 => k_is)
    (case l0 => k_is)
    (case c0 => k_is)
    (case k0 => k_is)
    (case a1 => k_is)
    (case l1 => k_is)
    (case c1 => k_is)
    (case k1 => k_is)
    (case a2 => k_is)
    (case l2 => k_is)
    (case c2 => k_is)
    (case k2 => k_is)
    (case a3 => k_is)
    (case l3 => k_is)
    (case c3 => k_is)
    (case k3 => k_is)
    (case a4 => k_is)
    (case l4 => k_is)
    (case c4 => k_is)
    (case k4 => k_is)
    (case a5 => k_is)
    (case l5 => k_is)
    (case c5 => k_is)
    (case k5 => k_is)
    (case a6 => k_is)
    (case l6 => k_is)
    (case c6 => k_is)
    (case k6 => k_is)
    (case a7 => k_is)
    (case l7 => k_is)
    (case c7 => k_is)
    (case k7 => k_is)
    (case a8 => k_is)
    (case l8 => k_is)
    (case c8 => k_is)
    (case k8 => k_is)
    (case a9 => k_is)
    (case l9 => k_is)
    (case c9 => k_is)
    (case k9 => k_is)
    (case a10 => k_is)
    (case l10 => k_is)
    (case c10 => k_is)
    (case k10 => k_is)
    (case a11 => k_is)
    (case l11 => k_is)
    (case c11 => k_is)
    (case k11 => k_is)
    (case a12 => k_is)
    (case l12 => k_is)
    (case c12 => k_is)
    (case k12 => k_is)
    (case a13 => k_is)
    (case l13 => k_is)
    (case c13 => k_is)
    (case k13 => k_is)
    (case a14 => k_is)
    (case l14 => k_is)
    (case c14 => k_is)
    (case k14 => k_is)
    (case a15 => k_is)
    (case l15 => k_is)
    (case c15 => k_is)
    (case k15 => k_is)
    (case a16 => k_is)
    (case l16 => k_is)
    (case c16 => k_is)
    (case k16 => k_is)
    (case a17 => k_is)
    (case l17 => k_is)
    (case c17 => k_is)
    (case k17 => k_is)
    (case a18 => k_is)
    (case l18 => k_is)
    (case c18 => k_is)
    (case k18 => k_is)
    (case z_abs => k_is)
    (case z_enumerate => k_is)
    (case z_len => k_is)
    (case z_list => k_is)
    (case z_max => k_is)
    (case z_min => k_is)
    (case z_range => k_is)
    (case z_sorted => k_is)

