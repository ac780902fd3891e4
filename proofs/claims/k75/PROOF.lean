import PyProof.Rows.All
import Wide.All
import OpenK.AllK
import Wide.FinOn
import Lean
import PyProof.EqAt
import PyProof.EqKinds
import PyProof.TupleCall
import KE.KTryMore
import KE.KMinKey
import PyProof.Rows.Range3
import PySem.Challenge.RW_branchdepth_k75_texts_of_no_polynomial
set_option Elab.async false
set_option linter.all false
set_option maxRecDepth 100000
namespace L2
open PySem PySem.Spec PyProof.Rows
abbrev Key := Sum Int Str
def keyIs : Key → Value → Bool
  | .inl k, v => Value.isInt k v
  | .inr x, v => Value.isStrOf x v
def keyH (w : World) : Key → Int
  | .inl k => hashInt k
  | .inr x => hashStr w x
theorem keyIs_shape : ∀ {k : Key} {v : Value}, keyIs k v = true → (∃ i t, k = Sum.inl i ∧ v = Value.int i t) ∨ (∃ x t, k = Sum.inr x ∧ v = Value.str x t)
  | .inl i, v, h => by
    obtain ⟨t, e⟩ := Value.isInt_shape (k := i) (v := v) h
    exact .inl ⟨i, t, rfl, e⟩
  | .inr x, v, h => by
    obtain ⟨t, e⟩ := Value.isStrOf_shape (x := x) (v := v) h
    exact .inr ⟨x, t, rfl, e⟩
theorem key_ll (a b : Int) : decide ((Sum.inl a : Key) = Sum.inl b) = (a == b) := by
  by_cases e : a = b
  · subst e; simp
  · have h : ¬ (Sum.inl a : Key) = Sum.inl b := fun q => e (Sum.inl.inj q)
    rw [decide_eq_false h]
    exact (beq_eq_false_iff_ne.mpr e).symm
theorem key_rr (a b : Str) : decide ((Sum.inr a : Key) = Sum.inr b) = decide (a = b) := by
  by_cases e : a = b
  · subst e; simp
  · have h : ¬ (Sum.inr a : Key) = Sum.inr b := fun q => e (Sum.inr.inj q)
    rw [decide_eq_false h, decide_eq_false e]
theorem key_lr (a : Int) (b : Str) : decide ((Sum.inl a : Key) = Sum.inr b) = false := decide_eq_false (fun q => nomatch q)
theorem key_rl (a : Str) (b : Int) : decide ((Sum.inr a : Key) = Sum.inl b) = false := decide_eq_false (fun q => nomatch q)
def mixKind (prog : Program) (w : World) : PySem.KeyKind prog w Key where
  is := keyIs
  hash := keyH w
  inj := fun v a b ha hb => by
    rcases keyIs_shape ha with ⟨i, t, rfl, rfl⟩ | ⟨x, t, rfl, rfl⟩
    · rcases keyIs_shape hb with ⟨j, u, rfl, e⟩ | ⟨y, u, rfl, e⟩
      · injection e with e1 _; rw [e1]
      · exact nomatch e
    · rcases keyIs_shape hb with ⟨j, u, rfl, e⟩ | ⟨y, u, rfl, e⟩
      · exact nomatch e
      · injection e with e1 _; rw [e1]
  byValue := fun k v h => by
    rcases keyIs_shape h with ⟨i, t, rfl, rfl⟩ | ⟨x, t, rfl, rfl⟩ <;> rfl
  pyHash := fun hv h => by
    rcases keyIs_shape hv with ⟨i, t, rfl, rfl⟩ | ⟨x, t, rfl, rfl⟩
    · exact wpAny_pyHash_int h
    · exact wpAny_pyHash_str h
  eqBool := fun hu hv h => by
    rcases keyIs_shape hu with ⟨i, t, rfl, rfl⟩ | ⟨x, t, rfl, rfl⟩
    · rcases keyIs_shape hv with ⟨j, u, rfl, rfl⟩ | ⟨y, u, rfl, rfl⟩
      · rw [key_ll] at h; exact wpAny_eqBool_int h
      · rw [key_lr] at h; exact SeqAt.EqAt.int_str i t y u _ _ _ _ h
    · rcases keyIs_shape hv with ⟨j, u, rfl, rfl⟩ | ⟨y, u, rfl, rfl⟩
      · rw [key_rl] at h; exact SeqAt.EqAt.str_int x t j u _ _ _ _ h
      · rw [key_rr] at h; exact wpAny_eqBool_str h
  «strs» := fun k x t v h => by
    rcases keyIs_shape h with ⟨i, u, rfl, e⟩ | ⟨y, u, rfl, e⟩
    · exact nomatch e
    · injection e with e1 _
      subst e1
      cases v <;> rfl
end L2
namespace L2
open PySem PySem.Spec PyProof.Rows
inductive V where
  | non | bl (b : Bool) | int (i : Int) | str (x : Str) | byt (b : Array UInt8) | flt (b : UInt64) | ref (a : Addr) | ty (n : String)
  deriving DecidableEq
def RelV : V → Value → Prop
  | .non, u => u = Value.none
  | .bl b, u => u = Value.bool b
  | .int i, u => ∃ t, u = Value.int i t
  | .str x, u => ∃ t, u = Value.str x t
  | .byt b, u => ∃ t, u = Value.bytes b t
  | .flt b, u => ∃ t, u = Value.float b t
  | .ref a, u => u = Value.ref a
  | .ty n, u => u = Value.type n
abbrev Vals : List V → List Value → Prop := Paired RelV
theorem Vals.length {xs : List V} {us : List Value} (r : Vals xs us) : xs.length = us.length := Paired.length r
theorem Vals.get : ∀ {xs : List V} {us : List Value} {i : Nat} {x : V}, Vals xs us → xs[i]? = some x → ∃ u, us[i]? = some u ∧ RelV x u
  | _, _, _, _, .nil, e => by simp at e
  | _, _, 0, _, .cons r _, e => by simp at e; subst e; exact ⟨_, rfl, r⟩
  | _, _, i + 1, x, .cons _ t, e => by
    obtain ⟨u, h1, h2⟩ := Vals.get (i := i) (x := x) t (by simpa using e)
    exact ⟨u, by simpa using h1, h2⟩
theorem Vals.set {x : V} {u : Value} (r : RelV x u) : ∀ {xs : List V} {us : List Value} (i : Nat), Vals xs us → Vals (xs.set i x) (us.set i u)
  | _, _, _, .nil => .nil
  | _, _, 0, .cons _ t => .cons r t
  | _, _, i + 1, .cons q t => .cons q (Vals.set r i t)
theorem Vals.append : ∀ {xs ys : List V} {us ws : List Value}, Vals xs us → Vals ys ws → Vals (xs ++ ys) (us ++ ws)
  | _, _, _, _, .nil, s => s
  | _, _, _, _, .cons r t, s => .cons r (Vals.append t s)
theorem Vals.take : ∀ {xs : List V} {us : List Value} (n : Nat), Vals xs us → Vals (xs.take n) (us.take n)
  | _, _, 0, _ => .nil
  | _, _, _ + 1, .nil => .nil
  | _, _, n + 1, .cons r t => .cons r (Vals.take n t)
theorem Vals.drop : ∀ {xs : List V} {us : List Value} (n : Nat), Vals xs us → Vals (xs.drop n) (us.drop n)
  | _, _, 0, r => r
  | _, _, _ + 1, .nil => .nil
  | _, _, n + 1, .cons _ t => Vals.drop n t
def RelO : Option V → Option Value → Prop
  | some v, some u => RelV v u
  | none, none => True
  | _, _ => False
def KV {κ : Type} : List (κ × V) → List (κ × Value) → Prop := Paired fun (p : κ × V) (q : κ × Value) => p.1 = q.1 ∧ RelV p.2 q.2
def kV : Key → V
  | .inl i => .int i
  | .inr x => .str x
inductive HO where
  /-- a list -/
  | lst (xs : List V)
  /-- a tuple (never changes) -/
  | tup (xs : List V)
  /-- a dict whose keys are ints and texts; one whose keys are tuples of ints and texts (the empty one is both) -/
  | dK (kvs : List (Key × V)) | dT (kvs : List (List Key × V))
  /-- a set of ints: its members, its size -/
  | set (S : Int → Bool) (n : Nat)
  /-- an instance of the class at C, its dict at dx, its attributes -/
  | ins (C dx : Addr) (fs : List (Str × V))
  /-- the dict of the instance at x -/
  | own (x : Addr)
  /-- the dict of an exception -/
  | xd (fs : List (Str × V))
  /-- a bound method, f of x -/
  | met (f x : Addr)
  /-- a range object lo, lo + 1, .. below hi -/
  | rng (lo hi : Int)
  /-- a thing that is known to the object (the script; a dict while a loop walks it): read, never written while it is so -/
  | frz (o : Obj) (u : HO)
  /-- a code object's table -/
  | tbl (ps : Array Value)
  /-- any other thing, by what is true of its one object (a def of one's own: SetO a S n := HO.ext fun h => ..) -/
  | ext (φ : Heap → Prop)
abbrev Hp := Addr → Option HO
def upd (H : Hp) (a : Addr) (o : HO) : Hp := fun b => if b = a then some o else H b
theorem upd_same {H : Hp} {a : Addr} {o : HO} : upd H a o a = some o := by unfold upd; rw [if_pos rfl]
theorem upd_ne {H : Hp} {a b : Addr} {o : HO} (h : b ≠ a) : upd H a o b = H b := by unfold upd; rw [if_neg h]
theorem ne_of_none {H : Hp} {a b : Addr} {o : HO} (h : H a = some o) (h' : H b = none) : a ≠ b := by
  intro e; subst e; rw [h] at h'; cases h'
section
variable (P : Program) (w : World)
def ObjOk (H : Hp) (h : Heap) (a : Addr) : HO → Prop
  | .lst xs => xs.length ≤ sizeLine ∧ ∃ (its : List Value) (n : Nat), Vals xs its ∧ h.get? a = some { cls := .type "list", data := .seq its.toArray n }
  | .tup xs => xs.length ≤ sizeLine ∧ ∃ its : List Value, Vals xs its ∧ IsTup h a its.toArray
  | .dK kvs => kvs.length ≤ sizeLine ∧ (a == sysModules) = false ∧ ∃ vs, KV kvs vs ∧ h.DictOf (mixKind P w) a vs
  | .dT kvs => kvs.length ≤ sizeLine ∧ (a == sysModules) = false ∧ ∃ xs : List (List Key × Addr × Value),
      Paired (fun (p : List Key × V) (q : List Key × Addr × Value) => p.1 = q.1 ∧ H q.2.1 = some (.tup (p.1.map kV)) ∧ RelV p.2 q.2.2) kvs xs ∧
      ∃ o es ep, h.get? a = some o ∧ o.ExactDict ∧ o.data = .dict es ep ∧ es.toList = xs.map (entryOfKey (tupleKind (mixKind P w))) ∧ (xs.map (·.1)).Nodup
  | .set S n => h.SetOf (intKind P w) a S n
  | .ins C dx fs => H dx = some (.own a) ∧ fs.length ≤ 1000 ∧ dx ≠ a ∧ h.get? a = some (PySem.W.instObj C dx) ∧
      ∃ mA, h.Ns1 dx mA ∧ (∀ f, RelO (fs.lookup f) (mA f)) ∧ PySem.Within mA (fs.map (·.1))
  | .own _ => ∃ o, h.get? a = some o
  | .xd fs => ∃ mA, h.Ns1 a mA ∧ ∀ f, RelO (fs.lookup f) (mA f)
  | .rng lo hi => ∃ t u v, h.get? a = some { cls := .type "range", data := .fields #[.int lo t, .int hi u, .int 1 v] }
  | .frz o u => h.get? a = some o ∧ ObjOk H h a u
  | .tbl ps => h.get? a = some { cls := .none, data := .fields ps }
  | .met f x => h.get? a = some (PySem.W.methodObj (.ref f) (.ref x))
  | .ext φ => φ h ∧ (∃ o, h.get? a = some o) ∧ ∀ h1 h2 : Heap, φ h1 → (∀ o, h1.get? a = some o → h2.get? a = some o) → φ h2
def HOk (H : Hp) (h : Heap) : Prop := ∀ a o, H a = some o → ObjOk P w H h a o
end
section
variable {P : Program} {w : World} {H H' : Hp} {h h' : Heap} {a : Addr} {o : HO}
theorem ObjOk.lt (x : ObjOk P w H h a o) : a < h.objs.size := by
  cases o with
  | lst xs => obtain ⟨_, _, _, _, e⟩ := x; exact Heap.lt_size e
  | tup xs => obtain ⟨_, _, _, p⟩ := x; exact p.lt
  | dK kvs => obtain ⟨_, _, _, _, o, _, _, e, _⟩ := x; exact Heap.lt_size e
  | dT kvs => obtain ⟨_, _, _, _, o, _, _, e, _⟩ := x; exact Heap.lt_size e
  | set S n => obtain ⟨o, _, _, _, e, _⟩ := x; exact Heap.lt_size e
  | ins C dx fs => obtain ⟨_, _, _, e, _⟩ := x; exact Heap.lt_size e
  | own y => obtain ⟨_, e⟩ := x; exact Heap.lt_size e
  | xd fs => obtain ⟨_, ⟨_, _, _, e, _⟩, _⟩ := x; exact Heap.lt_size e
  | rng lo hi => obtain ⟨_, _, _, e⟩ := x; exact Heap.lt_size e
  | frz ob u => obtain ⟨e, _⟩ := x; exact Heap.lt_size e
  | tbl ps => exact Heap.lt_size (show h.get? a = some _ from x)
  | met f y => exact Heap.lt_size (show h.get? a = some _ from x)
  | ext φ => obtain ⟨_, ⟨_, e⟩, _⟩ := x; exact Heap.lt_size e
theorem Paired.mapP {α β : Type} {F G : α → β → Prop} : ∀ {l₁ : List α} {l₂ : List β}, Paired F l₁ l₂ → (∀ a b, F a b → G a b) → Paired G l₁ l₂
  | _, _, .nil, _ => .nil
  | _, _, .cons r t, f => .cons (f _ _ r) (Paired.mapP t f)
theorem ObjOk.stay (x : ObjOk P w H h a o) (k : ∀ b u, (b = a ∨ H b = some (.own a)) → h.get? b = some u → h'.get? b = some u)
    (ho : ∀ b, H b = some (.own a) → H' b = some (.own a)) (ht : ∀ b xs, H b = some (.tup xs) → H' b = some (.tup xs)) : ObjOk P w H' h' a o := by
  induction o with
  | lst xs => obtain ⟨z, its, n, r, e⟩ := x; exact ⟨z, its, n, r, k _ _ (.inl rfl) e⟩
  | tup xs => obtain ⟨z, its, r, ob, e, c⟩ := x; exact ⟨z, its, r, ob, k _ _ (.inl rfl) e, c⟩
  | dK kvs => obtain ⟨z, y, vs, r, ob, es, ep, e, c⟩ := x; exact ⟨z, y, vs, r, ob, es, ep, k _ _ (.inl rfl) e, c⟩
  | dT kvs =>
    obtain ⟨z, y, xs, r, ob, es, ep, e, c⟩ := x
    exact ⟨z, y, xs, Paired.mapP r fun p q z => ⟨z.1, ht _ _ z.2.1, z.2.2⟩, ob, es, ep, k _ _ (.inl rfl) e, c⟩
  | set S n => obtain ⟨ob, es, ep, t, e, c⟩ := x; exact ⟨ob, es, ep, t, k _ _ (.inl rfl) e, c⟩
  | ins C dx fs =>
    obtain ⟨d, z, ne, e, mA, ⟨od, es, ep, e2, c⟩, r⟩ := x
    exact ⟨ho _ d, z, ne, k _ _ (.inl rfl) e, mA, ⟨od, es, ep, k _ _ (.inr d) e2, c⟩, r⟩
  | own y => obtain ⟨ob, e⟩ := x; exact ⟨ob, k _ _ (.inl rfl) e⟩
  | xd fs => obtain ⟨mA, ⟨od, es, ep, e, c⟩, r⟩ := x; exact ⟨mA, ⟨od, es, ep, k _ _ (.inl rfl) e, c⟩, r⟩
  | rng lo hi => obtain ⟨t, u, v, e⟩ := x; exact ⟨t, u, v, k _ _ (.inl rfl) e⟩
  | frz ob u ih => obtain ⟨e, q⟩ := x; exact ⟨k _ _ (.inl rfl) e, ih q⟩
  | tbl ps =>
    have e : h.get? a = some { cls := .none, data := .fields ps } := x
    show h'.get? a = some { cls := .none, data := .fields ps }
    exact k a _ (.inl rfl) e
  | met f y =>
    have e : h.get? a = some (PySem.W.methodObj (.ref f) (.ref y)) := x
    show h'.get? a = some (PySem.W.methodObj (.ref f) (.ref y))
    exact k a _ (.inl rfl) e
  | ext φ => obtain ⟨p, ⟨o, e⟩, st⟩ := x; exact ⟨st _ _ p fun o q => k _ _ (.inl rfl) q, ⟨o, k _ _ (.inl rfl) e⟩, st⟩
theorem HOk.lt (x : HOk P w H h) (e : H a = some o) : a < h.objs.size := (x a o e).lt
theorem HOk.fresh (x : HOk P w H h) (e : h.objs.size ≤ a) : H a = none := by
  cases q : H a with
  | none => rfl
  | some u => exact absurd (Nat.lt_of_lt_of_le (x.lt q) e) (Nat.lt_irrefl _)
theorem HOk.kept (x : HOk P w H h) (k : ∀ b u, h.get? b = some u → h'.get? b = some u) : HOk P w H h' := fun a o e =>
  (x a o e).stay (fun b u _ q => k b u q) (fun _ q => q) fun _ _ q => q
theorem HOk.laid (x : HOk P w H h) (k : ∀ b u, h.get? b = some u → h'.get? b = some u) (hp : h.objs.size ≤ a) (new : ObjOk P w (upd H a o) h' a o) : HOk P w (upd H a o) h' := fun b u e => by
  have hn := x.fresh hp
  by_cases hb : b = a
  · subst hb; rw [upd_same] at e; cases e; exact new
  · rw [upd_ne hb] at e
    exact (x b u e).stay (fun c v _ q => k c v q) (fun c q => by rw [upd_ne (ne_of_none q hn)]; exact q) fun c xs q => by rw [upd_ne (ne_of_none q hn)]; exact q
end
def Rd (H : Hp) (a : Addr) (u : HO) : Prop := H a = some u ∨ ∃ o, H a = some (.frz o u)
theorem Rd.ok {P : Program} {w : World} {H : Hp} {h : Heap} {a : Addr} {u : HO} (r : Rd H a u) (x : HOk P w H h) : ObjOk P w H h a u := by
  rcases r with r | ⟨o, r⟩
  · exact x a u r
  · obtain ⟨_, q⟩ := x a _ r
    exact q
def Mut : Option HO → Prop
  | some (.lst _) => True
  | some (.dK _) => True
  | some (.dT _) => True
  | some (.set _ _) => True
  | some (.ins _ _ _) => True
  | some (.ext _) => True
  | _ => False
section
variable {P : Program} {w : World} {H : Hp} {h h' : Heap} {x e : Addr} {o' : HO}
theorem HOk.write (ok : HOk P w H h) (mu : Mut (H x)) (he : e = x ∨ H e = some (.own x)) (k : ∀ b u, b ≠ e → h.get? b = some u → h'.get? b = some u) (heo : ∃ u, h'.get? e = some u)
    (new : ObjOk P w (upd H x o') h' x o') : HOk P w (upd H x o') h' := fun b u q => by
  have nown : ∀ c y, H c = some (.own y) → c ≠ x := fun c y r z => by subst z; rw [r] at mu; exact mu
  have ntup : ∀ c xs, H c = some (.tup xs) → c ≠ x := fun c xs r z => by subst z; rw [r] at mu; exact mu
  by_cases hb : b = x
  · subst hb; rw [upd_same] at q; cases q; exact new
  · rw [upd_ne hb] at q
    by_cases hbe : b = e
    · have q' : H b = some (.own x) := by
        rcases he with z | z
        · exact absurd (hbe.trans z) hb
        · rw [hbe]; exact z
      rw [q] at q'; cases q'
      obtain ⟨v, hv⟩ := heo
      exact ⟨v, by rw [hbe]; exact hv⟩
    · refine (ok b u q).stay (fun c v hc r => k c v ?_ r) (fun c r => by rw [upd_ne (nown c b r)]; exact r) fun c xs r => by rw [upd_ne (ntup c xs r)]; exact r
      rcases hc with rfl | hc
      · exact hbe
      · rintro rfl
        rcases he with z | z
        · exact nown c b hc z
        · rw [hc] at z; cases z; exact hb rfl
end
structure Un (fs ex : List Addr) (H H' : Hp) (h h' : Heap) : Prop where
  keep : ∀ b o, h.get? b = some o → H b = none → b ∉ fs → b ∉ ex → h'.get? b = some o
  slot : ∀ b o, h.get? b = some o → H b = none → b ∈ fs → b ∉ ex → ∃ sl, h'.get? b = some { o with slots := sl }
  free : ∀ b o, h.get? b = some o → H b = none → b ∉ ex → H' b = none
  there : ∀ b o, h.get? b = some o → b ∉ ex → ∃ o', h'.get? b = some o'
  tups : ∀ b xs, H b = some (.tup xs) → H' b = some (.tup xs)
  frzs : ∀ b o u, H b = some (.frz o u) → H' b = some (.frz o u)
  tbls : ∀ b ps, H b = some (.tbl ps) → ∃ more, H' b = some (.tbl (ps ++ more))
section
variable {fs fs' ex ex' : List Addr} {H H1 H2 : Hp} {h h1 h2 h' : Heap} {a x e : Addr} {o : HO}
theorem Un.any (u : Un fs ex H H1 h h1) {b : Addr} {ob : Obj} (q : h.get? b = some ob) (n : H b = none) (hx : b ∉ ex) : ∃ sl, h1.get? b = some { ob with slots := sl } := by
  by_cases hb : b ∈ fs
  · exact u.slot b ob q n hb hx
  · exact ⟨ob.slots, u.keep b ob q n hb hx⟩
theorem Un.kept (k : ∀ b u, h.get? b = some u → h'.get? b = some u) : Un fs ex H H h h' :=
  ⟨fun b ob q _ _ _ => k b ob q, fun b ob q _ _ _ => ⟨ob.slots, k b ob q⟩, fun _ _ _ n _ => n, fun b ob q _ => ⟨ob, k b ob q⟩, fun _ _ q => q, fun _ _ _ q => q, fun _ ps q => ⟨#[], by rw [q]; simp⟩⟩
theorem Un.refl : Un fs ex H H h h := Un.kept fun _ _ q => q
theorem Un.laid (k : ∀ b u, h.get? b = some u → h'.get? b = some u) (hp : h.objs.size ≤ a) (hn : H a = none) : Un fs ex H (upd H a o) h h' where
  keep := fun b u q _ _ _ => k b u q
  slot := fun b u q _ _ _ => ⟨u.slots, k b u q⟩
  free := fun b u q n _ => by rw [upd_ne (Nat.ne_of_lt (Nat.lt_of_lt_of_le (Heap.lt_size q) hp))]; exact n
  there := fun b u q _ => ⟨u, k b u q⟩
  tups := fun b xs q => by rw [upd_ne (ne_of_none q hn)]; exact q
  frzs := fun b u xs q => by rw [upd_ne (ne_of_none q hn)]; exact q
  tbls := fun b ps q => ⟨#[], by rw [upd_ne (ne_of_none q hn), q]; simp⟩
theorem Un.write (mu : Mut (H x)) (he : e = x ∨ H e = some (.own x)) (k : ∀ b u, b ≠ e → h.get? b = some u → h'.get? b = some u) (heo : ∃ u, h'.get? e = some u) : Un fs ex H (upd H x o) h h' := by
  have hx : ∀ b, H b = none → b ≠ x := fun b n z => by subst z; rw [n] at mu; exact mu
  have hb : ∀ b, H b = none → b ≠ e := fun b n z => by
    subst z
    rcases he with r | r
    · exact hx b n r
    · rw [n] at r; cases r
  have hm : ∀ b u, H b = some u → ¬ Mut (some u) → b ≠ x := fun b u q nm z => by subst z; rw [q] at mu; exact nm mu
  refine ⟨fun b u q n _ _ => k b u (hb b n) q, fun b u q n _ _ => ⟨u.slots, k b u (hb b n) q⟩, fun b u q n _ => by rw [upd_ne (hx b n)]; exact n, fun b u q _ => ?_,
    fun b xs q => by rw [upd_ne (hm b _ q fun z => z)]; exact q, fun b u xs q => by rw [upd_ne (hm b _ q fun z => z)]; exact q, fun b ps q => ⟨#[], by rw [upd_ne (hm b _ q fun z => z), q]; simp⟩⟩
  by_cases hbe : b = e
  · subst hbe; exact heo
  · exact ⟨u, k b u hbe q⟩
end
def trk (h : Heap) (H : Hp) : List Addr := (List.range h.objs.size).filter fun a => (H a).isSome
def hidT (h : Heap) (H : Hp) : Heap := PySem.W.hideAll h (trk h H)
theorem hidT_size (h : Heap) (H : Hp) : (hidT h H).objs.size = h.objs.size := PySem.W.hideAll_size _ _
theorem hidT_get {h : Heap} {H : Hp} {b : Addr} {o : Obj} (e : h.get? b = some o) (n : H b = none) : (hidT h H).get? b = some o :=
  PySem.W.hideAll_get _ e fun hm => by
    have q : (H b).isSome = true := (List.mem_filter.mp hm).2
    rw [n] at q; simp at q
theorem of_hidT {h : Heap} {H : Hp} {b : Addr} {o : Obj} (e : (hidT h H).get? b = some o) : h.get? b = some o ∧ H b = none := by
  have e' : h.get? b = some o := PySem.W.of_hideAll (trk h H) e
  refine ⟨e', ?_⟩
  cases q : H b with
  | none => rfl
  | some x =>
    have hm : b ∈ trk h H := List.mem_filter.mpr ⟨List.mem_range.mpr (Heap.lt_size e'), by simp [q]⟩
    have z : (hidT h H).get? b = none := PySem.W.hideAll_none (trk h H) hm
    rw [z] at e; cases e
def allNews (g h : Heap) (L : Addr) : List (Addr × Obj) := (List.range h.objs.size).filterMap fun a => if a = L ∨ (g.get? a).isSome = true then none else (h.get? a).map fun o => (a, o)
def rest (g h : Heap) (L d : Addr) : List (Addr × Obj) := (allNews g h L).filter fun p => decide (p.1 ≠ d)
end L2
namespace L2
open PySem PySem.Spec PyProof.Rows
structure Mod (K : PySem.W.Frag) (mg : Str → Option Value) (base : Heap) : Prop where
  kin : K.In base
  glob : base.Ns mainGlobals mg
  blt : ∃ mb, base.Ns builtinsNs mb ∧ ∀ x : Str, x ≠ "__name__" → mb x = bootBuiltins x
  nolimit : base.NoLimit
structure Cx where
  prog : Program
  w : World
  K : PySem.W.Frag
  mg : Str → Option Value
  base : Heap
  A : Around
  N : List Str
  s₀ : Shared
  H₀ : Hp
  env : Env
  outer : List Env
  stack : List Env
  ex : List Addr
  fn : Str → Bool
  calm : Bool
  pn : List (Addr × Obj)
  xe : Value → Shared → Prop
def frs (l : List Env) : List Addr := l.filterMap (·.frame)
abbrev Cx.fs (X : Cx) : List Addr := frs X.outer
def Vis (sc : Scope) (x : Str) : Prop := sc.names.lookup x = some .local ∨ sc.names.lookup x = some .cell ∨ sc.names.lookup x = some .free
def Loc (sc : Scope) (x : Str) : Prop := sc.names.lookup x = some .local ∨ sc.names.lookup x = some .cell
def Look (env : Env) (h : Heap) (m : Str → Option Value) (x : Str) (u : Value) : Prop :=
  (env.kindOf x = some .local ∧ m x = some u) ∨ ((env.kindOf x = some .cell ∨ env.kindOf x = some .free) ∧ ∃ c, env.cells.lookup x = some c ∧ h.IsCell c (some u))
structure Cx.Ok (X : Cx) : Prop where
  mod : Mod X.K X.mg X.base
  kind : X.env.scope.kind = .function
  glob : X.env.globals = mainGlobals
  blt : X.env.builtins = builtinsNs
  above : X.s₀.heap.objs.size ≤ X.env.locals
  inj : ∀ x y c, X.env.cells.lookup x = some c → X.env.cells.lookup y = some c → x = y
  has : ∀ x, (X.env.kindOf x = some .cell ∨ X.env.kindOf x = some .free) → ∃ c, X.env.cells.lookup x = some c
  cab : ∀ x c, X.fn x = true → X.env.cells.lookup x = some c → X.s₀.heap.objs.size ≤ c
  hd : X.calm = true → X.A.handled = none
  frames : X.A.frames = some X.stack
  stk : X.stack = X.outer ∨ (X.stack = X.env :: X.outer ∧ X.env.frame = some X.env.locals)
  exf : ∀ b ∈ X.ex, b ≠ X.env.locals ∧ ∀ x c, X.env.cells.lookup x = some c → c ≠ b
  bs : ∀ b o, X.base.get? b = some o → X.s₀.heap.get? b = some o ∧ X.H₀ b = none
  bsz : X.base.objs.size ≤ X.s₀.heap.objs.size
  noex : ∀ b o, X.base.get? b = some o → b ∉ X.ex
  exfs : ∀ b ∈ X.ex, b ∉ X.fs
  funs : X.s₀.heap.FunFrames X.base X.outer
  frf : ∀ b ∈ X.fs, X.H₀ b = none
structure Inv (X : Cx) (pins : List (Addr × Obj)) (σ : List (Option V)) (H : Hp) (s : Shared) : Prop where
  ok : X.Ok
  os : s.os = X.s₀.os
  bare : AllBare s.gens
  base : Un X.fs X.ex X.H₀ H X.s₀.heap s.heap
  loc : ∃ m, s.heap.Ns X.env.locals m ∧ ∀ (i : Nat) (x : Str) (v : V), X.N[i]? = some x → σ[i]? = some (some v) → Vis X.env.scope x → ∃ u, RelV v u ∧ Look X.env s.heap m x u
  cell : ∀ x c, X.env.cells.lookup x = some c → ∃ v, s.heap.IsCell c v
  free : H X.env.locals = none
  freeC : ∀ x c, X.env.cells.lookup x = some c → H c = none
  pin : ∀ p ∈ X.pn ++ pins, s.heap.get? p.1 = some p.2 ∧ H p.1 = none ∧ p.1 ≠ X.env.locals ∧ p.1 ∉ X.fs ∧ ∀ v, p.2.data ≠ .cell v
  hok : HOk X.prog X.w H s.heap
  len : σ.length = X.N.length
section
variable {X : Cx} {pins : List (Addr × Obj)} {σ : List (Option V)} {H H' : Hp} {s : Shared} {h' : Heap}
theorem Cx.Ok.nofr (ok : X.Ok) {b : Addr} {o : Obj} (e : X.base.get? b = some o) : b ∉ X.fs := fun hb => by
  have := (ok.funs.mem hb).1
  rw [e] at this; cases this
theorem Inv.bs (I : Inv X pins σ H s) : ∀ b o, X.base.get? b = some o → s.heap.get? b = some o ∧ H b = none := fun b o e =>
  ⟨I.base.keep b o (I.ok.bs b o e).1 (I.ok.bs b o e).2 (I.ok.nofr e) (I.ok.noex b o e), I.base.free b o (I.ok.bs b o e).1 (I.ok.bs b o e).2 (I.ok.noex b o e)⟩
theorem Inv.bk (I : Inv X pins σ H s) : ∀ b o, X.base.get? b = some o → s.heap.get? b = some o := fun b o e => (I.bs b o e).1
theorem Inv.mod (I : Inv X pins σ H s) : Mod X.K X.mg X.base := I.ok.mod
theorem Inv.kIn (I : Inv X pins σ H s) : X.K.In s.heap := I.ok.mod.kin.keeps I.bk
theorem Inv.lt (I : Inv X pins σ H s) : X.env.locals < s.heap.objs.size := let ⟨_, hn, _⟩ := I.loc; hn.lt
theorem Inv.sz (I : Inv X pins σ H s) : X.s₀.heap.objs.size ≤ s.heap.objs.size := Nat.le_trans I.ok.above (Nat.le_of_lt I.lt)
theorem Inv.nofs (I : Inv X pins σ H s) {a : Addr} (h : s.heap.objs.size ≤ a) : a ∉ X.fs := fun hb => by
  obtain ⟨_, o, ho, _⟩ := I.ok.funs.mem hb
  exact absurd (Nat.lt_of_lt_of_le (Heap.lt_size ho) (Nat.le_trans I.sz h)) (Nat.lt_irrefl _)
theorem Inv.cne (I : Inv X pins σ H s) : ∀ x c, X.env.cells.lookup x = some c → c ≠ X.env.locals := fun x c e z => by
  obtain ⟨v, o, ho, hd⟩ := I.cell x c e
  obtain ⟨m, ⟨o', es, ep, ho', hd', _⟩, _⟩ := I.loc
  rw [z, ho'] at ho; cases ho; rw [hd'] at hd; cases hd
theorem Inv.funs (I : Inv X pins σ H s) : s.heap.FunFrames X.base X.outer := by
  have all : ∀ (l : List Env), (∀ b ∈ frs l, b ∈ X.fs) → X.s₀.heap.FunFrames X.base l → s.heap.FunFrames X.base l := by
    intro l
    induction l with
    | nil => intro _ _; trivial
    | cons env r ih =>
      intro hs hl
      obtain ⟨hk, ⟨L, o, hf, hn, ho, hd⟩, hr⟩ := hl
      have hL : L ∈ X.fs := hs L (by unfold frs; rw [List.filterMap_cons, hf]; exact List.mem_cons_self)
      obtain ⟨sl, e⟩ := I.base.slot L o ho (I.ok.frf L hL) hL fun z => I.ok.exfs L z hL
      exact ⟨hk, ⟨L, _, hf, hn, e, hd⟩, ih (fun b hb => hs b (by unfold frs; rw [List.filterMap_cons, hf]; exact List.mem_cons_of_mem _ hb)) hr⟩
  exact all X.outer (fun _ hb => hb) I.ok.funs
theorem Inv.stack (I : Inv X pins σ H s) : s.heap.FunFrames X.base X.stack := by
  rcases I.ok.stk with e | ⟨e, hf⟩
  · rw [e]; exact I.funs
  · rw [e]
    obtain ⟨m, hn, _⟩ := I.loc
    refine .cons (by rw [I.ok.kind]; decide) hf hn ?_ I.funs
    exact Heap.get?_none_of_le (Nat.le_trans I.ok.bsz I.ok.above)
theorem Inv.stkSub (I : Inv X pins σ H s) : ∀ b ∈ frs X.stack, b ∈ X.env.locals :: X.fs := fun b hb => by
  rcases I.ok.stk with e | ⟨e, hf⟩
  · rw [e] at hb; exact List.mem_cons_of_mem _ hb
  · rw [e] at hb
    unfold frs at hb
    rw [List.filterMap_cons, hf] at hb
    exact hb
theorem Inv.stkFree (I : Inv X pins σ H s) : ∀ b ∈ frs X.stack, H b = none := fun b hb => by
  rcases List.mem_cons.mp (I.stkSub b hb) with e | hb
  · rw [e]; exact I.free
  · obtain ⟨_, o, ho, _⟩ := I.ok.funs.mem hb
    exact I.base.free b o ho (I.ok.frf b hb) fun z => I.ok.exfs b z hb
theorem Inv.step {g' : Array GenState} {t' : Nat} {d' : Drawn} {ch : List Addr} (I : Inv X pins σ H s)
    (hch : ∀ b ∈ ch, (b ∈ X.ex ∨ X.s₀.heap.objs.size ≤ b) ∧ b ≠ X.env.locals ∧ (∀ x c, X.env.cells.lookup x = some c → c ≠ b) ∧ ∀ p ∈ X.pn ++ pins, p.1 ≠ b)
    (keep : ∀ b o, b ≠ X.env.locals → b ∉ X.fs → b ∉ ch → s.heap.get? b = some o → H b = none → h'.get? b = some o)
    (slot : ∀ b o, b ≠ X.env.locals → b ∈ X.fs → b ∉ ch → s.heap.get? b = some o → H b = none → ∃ sl, h'.get? b = some { o with slots := sl }) (free : ∀ b o, b ∉ ch → s.heap.get? b = some o → H b = none → H' b = none)
    (there : ∀ b o, b ∉ ch → s.heap.get? b = some o → ∃ o', h'.get? b = some o')
    (tups : ∀ b xs, H b = some (.tup xs) → H' b = some (.tup xs)) (frzs : ∀ b o u, H b = some (.frz o u) → H' b = some (.frz o u)) (tbls : ∀ b ps, H b = some (.tbl ps) → ∃ more, H' b = some (.tbl (ps ++ more)))
    (ns : ∀ m, s.heap.Ns X.env.locals m → h'.Ns X.env.locals m) (hok : HOk X.prog X.w H' h') (hg : AllBare g') :
    Inv X pins σ H' { s with heap := h', gens := g', drawn := d', toks := t' } := by
  have neL : ∀ b o, X.s₀.heap.get? b = some o → b ≠ X.env.locals := fun b o e => Nat.ne_of_lt (Nat.lt_of_lt_of_le (Heap.lt_size e) I.ok.above)
  have neC : ∀ b o, X.s₀.heap.get? b = some o → b ∉ X.ex → b ∉ ch := fun b o e hx hb => by
    rcases (hch b hb).1 with z | z
    · exact hx z
    · exact absurd (Nat.lt_of_lt_of_le (Heap.lt_size e) z) (Nat.lt_irrefl _)
  have cellK : ∀ x c, X.env.cells.lookup x = some c → ∀ v, s.heap.IsCell c v → h'.IsCell c v := fun x c e v ⟨o, ho, hd⟩ => by
    have nch : c ∉ ch := fun z => (hch c z).2.2.1 x c e rfl
    by_cases hc : c ∈ X.fs
    · obtain ⟨sl, q⟩ := slot c o (I.cne x c e) hc nch ho (I.freeC x c e)
      exact ⟨_, q, hd⟩
    · exact ⟨o, keep c o (I.cne x c e) hc nch ho (I.freeC x c e), hd⟩
  refine ⟨I.ok, I.os, hg, ⟨fun b o e n hb hx => ?_, fun b o e n hb hx => ?_, fun b o e n hx => ?_, fun b o e hx => ?_, fun b xs e => tups b xs (I.base.tups b xs e), fun b o xs e => frzs b o xs (I.base.frzs b o xs e), fun b ps e => ?_⟩, ?_, fun x c e => ?_, ?_, fun x c e => ?_, fun p hp => ?_, hok, I.len⟩
  · exact keep b o (neL b o e) hb (neC b o e hx) (I.base.keep b o e n hb hx) (I.base.free b o e n hx)
  · obtain ⟨sl, e1⟩ := I.base.slot b o e n hb hx
    obtain ⟨sl', e2⟩ := slot b _ (neL b o e) hb (neC b o e hx) e1 (I.base.free b o e n hx)
    exact ⟨sl', e2⟩
  · obtain ⟨o', e1⟩ := I.base.there b o e hx
    exact free b o' (neC b o e hx) e1 (I.base.free b o e n hx)
  · obtain ⟨o', e1⟩ := I.base.there b o e hx
    exact there b o' (neC b o e hx) e1
  · obtain ⟨m1, e1⟩ := I.base.tbls b ps e
    obtain ⟨m2, e2⟩ := tbls b _ e1
    exact ⟨m1 ++ m2, by rw [e2, Array.append_assoc]⟩
  · obtain ⟨m, hn, hl⟩ := I.loc
    refine ⟨m, ns m hn, fun i x v e1 e2 e3 => ?_⟩
    obtain ⟨u, r, l⟩ := hl i x v e1 e2 e3
    refine ⟨u, r, ?_⟩
    rcases l with l | ⟨k, c, e, z⟩
    · exact .inl l
    · exact .inr ⟨k, c, e, cellK x c e _ z⟩
  · obtain ⟨v, z⟩ := I.cell x c e
    exact ⟨v, cellK x c e v z⟩
  · obtain ⟨m, ⟨o, _, _, ho, _⟩, _⟩ := I.loc
    exact free _ o (fun z => (hch _ z).2.1 rfl) ho I.free
  · obtain ⟨v, o, ho, hd⟩ := I.cell x c e
    exact free c o (fun z => (hch c z).2.2.1 x c e rfl) ho (I.freeC x c e)
  · obtain ⟨e, n, ne, nf, d⟩ := I.pin p hp
    have nch : p.1 ∉ ch := fun z => (hch p.1 z).2.2.2 p hp rfl
    exact ⟨keep p.1 p.2 ne nf nch e n, free p.1 p.2 nch e n, ne, nf, d⟩
theorem Inv.un {t' : Nat} (I : Inv X pins σ H s) (u : Un X.fs [] H H' s.heap h') (hok : HOk X.prog X.w H' h') : Inv X pins σ H' { s with heap := h', toks := t' } := by
  obtain ⟨m, ⟨o, es, ep, ho, r⟩, _⟩ := id I.loc
  obtain ⟨sl, hL⟩ := u.any ho I.free (by simp)
  exact I.step (g' := s.gens) (d' := s.drawn) (ch := []) (fun _ z => nomatch z) (fun b o _ hb _ e n => u.keep b o e n hb (by simp)) (fun b o _ hb _ e n => u.slot b o e n hb (by simp)) (fun b o _ e n => u.free b o e n (by simp)) (fun b o _ e => u.there b o e (by simp)) u.tups u.frzs u.tbls (fun m' hm => by
    obtain ⟨o', es', ep', ho', r'⟩ := hm
    rw [ho] at ho'; cases ho'
    exact ⟨_, es', ep', hL, r'⟩) hok I.bare
theorem Inv.call {g' : Array GenState} {t' : Nat} {d' : Drawn} {ch : List Addr} (I : Inv X pins σ H s) (u : Un (frs X.stack) ch H H' s.heap h') (hok : HOk X.prog X.w H' h') (hg : AllBare g')
    (hch : ∀ b ∈ ch, (b ∈ X.ex ∨ X.s₀.heap.objs.size ≤ b) ∧ b ≠ X.env.locals ∧ (∀ x c, X.env.cells.lookup x = some c → c ≠ b) ∧ ∀ p ∈ X.pn ++ pins, p.1 ≠ b) :
    Inv X pins σ H' { s with heap := h', gens := g', drawn := d', toks := t' } := by
  obtain ⟨m, ⟨o, es, ep, ho, r⟩, _⟩ := id I.loc
  obtain ⟨sl, hL⟩ := u.any ho I.free fun z => (hch _ z).2.1 rfl
  exact I.step (ch := ch) hch (fun b o hL hb hc e n => u.keep b o e n (fun z => (List.mem_cons.mp (I.stkSub b z)).elim hL hb) hc) (fun b o _ _ hc e n => u.any e n hc) (fun b o hc e n => u.free b o e n hc) (fun b o hc e => u.there b o e hc) u.tups u.frzs u.tbls (fun m' hm => by
    obtain ⟨o', es', ep', ho', r'⟩ := hm
    rw [ho] at ho'; cases ho'
    exact ⟨_, es', ep', hL, r'⟩) hok hg
theorem Inv.turned {t' : Nat} {it : Addr} (I : Inv X pins σ H s) (k : ∀ b o, b ≠ it → s.heap.get? b = some o → h'.get? b = some o) (hn : H it = none) (hL : it ≠ X.env.locals)
    (h1 : it ∈ X.ex ∨ X.s₀.heap.objs.size ≤ it) (h2 : ∀ x c, X.env.cells.lookup x = some c → c ≠ it) (h3 : ∀ p ∈ X.pn ++ pins, p.1 ≠ it) : Inv X pins σ H { s with heap := h', toks := t' } := by
  have nit : ∀ b u, H b = some u → b ≠ it := fun b u e z => by rw [z, hn] at e; cases e
  refine I.step (g' := s.gens) (d' := s.drawn) (ch := [it]) (fun b hb => ?_) (fun b o _ _ hc e _ => k b o (fun z => hc (by simp [z])) e) (fun b o _ _ hc e _ => ⟨o.slots, k b o (fun z => hc (by simp [z])) e⟩) (fun _ _ _ _ n => n)
    (fun b o hc e => ⟨o, k b o (fun z => hc (by simp [z])) e⟩) (fun _ _ e => e) (fun _ _ _ e => e) (fun b ps e => ⟨#[], by rw [e]; simp⟩) (fun m hm => ?_) (fun b u e => ?_) I.bare
  · have e : b = it := by simpa using hb
    subst e
    exact ⟨h1, hL, h2, h3⟩
  · obtain ⟨o, es, ep, ho, r⟩ := hm
    exact ⟨o, es, ep, k _ o (Ne.symm hL) ho, r⟩
  · refine (I.hok b u e).stay (fun c v hc q => k c v ?_ q) (fun _ q => q) fun _ _ q => q
    rcases hc with z | z
    · rw [z]; exact nit b u e
    · exact nit c _ z
theorem Inv.tok (I : Inv X pins σ H s) (t : Nat) : Inv X pins σ H { s with toks := t } := I.un (h' := s.heap) (t' := t) Un.refl I.hok
theorem Inv.kept {t' : Nat} (I : Inv X pins σ H s) (k : ∀ b u, s.heap.get? b = some u → h'.get? b = some u) : Inv X pins σ H { s with heap := h', toks := t' } := I.un (Un.kept k) (I.hok.kept k)
theorem Inv.laid {a : Addr} {o : HO} {t' : Nat} (I : Inv X pins σ H s) (k : ∀ b u, s.heap.get? b = some u → h'.get? b = some u) (hp : s.heap.objs.size ≤ a) (new : ObjOk X.prog X.w (upd H a o) h' a o) :
    Inv X pins σ (upd H a o) { s with heap := h', toks := t' } := I.un (Un.laid k hp (I.hok.fresh hp)) (I.hok.laid k hp new)
theorem Inv.write {x e : Addr} {o : HO} {t' : Nat} (I : Inv X pins σ H s) (mu : Mut (H x)) (he : e = x ∨ H e = some (.own x)) (k : ∀ b u, b ≠ e → s.heap.get? b = some u → h'.get? b = some u) (heo : ∃ u, h'.get? e = some u)
    (new : ObjOk X.prog X.w (upd H x o) h' x o) : Inv X pins σ (upd H x o) { s with heap := h', toks := t' } := I.un (Un.write mu he k heo) (I.hok.write mu he k heo new)
theorem Inv.pins_of {pins' : List (Addr × Obj)} (I : Inv X pins σ H s) (h : ∀ p ∈ pins', s.heap.get? p.1 = some p.2 ∧ H p.1 = none ∧ p.1 ≠ X.env.locals ∧ p.1 ∉ X.fs ∧ ∀ v, p.2.data ≠ .cell v) : Inv X pins' σ H s :=
  ⟨I.ok, I.os, I.bare, I.base, I.loc, I.cell, I.free, I.freeC, fun p hp => (List.mem_append.mp hp).elim (fun z => I.pin p (List.mem_append_left _ z)) (h p), I.hok, I.len⟩
theorem nodup_ix {N : List Str} (hN : N.Nodup) {i j : Nat} {x : Str} (a : N[i]? = some x) (b : N[j]? = some x) : i = j := by
  obtain ⟨h1, e1⟩ := List.getElem?_eq_some_iff.mp a
  obtain ⟨h2, e2⟩ := List.getElem?_eq_some_iff.mp b
  exact (List.getElem_inj hN).mp (e1.trans e2.symm)
theorem store_ok2 {M : Model} {A : Around} {E : Value → Shared → Prop} {i : Nat} {x : Str} {v : V} {u : Value} {Q : Unit → Shared → Prop} (I : Inv X pins σ H s) (hN : X.N.Nodup) (hi : X.N[i]? = some x) (hx : Loc X.env.scope x) (r : RelV v u)
    (h : ∀ s', Inv X pins (σ.set i (some v)) H s' → (∃ a, Heap.SameBut a s.heap s'.heap ∧ (a = X.env.locals ∨ X.env.cells.lookup x = some a)) → Q () s') (hf : X.fn x = true ∨ X.env.scope.names.lookup x = some .local := by first | exact .inl rfl | exact .inr rfl | assumption) : wpAny M A (storeName X.env x u) Q E s := by
  obtain ⟨m, hn, hl⟩ := id I.loc
  have hcls : (X.env.scope.kind == .class || (X.env.scope.kind == .module && X.env.locals != X.env.globals)) = false := by rw [I.ok.kind]; rfl
  have hiσ : i < σ.length := by rw [I.len]; exact (List.getElem?_eq_some_iff.mp hi).1
  have cne := I.cne
  have tracked : ∀ {a : Addr} {h' : Heap}, (∃ o, s.heap.get? a = some o ∧ H a = none) → Heap.SameBut a s.heap h' → HOk X.prog X.w H h' := fun {a h'} ha hs b ob e => by
    obtain ⟨_, _, hfree⟩ := ha
    refine (I.hok b ob e).stay (fun c w' hc q => (hs.2 c ?_).trans q) (fun _ q => q) fun _ _ q => q
    rintro rfl
    rcases hc with rfl | hc
    · rw [hfree] at e; cases e
    · rw [hfree] at hc; cases hc
  rcases hx with hk | hk
  · refine wpAny_storeName_local hk hn (fun h' hn' hs => ?_) hcls
    obtain ⟨oL, _, _, hoL, _⟩ := id hn
    refine h _ ⟨I.ok, I.os, I.bare, ⟨fun b o e n hb hx => ?_, fun b o e n hb hx => ?_, I.base.free, fun b o e hx => ?_, I.base.tups, I.base.frzs, I.base.tbls⟩, ⟨_, hn', fun j y v' e1 e2 e3 => ?_⟩, fun y c e => ?_, I.free, I.freeC, fun p hp => ?_, tracked ⟨oL, hoL, I.free⟩ hs, by simpa using I.len⟩ ⟨_, hs, .inl rfl⟩
    · exact (hs.2 b (Nat.ne_of_lt (Nat.lt_of_lt_of_le (Heap.lt_size e) I.ok.above))).trans (I.base.keep b o e n hb hx)
    · obtain ⟨sl, e1⟩ := I.base.slot b o e n hb hx
      exact ⟨sl, (hs.2 b (Nat.ne_of_lt (Nat.lt_of_lt_of_le (Heap.lt_size e) I.ok.above))).trans e1⟩
    · obtain ⟨o', e1⟩ := I.base.there b o e hx
      exact ⟨o', (hs.2 b (Nat.ne_of_lt (Nat.lt_of_lt_of_le (Heap.lt_size e) I.ok.above))).trans e1⟩
    · by_cases hj : j = i
      · subst hj
        rw [hi] at e1; cases e1
        rw [List.getElem?_set_self hiσ] at e2
        cases e2
        exact ⟨u, r, .inl ⟨hk, by simp⟩⟩
      · rw [List.getElem?_set_ne (Ne.symm hj)] at e2
        obtain ⟨u', r', q⟩ := hl j y v' e1 e2 e3
        refine ⟨u', r', ?_⟩
        rcases q with ⟨k, e⟩ | ⟨k, c, e, z⟩
        · refine .inl ⟨k, ?_⟩
          have : y ≠ x := fun e => hj (nodup_ix hN e1 (e ▸ hi))
          simp [this, e]
        · exact .inr ⟨k, c, e, z.sameBut hs (cne y c e)⟩
    · obtain ⟨w', z⟩ := I.cell y c e
      exact ⟨w', z.sameBut hs (cne y c e)⟩
    · obtain ⟨e, n, ne, nf, d⟩ := I.pin p hp
      exact ⟨(hs.2 p.1 ne).trans e, n, ne, nf, d⟩
  · have hfn : X.fn x = true := by
      rcases hf with z | z
      · exact z
      · rw [z] at hk; cases hk
    obtain ⟨c, hc⟩ := I.ok.has x (.inl hk)
    obtain ⟨w', z⟩ := I.cell x c hc
    refine wpAny_storeName_cell I.ok.kind hk hc z (fun h' hc' hs => ?_)
    obtain ⟨oc, hoc, hocd⟩ := id z
    refine h { s with heap := h' } ⟨I.ok, I.os, I.bare, ⟨fun b o e n hb hx => ?_, fun b o e n hb hx => ?_, I.base.free, fun b o e hx => ?_, I.base.tups, I.base.frzs, I.base.tbls⟩, ⟨m, hn.sameBut hs (Ne.symm (cne x c hc)), fun j y v' e1 e2 e3 => ?_⟩, fun y c' e => ?_, I.free, I.freeC, fun p hp => ?_, tracked ⟨oc, hoc, I.freeC x c hc⟩ hs, by simpa using I.len⟩ ⟨c, hs, .inr hc⟩
    · exact (hs.2 b (Nat.ne_of_lt (Nat.lt_of_lt_of_le (Heap.lt_size e) (I.ok.cab x c hfn hc)))).trans (I.base.keep b o e n hb hx)
    · obtain ⟨sl, e1⟩ := I.base.slot b o e n hb hx
      exact ⟨sl, (hs.2 b (Nat.ne_of_lt (Nat.lt_of_lt_of_le (Heap.lt_size e) (I.ok.cab x c hfn hc)))).trans e1⟩
    · obtain ⟨o', e1⟩ := I.base.there b o e hx
      exact ⟨o', (hs.2 b (Nat.ne_of_lt (Nat.lt_of_lt_of_le (Heap.lt_size e) (I.ok.cab x c hfn hc)))).trans e1⟩
    · by_cases hj : j = i
      · subst hj
        rw [hi] at e1; cases e1
        rw [List.getElem?_set_self hiσ] at e2
        cases e2
        exact ⟨u, r, .inr ⟨.inl hk, c, hc, hc'⟩⟩
      · rw [List.getElem?_set_ne (Ne.symm hj)] at e2
        obtain ⟨u', r', q⟩ := hl j y v' e1 e2 e3
        refine ⟨u', r', ?_⟩
        rcases q with q | ⟨k, c', e, z'⟩
        · exact .inl q
        · refine .inr ⟨k, c', e, z'.sameBut hs ?_⟩
          rintro rfl
          exact hj (nodup_ix hN e1 (I.ok.inj _ _ _ e hc ▸ hi))
    · by_cases hcc : c' = c
      · subst hcc; exact ⟨_, hc'⟩
      · obtain ⟨w2, z2⟩ := I.cell y c' e
        exact ⟨w2, z2.sameBut hs hcc⟩
    · obtain ⟨e, n, ne, nf, d⟩ := I.pin p hp
      refine ⟨(hs.2 p.1 ?_).trans e, n, ne, nf, d⟩
      intro q
      rw [q, hoc] at e
      have q' : oc = p.2 := Option.some.inj e
      exact d w' (by rw [← q']; exact hocd)
theorem store_ok {M : Model} {A : Around} {E : Value → Shared → Prop} {i : Nat} {x : Str} {v : V} {u : Value} {Q : Unit → Shared → Prop} (I : Inv X pins σ H s) (hN : X.N.Nodup) (hi : X.N[i]? = some x) (hx : Loc X.env.scope x) (r : RelV v u)
    (h : ∀ s', Inv X pins (σ.set i (some v)) H s' → Q () s') (hf : X.fn x = true ∨ X.env.scope.names.lookup x = some .local := by first | exact .inl rfl | exact .inr rfl | assumption) : wpAny M A (storeName X.env x u) Q E s :=
  store_ok2 I hN hi hx r (fun s' I' _ => h s' I') hf
theorem Inv.call' {s' : Shared} {ch : List Addr} (I : Inv X pins σ H s) (ho : s'.os = s.os) (u : Un (frs X.stack) ch H H' s.heap s'.heap) (hok : HOk X.prog X.w H' s'.heap) (hg : AllBare s'.gens)
    (hch : ∀ b ∈ ch, (b ∈ X.ex ∨ X.s₀.heap.objs.size ≤ b) ∧ b ≠ X.env.locals ∧ (∀ x c, X.env.cells.lookup x = some c → c ≠ b) ∧ ∀ p ∈ X.pn ++ pins, p.1 ≠ b) : Inv X pins σ H' s' := by
  obtain ⟨h', g', d', t', o'⟩ := s'
  have e : o' = s.os := ho
  subst e
  exact I.call (g' := g') (t' := t') (d' := d') u hok hg hch
end
abbrev XK := Value → Option Addr → Hp → Prop
abbrev St := List (Option V)
abbrev VK := V → Hp → Prop
abbrev TE := St → Hp → VK → Prop
abbrev TT := St → Hp → (Bool → Hp → Prop) → Prop
abbrev TA := St → Hp → (List V → Hp → Prop) → Prop
structure Ends where
  nx : St → Hp → Prop
  rt : VK
  bk : St → Hp → Prop := fun _ _ => False
  ct : St → Hp → Prop := fun _ _ => False
abbrev TS := Ends → St → Hp → Prop
def EP (X : Cx) (pins : List (Addr × Obj)) (σ : St) (Q : VK) (u : Value) (s' : Shared) : Prop := ∃ v H', Inv X pins σ H' s' ∧ RelV v u ∧ Q v H'
def TP (X : Cx) (pins : List (Addr × Obj)) (σ : St) (Q : Bool → Hp → Prop) (b : Bool) (s' : Shared) : Prop := ∃ H', Inv X pins σ H' s' ∧ Q b H'
def AP (X : Cx) (pins : List (Addr × Obj)) (σ : St) (Q : List V → Hp → Prop) (us : List Value) (s' : Shared) : Prop := ∃ vs H', Inv X pins σ H' s' ∧ Vals vs us ∧ Q vs H'
def SP (X : Cx) (pins : List (Addr × Obj)) (D : Ends) (f : Flow) (s' : Shared) : Prop :=
  match f with
  | .next => ∃ σ' H', Inv X pins σ' H' s' ∧ D.nx σ' H'
  | .brk => ∃ σ' H', Inv X pins σ' H' s' ∧ D.bk σ' H'
  | .cont => ∃ σ' H', Inv X pins σ' H' s' ∧ D.ct σ' H'
  | .ret u => ∃ v σ' H', Inv X pins σ' H' s' ∧ RelV v u ∧ D.rt v H'
structure Hold (p : Prop) : Prop where
  out : p
instance {α : Sort _} {β : α → Prop} : CoeFun (Hold (∀ a, β a)) (fun _ => ∀ a, β a) := ⟨Hold.out⟩
abbrev PE (X : Cx) (e : Expr) (t : TE) : Prop := Hold (
  ∀ (pins : List (Addr × Obj)) (s : Shared) (σ : St) (H : Hp) (Q : VK), Inv X pins σ H s → t σ H Q → wpAny (model X.prog X.w) X.A (eval e X.env) (EP X pins σ Q) X.xe s)
abbrev PT (X : Cx) (e : Expr) (t : TT) : Prop := Hold (
  ∀ (pins : List (Addr × Obj)) (s : Shared) (σ : St) (H : Hp) (Q : Bool → Hp → Prop), Inv X pins σ H s → t σ H Q → wpAny (model X.prog X.w) X.A (isTrue e X.env (eval e X.env)) (TP X pins σ Q) X.xe s)
def PW (X : Cx) (e : Expr) (t : TT) : Prop :=
  ∀ (whole : Sem Value) (pins : List (Addr × Obj)) (s : Shared) (σ : St) (H : Hp) (Q : Bool → Hp → Prop), Inv X pins σ H s → t σ H Q → wpAny (model X.prog X.w) X.A (isTrue e X.env whole) (TP X pins σ Q) X.xe s
theorem PW.pt {X : Cx} {e : Expr} {t : TT} (h : PW X e t) : PT X e t := ⟨h _⟩
abbrev PA (X : Cx) (es : List Expr) (t : TA) : Prop := Hold (
  ∀ (pos : Pos) (pins : List (Addr × Obj)) (s : Shared) (σ : St) (H : Hp) (Q : List V → Hp → Prop), Inv X pins σ H s → t σ H Q → wpAny (model X.prog X.w) X.A (spliced (backTo pos (starEach es X.env))) (AP X pins σ Q) X.xe s)
abbrev PS (X : Cx) (st : Stmt) (t : TS) : Prop := Hold (
  ∀ (pins : List (Addr × Obj)) (s : Shared) (σ : St) (H : Hp) (D : Ends), Inv X pins σ H s → t D σ H → wpAny (model X.prog X.w) X.A (exec st X.env) (SP X pins D) X.xe s)
abbrev PSs (X : Cx) (st : List Stmt) (t : TS) : Prop := Hold (
  ∀ (pins : List (Addr × Obj)) (s : Shared) (σ : St) (H : Hp) (D : Ends), Inv X pins σ H s → t D σ H → wpAny (model X.prog X.w) X.A (execs st X.env) (SP X pins D) X.xe s)
theorem thn {α : Type} {t : Sem α} {Q Q' : α → Shared → Prop} {M : Model} {A : Around} {E : Value → Shared → Prop} {s : Shared} (h : wpAny M A t Q E s) (hQ : ∀ a s, Q a s → Q' a s) : wpAny M A t Q' E s := wpAny_mono h hQ fun _ _ x => x
end L2
namespace L2
open PySem PySem.Spec PyProof.Rows
section
variable {X : Cx}
def tVar (i : Nat) : TE := fun σ H Q => ∃ v, σ[i]? = some (some v) ∧ Q v H
def tC (v : V) : TE := fun _ H Q => Q v H
theorem pe_var {i : Nat} {x : Str} {pos : Pos} (hN : X.N[i]? = some x) (hv : Vis X.env.scope x) (hd : (x == ("__debug__" : Str)) = false := by decide) (hcd : (x == ("__classdict__" : Str)) = false := by decide) : PE X (.Name x pos) (tVar i) := by
  refine ⟨?_⟩
  intro pins s σ H Q I h
  obtain ⟨v, e, h⟩ := h
  obtain ⟨m, hn, hl⟩ := I.loc
  obtain ⟨u, r, l⟩ := hl i x v hN e hv
  have fin : EP X pins σ Q u s := ⟨v, H, I, r, h⟩
  rcases l with ⟨hk, hm⟩ | ⟨hk, c, hc, hcell⟩
  · exact wpAny_Name (wpAny_loadName_local I.ok.kind hk hn hm fin) hd
  · rcases hk with hk | hk
    · exact wpAny_Name (wpAny_loadName_cell I.ok.kind hk hc hcell fin) hd
    · exact wpAny_Name (wpAny_loadName_free I.ok.kind hk hc hcell fin hcd) hd
theorem pe_int {i j pos} : PE X (.Constant (.int i) j pos) (tC (.int i)) := ⟨fun _ _ _ H _ I h => wpAny_Constant_int ⟨.int i, H, I.tok _, ⟨_, rfl⟩, h⟩⟩
theorem pe_bl {b j pos} : PE X (.Constant (.bool b) j pos) (tC (.bl b)) := ⟨fun _ _ _ H _ I h => Constant_bool ⟨.bl b, H, I, rfl, h⟩⟩
theorem pe_non {j pos} : PE X (.Constant .none j pos) (tC .non) := ⟨fun _ _ _ H _ I h => Constant_none ⟨.non, H, I, rfl, h⟩⟩
theorem pe_str {x j pos} : PE X (.Constant (.str x) j pos) (tC (.str x)) := ⟨fun _ _ _ H _ I h => Calls.Constant_str ⟨.str x, H, I.tok _, ⟨_, rfl⟩, h⟩⟩
def Gl (X : Cx) (x : Str) : Prop := X.env.kindOf x = some .globalImplicit
theorem ld_glob {E : Value → Shared → Prop} {pins : List (Addr × Obj)} {s : Shared} {σ : St} {H : Hp} {x : Str} {u : Value} {pos : Pos} {Q : Value → Shared → Prop} (I : Inv X pins σ H s) (hg : Gl X x) (hm : X.mg x = some u) (h : Q u s)
    (hd : (x == ("__debug__" : Str)) = false := by decide) : wpAny (model X.prog X.w) X.A (eval (.Name x pos) X.env) Q E s :=
  Calls.Name_function_global I.ok.kind hg (Calls.loadGlobal_global (by rw [I.ok.glob]; exact I.mod.glob.keeps I.bk) hm h) hd
theorem ld_blt {E : Value → Shared → Prop} {pins : List (Addr × Obj)} {s : Shared} {σ : St} {H : Hp} {x : Str} {u : Value} {pos : Pos} {Q : Value → Shared → Prop} (I : Inv X pins σ H s) (hg : Gl X x) (hm : X.mg x = none) (hv : bootBuiltins x = some u) (h : Q u s)
    (hn : x ≠ "__name__" := by decide) (hd : (x == ("__debug__" : Str)) = false := by decide) : wpAny (model X.prog X.w) X.A (eval (.Name x pos) X.env) Q E s := by
  obtain ⟨mb, h1, h2⟩ := I.mod.blt
  exact Calls.Name_function_global I.ok.kind hg (Calls.loadGlobal_builtin (by rw [I.ok.glob]; exact I.mod.glob.keeps I.bk) hm (by rw [I.ok.blt]; exact h1.keeps I.bk) ((h2 x hn).trans hv) h) hd
theorem pe_glob {x : Str} {v : V} {u : Value} {pos : Pos} (hg : Gl X x) (hm : X.mg x = some u) (r : RelV v u) (hd : (x == ("__debug__" : Str)) = false := by decide) : PE X (.Name x pos) (tC v) :=
  ⟨fun _ _ _ H _ I h => ld_glob I hg hm ⟨v, H, I, r, h⟩ hd⟩
theorem pe_bltn {x : Str} {v : V} {u : Value} {pos : Pos} (hg : Gl X x) (hm : X.mg x = none) (hv : bootBuiltins x = some u) (r : RelV v u) (hn : x ≠ "__name__" := by decide) (hd : (x == ("__debug__" : Str)) = false := by decide) : PE X (.Name x pos) (tC v) :=
  ⟨fun _ _ _ H _ I h => ld_blt I hg hm hv ⟨v, H, I, r, h⟩ hn hd⟩
variable {a b : Expr} {ta tb : TE} {pos : Pos}
def tB (t : TE) : TT := fun σ H Q => t σ H fun x H1 => ∃ c, x = .bl c ∧ Q c H1
theorem pt_val {e : Expr} {t : TE} (h : PE X e t) (he : ∀ whole, isTrue e X.env whole = (do let v ← whole; standAt e.pos; holding [v] (truthy v)) := by intro _; rfl) : PT X e (tB t) := by
  refine ⟨?_⟩
  intro pins s σ H Q I hw
  refine isTrue_plain (thn (h pins s σ H _ I hw) fun v s1 ⟨x, H1, I1, r1, q1⟩ => ?_) (he _)
  obtain ⟨d, rfl, q⟩ := q1
  cases r1
  exact wpAny_truthy_bool ⟨H1, I1, q⟩
variable {tA tB' : TT} {rest : List Expr}
def tAnd (t u : TT) : TT := fun σ H Q => t σ H fun c H1 => if c = true then u σ H1 Q else Q false H1
def tOr (t u : TT) : TT := fun σ H Q => t σ H fun c H1 => if c = true then Q true H1 else u σ H1 Q
def tNot (t : TT) : TT := fun σ H Q => t σ H fun c H1 => Q (!c) H1
theorem pw_and1 (ha : PT X a tA) : PW X (.BoolOp .And [a] pos) tA := by
  intro wh pins s σ H Q I h
  refine isTrue_and (thn (ha pins s σ H Q I h) fun c s1 e => ?_)
  cases c with
  | true => exact isTrue_and_nil e
  | false => exact e
theorem pw_or1 (ha : PT X a tA) : PW X (.BoolOp .Or [a] pos) tA := by
  intro wh pins s σ H Q I h
  refine isTrue_or (thn (ha pins s σ H Q I h) fun c s1 e => ?_)
  cases c with
  | false => exact isTrue_or_nil e
  | true => exact e
theorem pw_and (ha : PT X a tA) (hb : PW X (.BoolOp .And (b :: rest) pos) tB') : PW X (.BoolOp .And (a :: b :: rest) pos) (tAnd tA tB') := by
  intro wh pins s σ H Q I h
  refine isTrue_and (thn (ha pins s σ H _ I h) fun c s1 ⟨H1, I1, q1⟩ => ?_)
  cases c with
  | true => exact hb wh pins s1 σ H1 Q I1 q1
  | false => exact ⟨H1, I1, q1⟩
theorem pw_or (ha : PT X a tA) (hb : PW X (.BoolOp .Or (b :: rest) pos) tB') : PW X (.BoolOp .Or (a :: b :: rest) pos) (tOr tA tB') := by
  intro wh pins s σ H Q I h
  refine isTrue_or (thn (ha pins s σ H _ I h) fun c s1 ⟨H1, I1, q1⟩ => ?_)
  cases c with
  | true => exact ⟨H1, I1, q1⟩
  | false => exact hb wh pins s1 σ H1 Q I1 q1
theorem pt_not (ha : PT X a tA) : PT X (.UnaryOp .Not a pos) (tNot tA) := by
  refine ⟨?_⟩
  intro pins s σ H Q I h
  exact isTrue_not (ha pins s σ H (fun c H1 => Q (!c) H1) I h)
def tAndV (ta tb : TE) : TE := fun σ H Q => ta σ H fun x H1 => ∃ c, x = .bl c ∧ if c = true then tb σ H1 Q else Q (.bl false) H1
theorem pe_one {op} {t : TE} (h : PE X a t) : PE X (.BoolOp op [a] pos) t := ⟨fun pins s σ H Q I hw => BoolOp_one (h pins s σ H Q I hw)⟩
theorem pe_and (ha : PE X a ta) (hb : PE X (.BoolOp .And (b :: rest) pos) tb) : PE X (.BoolOp .And (a :: b :: rest) pos) (tAndV ta tb) := by
  refine ⟨?_⟩
  intro pins s σ H Q I h
  refine BoolOp_and (thn (ha pins s σ H _ I h) fun v s1 ⟨x, H1, I1, r1, q1⟩ => ?_)
  obtain ⟨c, rfl, q1⟩ := q1
  cases r1
  refine wpAny_truthy_bool ?_
  cases c with
  | true => exact hb pins s1 σ H1 Q I1 q1
  | false => exact ⟨.bl false, H1, I1, rfl, q1⟩
def tIf (t : TT) (ta tb : TE) : TE := fun σ H Q => t σ H fun c H1 => if c = true then ta σ H1 Q else tb σ H1 Q
theorem pe_ifExp {c : Expr} (hc : PT X c tA) (ha : PE X a ta) (hb : PE X b tb) : PE X (.IfExp c a b pos) (tIf tA ta tb) := by
  refine ⟨?_⟩
  intro pins s σ H Q I h
  refine wpAny_IfExp (thn (hc pins s σ H _ I h) fun d s1 ⟨H1, I1, q1⟩ => ?_)
  cases d with
  | true => exact ha pins s1 σ H1 Q I1 q1
  | false => exact hb pins s1 σ H1 Q I1 q1
end
end L2
namespace L2
open PySem PySem.Spec PyProof.Rows
def SqL (K : PySem.W.Frag) (H : Hp) (a : Addr) (xs : List V) : Prop :=
  Rd H a (.lst xs) ∨
    ∃ (o : Obj) (its : Array Value) (n : Nat), K.lookup a = some o ∧ o.cls = .type "list" ∧ o.dict = none ∧ o.data = .seq its n ∧ its.size ≤ sizeLine ∧ Vals xs its.toList
def SqT (K : PySem.W.Frag) (H : Hp) (a : Addr) (xs : List V) : Prop :=
  Rd H a (.tup xs) ∨
    ∃ (o : Obj) (its : Array Value) (n : Nat), K.lookup a = some o ∧ o.cls = .type "tuple" ∧ o.data = .seq its n ∧ its.size ≤ sizeLine ∧ Vals xs its.toList
def absV : Value → Option V
  | .none => some .non
  | .bool b => some (.bl b)
  | .int i _ => some (.int i)
  | .str x _ => some (.str x)
  | .bytes b _ => some (.byt b)
  | .float b _ => some (.flt b)
  | .ref a => some (.ref a)
  | .type n => some (.ty n)
  | _ => none
theorem RelV.abs {x : V} {u : Value} (r : RelV x u) : absV u = some x := by
  cases x with
  | non => cases r; rfl
  | bl _ => cases r; rfl
  | int _ => obtain ⟨t, rfl⟩ := r; rfl
  | str _ => obtain ⟨t, rfl⟩ := r; rfl
  | byt _ => obtain ⟨t, rfl⟩ := r; rfl
  | flt _ => obtain ⟨t, rfl⟩ := r; rfl
  | ref _ => cases r; rfl
  | ty _ => cases r; rfl
theorem RelV.inj {x y : V} {u : Value} (r : RelV x u) (q : RelV y u) : x = y := Option.some.inj (r.abs.symm.trans q.abs)
theorem Vals.inj : ∀ {xs ys : List V} {us : List Value}, Vals xs us → Vals ys us → xs = ys
  | _, _, _, .nil, .nil => rfl
  | _, _, _, .cons r t, .cons r' t' => by rw [r.inj r', Vals.inj t t']
section
variable {X : Cx} {pins : List (Addr × Obj)} {σ : St} {H : Hp} {s : Shared} {a : Addr} {xs ys : List V}
theorem SqL.of {K : PySem.W.Frag} (h : H a = some (.lst xs)) : SqL K H a xs := .inl (.inl h)
theorem SqT.of {K : PySem.W.Frag} (h : H a = some (.tup xs)) : SqT K H a xs := .inl (.inl h)
theorem Inv.list (I : Inv X pins σ H s) (h : SqL X.K H a xs) : ∃ its : List Value, Vals xs its ∧ PlainL s.heap a its.toArray ∧ xs.length ≤ sizeLine := by
  rcases h with h | ⟨o, its, n, hk, hc, hd, hs, hz, r⟩
  · obtain ⟨z, its, n, r, e⟩ := h.ok I.hok
    exact ⟨its, r, ⟨_, n, e, rfl, rfl, rfl⟩, z⟩
  · refine ⟨its.toList, r, ⟨o, n, I.kIn a o hk, hc, hd, by simpa using hs⟩, ?_⟩
    have e := r.length
    simp only [Array.length_toList] at e
    omega
theorem Inv.tuple (I : Inv X pins σ H s) (h : SqT X.K H a xs) : ∃ its : List Value, Vals xs its ∧ IsTup s.heap a its.toArray ∧ xs.length ≤ sizeLine := by
  rcases h with h | ⟨o, its, n, hk, hc, hs, hz, r⟩
  · obtain ⟨z, its, r, p⟩ := h.ok I.hok
    exact ⟨its, r, p, z⟩
  · refine ⟨its.toList, r, ⟨o, I.kIn a o hk, hc, n, by simpa using hs⟩, ?_⟩
    have e := r.length
    simp only [Array.length_toList] at e
    omega
theorem Inv.list_inj (I : Inv X pins σ H s) (h : SqL X.K H a xs) (h' : SqL X.K H a ys) : xs = ys := by
  obtain ⟨its, r, ⟨o, n, e, _, _, d⟩, _⟩ := I.list h
  obtain ⟨its', r', ⟨o', n', e', _, _, d'⟩, _⟩ := I.list h'
  rw [e] at e'; cases e'
  rw [d] at d'
  injection d' with d1 _
  have : its = its' := by simpa using congrArg Array.toList d1
  subst this
  exact r.inj r'
end
abbrev Cx.wish (X : Cx) (E : Value → Shared → Prop) : Cx := { X with xe := E }
abbrev Cx.nox (X : Cx) : Cx := X.wish fun _ _ => False
theorem Cx.Ok.wish {X : Cx} (ok : X.Ok) (E : Value → Shared → Prop) : (X.wish E).Ok :=
  ⟨ok.mod, ok.kind, ok.glob, ok.blt, ok.above, ok.inj, ok.has, ok.cab, ok.hd, ok.frames, ok.stk, ok.exf, ok.bs, ok.bsz, ok.noex, ok.exfs, ok.funs, ok.frf⟩
theorem Cx.Ok.unwish {X : Cx} {E : Value → Shared → Prop} (ok : (X.wish E).Ok) : X.Ok :=
  ⟨ok.mod, ok.kind, ok.glob, ok.blt, ok.above, ok.inj, ok.has, ok.cab, ok.hd, ok.frames, ok.stk, ok.exf, ok.bs, ok.bsz, ok.noex, ok.exfs, ok.funs, ok.frf⟩
section
variable {X : Cx} {pins : List (Addr × Obj)} {σ : St} {H : Hp} {s : Shared} {E : Value → Shared → Prop}
theorem Inv.wish (I : Inv X pins σ H s) (E : Value → Shared → Prop) : Inv (X.wish E) pins σ H s := ⟨I.ok.wish E, I.os, I.bare, I.base, I.loc, I.cell, I.free, I.freeC, I.pin, I.hok, I.len⟩
theorem Inv.unwish (I : Inv (X.wish E) pins σ H s) : Inv X pins σ H s := ⟨I.ok.unwish, I.os, I.bare, I.base, I.loc, I.cell, I.free, I.freeC, I.pin, I.hok, I.len⟩
theorem SP.unwish {D : Ends} {f : Flow} {s' : Shared} (h : SP (X.wish E) pins D f s') : SP X pins D f s' := by
  cases f with
  | next => obtain ⟨σ', H', I, q⟩ := h; exact ⟨σ', H', I.unwish, q⟩
  | brk => obtain ⟨σ', H', I, q⟩ := h; exact ⟨σ', H', I.unwish, q⟩
  | cont => obtain ⟨σ', H', I, q⟩ := h; exact ⟨σ', H', I.unwish, q⟩
  | ret u => obtain ⟨v, σ', H', I, r, q⟩ := h; exact ⟨v, σ', H', I.unwish, r, q⟩
theorem PSs.nox {st : List Stmt} {t : TS} (h : PSs X.nox st t) : PSs X st t := ⟨fun pins s σ H D I hw =>
  wpAny_mono (h pins s σ H D (I.wish _) hw) (fun _ _ q => q.unwish) fun _ _ z => False.elim z⟩
end
section
variable {X : Cx} {st : Stmt} {rest : List Stmt} {t u : TS} {e : Expr} {te : TE} {pos : Pos}
def tNext : TS := fun D σ H => D.nx σ H
def tSeq (t u : TS) : TS := fun D σ H => t { D with nx := u D } σ H
theorem pss_nil : PSs X [] tNext := ⟨fun _ _ σ H _ I h => wpAny_execs_nil ⟨σ, H, I, h⟩⟩
theorem pss_cons (h1 : PS X st t) (h2 : PSs X rest u) : PSs X (st :: rest) (tSeq t u) := by
  refine ⟨?_⟩
  intro pins s σ H D I h
  refine wpAny_execs_cons (thn (h1 pins s σ H { D with nx := u D } I h) fun f s1 q => ?_)
  cases f with
  | next =>
    obtain ⟨σ', H', I', q⟩ := q
    exact h2 pins s1 σ' H' D I' q
  | ret v => exact q
  | brk => exact q
  | cont => exact q
theorem pss_one (h1 : PS X st t) : PSs X [st] t := by
  refine ⟨?_⟩
  intro pins s σ H D I h
  refine wpAny_execs_cons (thn (h1 pins s σ H D I h) fun f s1 q => ?_)
  cases f with
  | next => exact wpAny_execs_nil q
  | ret v => exact q
  | brk => exact q
  | cont => exact q
theorem Inv.quiet {pins : List (Addr × Obj)} {σ : St} {H : Hp} {s : Shared} (I : Inv X pins σ H s) : interactive X.env = false := by simp [interactive, I.ok.kind]
def tDrop (te : TE) : TS := fun D σ H => te σ H fun _ H1 => D.nx σ H1
theorem ps_expr (he : PE X e te) (hs : swapsWith e none pos.line X.env = pure false := by rfl) : PS X (.Expr e pos) (tDrop te) := by
  refine ⟨?_⟩
  intro pins s σ H D I h
  exact wpAny_Expr_any (thn (he pins s σ H _ I h) fun v s1 ⟨x, H1, I1, r1, q1⟩ => ⟨σ, H1, I1, q1⟩) I.quiet hs
def tRet (te : TE) : TS := fun D σ H => te σ H D.rt
theorem ps_ret (he : PE X e te) : PS X (.Return (some e) pos) (tRet te) := by
  refine ⟨?_⟩
  intro pins s σ H D I h
  exact wpAny_Return_some (thn (he pins s σ H _ I h) fun v s1 ⟨x, H1, I1, r1, q1⟩ => ⟨x, σ, H1, I1, r1, q1⟩)
def tIfS (c : TT) (t u : TS) : TS := fun D σ H => c σ H fun b H1 => if b = true then t D σ H1 else u D σ H1
theorem ps_if {c : Expr} {a b : List Stmt} {tc : TT} (hc : PT X c tc) (ha : PSs X a t) (hb : PSs X b u) : PS X (.If c a b pos) (tIfS tc t u) := by
  refine ⟨?_⟩
  intro pins s σ H D I h
  refine wpAny_If (thn (hc pins s σ H _ I h) fun d s1 ⟨H1, I1, q1⟩ => ?_)
  cases d with
  | true => exact ha pins s1 σ H1 D I1 q1
  | false => exact hb pins s1 σ H1 D I1 q1
end
abbrev TG := V → St → Hp → (St → Hp → Prop) → Prop
abbrev TGs := List V → St → Hp → (St → Hp → Prop) → Prop
def PG (X : Cx) (target : Expr) (t : TG) : Prop :=
  ∀ (pins : List (Addr × Obj)) (s : Shared) (σ : St) (H : Hp) (v : V) (u : Value) (Q : St → Hp → Prop), Inv X pins σ H s → RelV v u → t v σ H Q →
    wpAny (model X.prog X.w) X.A (assign target X.env u) (fun _ s' => ∃ σ' H', Inv X pins σ' H' s' ∧ Q σ' H') X.xe s
def PGs (X : Cx) (ts : List Expr) (t : TGs) : Prop :=
  ∀ (pins : List (Addr × Obj)) (s : Shared) (σ : St) (H : Hp) (vs : List V) (us : List Value) (Q : St → Hp → Prop), Inv X pins σ H s → Vals vs us → t vs σ H Q →
    wpAny (model X.prog X.w) X.A (assignInOrder ((assignEach ts X.env).map (·.2)) us) (fun _ s' => ∃ σ' H', Inv X pins σ' H' s' ∧ Q σ' H') X.xe s
abbrev TSet := V → V → V → Hp → (Hp → Prop) → Prop
def PSet (X : Cx) (t : TSet) : Prop :=
  ∀ (pins : List (Addr × Obj)) (s : Shared) (σ : St) (H : Hp) (o i v : V) (ov iv u : Value) (Q : Hp → Prop), Inv X pins σ H s → RelV o ov → RelV i iv → RelV v u → t o i v H Q →
    wpAny (model X.prog X.w) X.A (setItem ov iv u) (fun _ s' => ∃ H', Inv X pins σ H' s' ∧ Q H') X.xe s
abbrev TIp := V → V → Hp → VK → Prop
def PIp (X : Cx) (op : Operator) (t : TIp) : Prop :=
  ∀ (pins : List (Addr × Obj)) (s : Shared) (σ : St) (H : Hp) (x y : V) (v u : Value) (Q : VK), Inv X pins σ H s → RelV x v → RelV y u → t x y H Q →
    wpAny (model X.prog X.w) X.A (inplaceOp op v u) (EP X pins σ Q) X.xe s
section
variable {X : Cx} {pos : Pos}
def gName (i : Nat) : TG := fun v σ H Q => Q (σ.set i (some v)) H
theorem pg_name {i : Nat} {x : Str} (hN : X.N.Nodup) (hi : X.N[i]? = some x) (hx : Loc X.env.scope x) (hf : X.fn x = true ∨ X.env.scope.names.lookup x = some .local := by first | exact .inl rfl | exact .inr rfl | assumption) : PG X (.Name x pos) (gName i) := by
  intro pins s σ H v u Q I r h
  exact wpAny_assign_Name (store_ok I hN hi hx r (fun s' I' => ⟨_, H, I', h⟩) hf)
def gNil : TGs := fun vs σ H Q => vs = [] ∧ Q σ H
def gCons (t : TG) (u : TGs) : TGs := fun vs σ H Q => ∃ v r, vs = v :: r ∧ t v σ H fun σ' H' => u r σ' H' Q
theorem pgs_nil : PGs X [] gNil := by
  intro pins s σ H vs us Q I r h
  obtain ⟨e, h⟩ := h
  subst e
  cases r
  exact assignInOrder_nil ⟨σ, H, I, h⟩
theorem pgs_cons {e : Expr} {es : List Expr} {t : TG} {u : TGs} (h1 : PG X e t) (h2 : PGs X es u)
    (hs : (assignEach (e :: es) X.env).map (·.2) = assign e X.env :: (assignEach es X.env).map (·.2) := by rfl) : PGs X (e :: es) (gCons t u) := by
  intro pins s σ H vs us Q I r h
  obtain ⟨v, vr, e1, h⟩ := h
  subst e1
  cases r with
  | cons r rr =>
    rw [hs]
    refine assignInOrder_cons (thn (h1 pins s σ H _ _ _ I r h) fun _ s1 ⟨σ1, H1, I1, q1⟩ => ?_)
    exact h2 pins s1 σ1 H1 _ _ Q I1 rr q1
def gTup (K : PySem.W.Frag) (n : Nat) (t : TGs) : TG := fun v σ H Q => ∃ a xs, v = .ref a ∧ SqT K H a xs ∧ xs.length = n ∧ t xs σ H Q
theorem pg_tup {es : List Expr} {k : Nat} {t : TGs} {n : Nat} (hc : X.calm = true) (h : PGs X es t)
    (hn : (assignEach es X.env).length = n := by rfl) (hst : (assignEach es X.env).findIdx? (·.1) = none := by rfl) : PG X (.Tuple es k pos) (gTup X.K n t) := by
  intro pins s σ H v u Q I r hw
  obtain ⟨a, xs, e1, hq, hl, hw⟩ := hw
  subst e1
  cases r
  obtain ⟨its, rv, ht, hz⟩ := I.tuple hq
  refine assign_Tuple_tuple (I.ok.hd hc) ht (by simp [hn, ← hl, rv.length]) hst fun h' hx => ?_
  have I1 : Inv X pins σ H { s with heap := h' } := I.kept (t' := s.toks) fun b o e => hx b o (Nat.ne_of_lt (Heap.lt_size e)) e
  exact h pins _ σ H xs _ Q I1 (by simpa using rv) hw
def gSub (to ti : TE) (t : TSet) : TG := fun v σ H Q => to σ H fun o H1 => ti σ H1 fun i H2 => t o i v H2 fun H3 => Q σ H3
theorem pg_sub {o i : Expr} {to ti : TE} {t : TSet} (ho : PE X o to) (hi : PE X i ti) (hs : PSet X t)
    (ha : ∀ v, assign (.Subscript o i pos) X.env v = (do
      let ov ← holding [v] (eval o X.env)
      let iv ← holding [v, ov] (eval i X.env)
      standAt pos
      holding [v, ov, iv] (setItem ov iv v)
      release [v, ov, iv] []) := by intro _; rfl) : PG X (.Subscript o i pos) (gSub to ti t) := by
  intro pins s σ H v u Q I r h
  rw [ha]
  refine wpAny_bind (wpAny_holding (thn (ho pins s σ H _ I h) fun ov s1 ⟨x, H1, I1, r1, q1⟩ => ?_))
  refine wpAny_bind (wpAny_holding (thn (hi pins s1 σ H1 _ I1 q1) fun iv s2 ⟨y, H2, I2, r2, q2⟩ => ?_))
  refine wpAny_bind (wpAny_standAt (wpAny_bind (wpAny_holding (thn (hs pins s2 σ H2 x y v ov iv u _ I2 r1 r2 r q2) fun _ s3 ⟨H3, I3, q3⟩ => ?_))))
  exact wpAny_release ⟨σ, H3, I3, q3⟩
def tAsg (te : TE) (g : TG) : TS := fun D σ H => te σ H fun x H1 => g x σ H1 D.nx
theorem ps_asg {tg e : Expr} {te : TE} {g : TG} (he : PE X e te) (hg : PG X tg g) (hs : swapsWithSole [tg] e pos.line X.env = pure false := by rfl) (hw : swappedStores [tg] e X.env = pure none := by rfl)
    (h1 : (assignEach [tg] X.env).map (·.2) = [assign tg X.env] := by rfl) : PS X (.Assign [tg] e pos) (tAsg te g) := by
  refine ⟨?_⟩
  intro pins s σ H D I h
  refine wpAny_Assign_stores (thn (he pins s σ H _ I h) fun v s1 ⟨x, H1, I1, r1, q1⟩ => ?_) hs hw
  rw [h1]
  exact thn (hg pins s1 σ H1 x v _ I1 r1 q1) fun _ s2 q => q
theorem ps_set {i : Nat} {x : Str} {e : Expr} {te : TE} {pos' : Pos} (hN : X.N.Nodup) (hi : X.N[i]? = some x) (hx : Loc X.env.scope x) (he : PE X e te) (hs : swapsWith e (some (.Name x pos')) pos.line X.env = pure false := by rfl) (hf : X.fn x = true ∨ X.env.scope.names.lookup x = some .local := by first | exact .inl rfl | exact .inr rfl | assumption) :
    PS X (.Assign [.Name x pos'] e pos) (tAsg te (gName i)) := by
  refine ⟨?_⟩
  intro pins s σ H D I h
  refine wpAny_Assign_Name (thn (he pins s σ H _ I h) fun v s1 ⟨y, H1, I1, r1, q1⟩ => ?_) hs
  exact store_ok I1 hN hi hx r1 (fun s2 I2 => ⟨_, H1, I2, q1⟩) hf
def tPar (i j : Nat) (ta : TA) : TS := fun D σ H => ta σ H fun vs H1 => ∃ v w, vs = [v, w] ∧ D.nx ((σ.set i (some v)).set j (some w)) H1
theorem ps_par {i j : Nat} {x y : Str} {a b : Expr} {ta : TA} {px py pt : Pos} {kt k2 pt2} (hc : X.calm = true) (hN : X.N.Nodup) (hi : X.N[i]? = some x) (hj : X.N[j]? = some y) (hij : i ≠ j)
    (hx : X.env.scope.names.lookup x = some .local) (hy : X.env.scope.names.lookup y = some .local) (ha : PA X [a, b] ta)
    (hw : swappedStores [.Tuple [.Name x px, .Name y py] kt pt] (.Tuple [a, b] k2 pt2) X.env = pure (some [x, y]))
    (hs : swapsWithSole [.Tuple [.Name x px, .Name y py] kt pt] (.Tuple [a, b] k2 pt2) pos.line X.env = pure false := by rfl) :
    PS X (.Assign [.Tuple [.Name x px, .Name y py] kt pt] (.Tuple [a, b] k2 pt2) pos) (tPar i j ta) := by
  refine ⟨?_⟩
  intro pins s σ H D I h
  rw [exec_Assign_arm]
  refine wpAny_bind (wpAny_standAt ?_)
  rw [hs]
  refine wpAny_bind (wpAny_pure ?_)
  rw [if_neg (by decide)]
  refine wpAny_bind (Tuple_ (thn (ha _ pins s σ H _ I h) fun us s1 ⟨vs, H1, I1, r1, q1⟩ => ?_))
  obtain ⟨v, w, e1, q1⟩ := q1
  subst e1
  obtain ⟨u1, u2, rfl, rv, rw'⟩ : ∃ u1 u2, us = [u1, u2] ∧ RelV v u1 ∧ RelV w u2 := by
    cases r1 with
    | cons p q =>
      cases q with
      | cons p' q' =>
        cases q'
        exact ⟨_, _, rfl, p, p'⟩
  refine wpAny_newObj_type ?_ (by show 2 ≤ sizeLine; decide)
  have I2 : Inv X pins σ H1 { s1 with heap := s1.heap.push { cls := .type "tuple", data := .seq [u1, u2].toArray } } := I1.kept (t' := s1.toks) fun b o e => Heap.get?_push_of_some _ e
  rw [hw]
  refine wpAny_bind (wpAny_pure ?_)
  show wpAny (model X.prog X.w) X.A (do rule "assign.swapped-stores"; let items ← unpackItems (.ref s1.heap.objs.size) 2 none; assignInOrder [fun v => bindName X.env y v, fun v => bindName X.env x v] items.reverse; pure Flow.next) _ _ _
  refine wpAny_bind (wpAny_rule (wpAny_bind (unpackItems_tuple (items := #[u1, u2]) (I.ok.hd hc) (IsTup.new s1.heap _) fun h' hx' => ?_)))
  have I3 := I2.kept (h' := h') (t' := s1.toks) fun b o e => hx' b o (Nat.ne_of_lt (Heap.lt_size e)) e
  show wpAny _ _ (assignInOrder [fun v => bindName X.env y v, fun v => bindName X.env x v] [u2, u1] >>= fun _ => pure Flow.next) _ _ _
  refine wpAny_bind (assignInOrder_cons (wpAny_bindName (store_ok I3 hN hj (.inl hy) rw' (fun s2 I4 => ?_) (.inr hy))))
  refine assignInOrder_cons (wpAny_bindName (store_ok I4 hN hi (.inl hx) rv (fun s3 I5 => assignInOrder_nil (wpAny_pure ?_)) (.inr hx)))
  rw [List.set_comm _ _ (Ne.symm hij)] at I5
  exact ⟨_, H1, I5, q1⟩
def tAug (i : Nat) (te : TE) (ti : TIp) : TS := fun D σ H => ∃ x, σ[i]? = some (some x) ∧ te σ H fun y H1 => ti x y H1 fun z H2 => D.nx (σ.set i (some z)) H2
theorem ps_aug {i : Nat} {x : Str} {e : Expr} {te : TE} {op : Operator} {ti : TIp} {pos' : Pos} (hN : X.N.Nodup) (hi : X.N[i]? = some x) (hx : Loc X.env.scope x) (he : PE X e te) (ho : PIp X op ti) (hf : X.fn x = true ∨ X.env.scope.names.lookup x = some .local := by first | exact .inl rfl | exact .inr rfl | assumption) :
    PS X (.AugAssign (.Name x pos') op e pos) (tAug i te ti) := by
  refine ⟨?_⟩
  intro pins s σ H D I h
  obtain ⟨v, e1, h⟩ := h
  obtain ⟨m, hn, hl⟩ := I.loc
  have vis : Vis X.env.scope x := by rcases hx with k | k; exact .inl k; exact .inr (.inl k)
  obtain ⟨u, r, l⟩ := hl i x v hi e1 vis
  refine wpAny_AugAssign_Name ?_
  have go : wpAny (model X.prog X.w) X.A (eval e X.env) (fun w s₂ => wpAny (model X.prog X.w) X.A (inplaceOp op u w) (fun r s₃ => wpAny (model X.prog X.w) X.A (storeName X.env x r) (fun _ => SP X pins D .next) X.xe s₃) X.xe s₂) X.xe s := by
    refine thn (he pins s σ H _ I h) fun w s1 ⟨y, H1, I1, r1, q1⟩ => ?_
    refine thn (ho pins s1 σ H1 v y u w _ I1 r r1 q1) fun z s2 ⟨zv, H2, I2, r2, q2⟩ => ?_
    exact store_ok I2 hN hi hx r2 (fun s3 I3 => ⟨_, H2, I3, q2⟩) hf
  rcases l with ⟨hk, hm⟩ | ⟨hk, c, hc, hcell⟩
  · exact wpAny_loadName_local I.ok.kind hk hn hm go
  · rcases hk with hk | hk
    · exact wpAny_loadName_cell I.ok.kind hk hc hcell go
    · rcases hx with k | k
      · have : X.env.scope.names.lookup x = some .free := hk
        rw [k] at this; cases this
      · have : X.env.scope.names.lookup x = some .free := hk
        rw [k] at this; cases this
def tAugS (to ti te : TE) (tget : V → V → Hp → VK → Prop) (tip : TIp) (tset : TSet) : TS := fun D σ H => to σ H fun o H1 => ti σ H1 fun i H2 => tget o i H2 fun x H3 => te σ H3 fun y H4 => tip x y H4 fun z H5 => tset o i z H5 fun H6 => D.nx σ H6
def PGet (X : Cx) (t : V → V → Hp → VK → Prop) : Prop :=
  ∀ (pins : List (Addr × Obj)) (s : Shared) (σ : St) (H : Hp) (o i : V) (ov iv : Value) (Q : VK), Inv X pins σ H s → RelV o ov → RelV i iv → t o i H Q →
    wpAny (model X.prog X.w) X.A (getItem ov iv) (EP X pins σ Q) X.xe s
theorem ps_augS {o i e : Expr} {to ti te : TE} {tget : V → V → Hp → VK → Prop} {tip : TIp} {tset : TSet} {op : Operator} {tpos : Pos} (ho : PE X o to) (hi : PE X i ti) (hg : PGet X tget) (he : PE X e te) (hp : PIp X op tip) (hs : PSet X tset)
    (ha : ∀ ov iv new, augStore i ov iv new = (do holding [new, ov, iv] (setItem ov iv new); release [new, ov, iv] []; pure .next) := by intros; rfl) : PS X (.AugAssign (.Subscript o i tpos) op e pos) (tAugS to ti te tget tip tset) := by
  refine ⟨?_⟩
  intro pins s σ H D I h
  refine wpAny_AugAssign_SubscriptAny (thn (ho pins s σ H _ I h) fun ov s1 ⟨x1, H1, I1, r1, q1⟩ => ?_) ha
  refine thn (hi pins s1 σ H1 _ I1 q1) fun iv s2 ⟨x2, H2, I2, r2, q2⟩ => ?_
  refine thn (hg pins s2 σ H2 x1 x2 ov iv _ I2 r1 r2 q2) fun old s3 ⟨x3, H3, I3, r3, q3⟩ => ?_
  refine thn (he pins s3 σ H3 _ I3 q3) fun v s4 ⟨x4, H4, I4, r4, q4⟩ => ?_
  refine thn (hp pins s4 σ H4 x3 x4 old v _ I4 r3 r4 q4) fun new s5 ⟨x5, H5, I5, r5, q5⟩ => ?_
  exact thn (hs pins s5 σ H5 x1 x2 x5 ov iv new _ I5 r1 r2 r5 q5) fun _ s6 ⟨H6, I6, q6⟩ => ⟨σ, H6, I6, q6⟩
def ipI (f : Int → Int → Int) : TIp := fun x y H Q => ∃ i j, x = .int i ∧ y = .int j ∧ Q (.int (f i j)) H
theorem ip_add : PIp X .Add (ipI fun i j => i + j) := by
  intro pins s σ H x y v u Q I r1 r2 h
  obtain ⟨i, j, e1, e2, q⟩ := h
  subst e1; subst e2
  obtain ⟨t, rfl⟩ := r1
  obtain ⟨t', rfl⟩ := r2
  exact iadd_int ⟨.int _, H, I.tok _, ⟨_, rfl⟩, q⟩
end
section
variable {X : Cx} {pos : Pos}
def tWhile (c : TT) (tb : TS) : TS := fun D σ H => ∃ W : Nat → St → Hp → Prop, (∃ m, W m σ H) ∧ ∀ m σ H, W m σ H →
  c σ H fun b H1 => if b = true then ∃ N : St → Hp → Prop, (∀ σ' H', N σ' H' → ∃ m', m' < m ∧ W m' σ' H') ∧ tb { D with nx := N, ct := N, bk := D.nx } σ H1 else D.nx σ H1
theorem ps_while {c : Expr} {body : List Stmt} {tc : TT} {tb : TS} (hp : PassesOwn (model X.prog X.w) X.A X.env X.xe) (hc : PT X c tc) (hb : PSs X body tb) : PS X (.While c body [] pos) (tWhile tc tb) := by
  refine ⟨?_⟩
  intro pins s σ H D I h
  obtain ⟨W, ⟨m0, w0⟩, turn⟩ := h
  refine wpAny_While (codeAny_whileLoop (fun n s' => ∃ σ' H', Inv X pins σ' H' s' ∧ W n σ' H') ?_ m0 ⟨σ, H, I, w0⟩)
  rintro n s1 ⟨σ1, H1, I1, w1⟩
  refine wpAny_passesOwn hp (thn (hc pins s1 σ1 H1 _ I1 (turn n σ1 H1 w1)) fun b s2 ⟨H2, I2, q2⟩ => ?_)
  cases b with
  | true =>
    obtain ⟨N, hN, q2⟩ := q2
    rw [if_pos rfl]
    refine wpAny_passesOwn hp (thn (hb pins s2 σ1 H2 _ I2 q2) fun f s3 q3 => ?_)
    cases f with
    | next =>
      obtain ⟨σ3, H3, I3, n3⟩ := q3
      obtain ⟨m', hm, w3⟩ := hN σ3 H3 n3
      exact ⟨m', hm, σ3, H3, I3, w3⟩
    | cont =>
      obtain ⟨σ3, H3, I3, n3⟩ := q3
      obtain ⟨m', hm, w3⟩ := hN σ3 H3 n3
      exact ⟨m', hm, σ3, H3, I3, w3⟩
    | brk => exact q3
    | ret v => exact q3
  | false =>
    rw [if_neg Bool.false_ne_true]
    exact wpAny_execs_nil ⟨σ1, H2, I2, q2⟩
end
structure It where
  go : Nat → Hp → Prop
  yld : Nat → Hp → V → Hp → Prop
  stop : Nat → Hp → Prop
def FpOk (X : Cx) (pins : List (Addr × Obj)) (H : Hp) (b : Addr) : Prop :=
  H b = none ∧ b ≠ X.env.locals ∧ b ∉ X.fs ∧ (b ∈ X.ex ∨ X.s₀.heap.objs.size ≤ b) ∧ (∀ x c, X.env.cells.lookup x = some c → c ≠ b) ∧ ∀ p ∈ X.pn ++ pins, p.1 ≠ b
theorem Inv.fpOk {X : Cx} {pins : List (Addr × Obj)} {σ : St} {H H' : Hp} {s : Shared} {b : Addr} (I : Inv X pins σ H s) (hb : s.heap.objs.size ≤ b) (hn : H' b = none) : FpOk X pins H' b := by
  refine ⟨hn, Nat.ne_of_gt (Nat.lt_of_lt_of_le I.lt hb), I.nofs hb, .inr (Nat.le_trans I.sz hb), fun x c e z => ?_, fun p hp z => ?_⟩
  · obtain ⟨v, q⟩ := I.cell x c e
    exact absurd (Nat.lt_of_lt_of_le q.lt (by rw [z]; exact hb)) (Nat.lt_irrefl _)
  · exact absurd (Nat.lt_of_lt_of_le (Heap.lt_size (I.pin p hp).1) (by rw [z]; exact hb)) (Nat.lt_irrefl _)
structure Turn (P : Program) (w : World) (K : PySem.W.Frag) (tg : Expr) (J : It) (fp : List Addr) (it : Addr) (tn : Nat → Heap → Prop) : Prop where
  mem : it ∈ fp
  obj : ∀ i h, tn i h → ∀ b ∈ fp, ∃ o, h.get? b = some o ∧ ∀ v, o.data ≠ .cell v
  keep : ∀ i h h', tn i h → (∀ b ∈ fp, ∀ o, h.get? b = some o → h'.get? b = some o) → tn i h'
  item : ∀ (X : Cx), X.prog = P → X.w = w → X.K = K → X.calm = true → ∀ (i : Nat) (pins : List (Addr × Obj)) (s : Shared) (σ : St) (H : Hp) (E : Value → Shared → Prop), Inv X pins σ H s → (∀ b ∈ fp, FpOk X pins H b) → tn i s.heap → J.go i H →
    wpAny (model P w) X.A (pyNext (.ref it)) (fun r s1 => ∃ u, r = some u ∧
      wpAny (model P w) X.A (letOwnedTupleGo tg (.ref it) u) (fun _ s2 => ∃ x H', Inv X pins σ H' s2 ∧ RelV x u ∧ J.yld i H x H' ∧ tn (i + 1) s2.heap ∧ ∀ b ∈ fp, H' b = none) E s1) E s
  done : ∀ (X : Cx), X.prog = P → X.w = w → X.K = K → X.calm = true → ∀ (i : Nat) (pins : List (Addr × Obj)) (s : Shared) (σ : St) (H : Hp) (E : Value → Shared → Prop), Inv X pins σ H s → (∀ b ∈ fp, FpOk X pins H b) → tn i s.heap → J.stop i H →
    wpAny (model P w) X.A (pyNext (.ref it)) (fun r s1 => r = none ∧ Inv X pins σ H s1) E s
  self : ∀ (A : Around) (i : Nat) (s : Shared) (Q : Value → Shared → Prop) (E : Value → Shared → Prop), tn i s.heap → Q (.ref it) s → wpAny (model P w) A (pyIter (.ref it)) Q E s
abbrev TI := St → Hp → (It → Hp → Prop) → Prop
def PIE (X : Cx) (pins : List (Addr × Obj)) (σ : St) (tg : Expr) (R : It → Hp → Prop) (itv : Value) (s2 : Shared) : Prop :=
  ∃ (it : Addr) (fp : List Addr) (tn : Nat → Heap → Prop) (J : It) (H' : Hp), itv = .ref it ∧ Inv X pins σ H' s2 ∧ Turn X.prog X.w X.K tg J fp it tn ∧ tn 0 s2.heap ∧ (∀ b ∈ fp, FpOk X pins H' b) ∧ R J H'
def PI (X : Cx) (tg iter : Expr) (wi : TI) : Prop :=
  ∀ (pins : List (Addr × Obj)) (s : Shared) (σ : St) (H : Hp) (R : It → Hp → Prop), Inv X pins σ H s → wi σ H R →
    wpAny (model X.prog X.w) X.A (eval iter X.env) (fun v s1 => wpAny (model X.prog X.w) X.A (pyIter v) (PIE X pins σ tg R) X.xe s1) X.xe s
theorem go_of {M : Model} {A : Around} {E : Value → Shared → Prop} {s : Shared} {tg : Expr} {it : Addr} {u : Value} {o : Obj} {n : String} {vs : Array Value} {Q : Unit → Shared → Prop} (ho : s.heap.get? it = some o) (hc : o.cls = .type n) (hd : o.data = .fields vs)
    (hn : ["enumerate", "zip", "dict_itemiterator", "dict_reverseitemiterator", "odict_iterator", "itertools.zip_longest", "itertools.pairwise"].contains n = false) (hQ : Q () s) : wpAny M A (letOwnedTupleGo tg (.ref it) u) Q E s := by
  unfold letOwnedTupleGo
  cases tg <;> first
    | exact wpAny_pure hQ
    | (cases u <;> first
        | exact wpAny_pure hQ
        | (refine wpAny_bind (wpAny_load ho ?_)
           rw [hc, hd]
           show wpAny M A (if (["enumerate", "zip", "dict_itemiterator", "dict_reverseitemiterator", "odict_iterator", "itertools.zip_longest", "itertools.pairwise"].contains n && vs[0]? == some (rawInt _)) = true then _ else _) Q E s
           rw [if_neg (by intro h; rw [hn, Bool.false_and] at h; cases h)]
           exact wpAny_pure hQ))
def Itl (K : PySem.W.Frag) (a : Addr) : It :=
  ⟨fun i H => ∃ xs x, SqL K H a xs ∧ xs[i]? = some x, fun i H x H' => H' = H ∧ ∀ xs, SqL K H a xs → xs[i]? = some x, fun i H => ∃ xs, SqL K H a xs ∧ xs.length ≤ i⟩
def Itr (lo : Int) (n : Nat) : It := ⟨fun i _ => i < n, fun i H x H' => H' = H ∧ x = .int (lo + i), fun i _ => n ≤ i⟩
theorem turn_list {P : Program} {w : World} {K : PySem.W.Frag} {tg : Expr} (a it : Addr) : Turn P w K tg (Itl K a) [it] it (fun i h => h.IsListIter it a i) where
  mem := by simp
  obj := fun i h st b hb => by
    have e : b = it := by simpa using hb
    subst e
    obtain ⟨o, e, c, d⟩ := st
    exact ⟨o, e, fun v z => by rw [d] at z; cases z⟩
  keep := fun i h h' st k => st.at fun o e => k it (by simp) o e
  item := by
    intro X hP hw hK hc i pins s σ H E I hf st hg
    subst hP hw hK
    obtain ⟨xs, x, hq, hx⟩ := hg
    obtain ⟨its, rv, p, hz⟩ := I.list hq
    obtain ⟨u, hu, ru⟩ := rv.get hx
    obtain ⟨f0, f1, f2, f3, f4, f5⟩ := hf it (by simp)
    refine wpAny_pyNext_list_item st p.isList (x := u) (by simpa using hu) fun h' st' sb => ?_
    have I1 : Inv X pins σ H { s with heap := h' } := I.turned (t' := s.toks) (fun b o hb e => (sb.2 b hb).trans e) f0 f1 f3 f4 f5
    obtain ⟨o, e, c, d⟩ := id st'
    exact ⟨u, rfl, go_of (s := { s with heap := h' }) e c d (by decide) ⟨x, H, I1, ru, ⟨rfl, fun ys hy => by rw [I.list_inj hy hq]; exact hx⟩, st', fun b hb => (hf b hb).1⟩⟩
  done := by
    intro X hP hw hK hc i pins s σ H E I hf st hg
    subst hP hw hK
    obtain ⟨xs, hq, hx⟩ := hg
    obtain ⟨its, rv, p, hz⟩ := I.list hq
    obtain ⟨f0, f1, f2, f3, f4, f5⟩ := hf it (by simp)
    have hl := rv.length
    exact wpAny_pyNext_list_end (I.ok.hd hc) st p.isList (by simp; omega) fun h' eb => ⟨rfl, I.turned (t' := s.toks) (fun b o hb e => eb b o hb e) f0 f1 f3 f4 f5⟩
  self := fun _ _ _ _ _ st h => wpAny_pyIter_listiter st h
theorem turn_range {P : Program} {w : World} {K : PySem.W.Frag} {tg : Expr} (it : Addr) (lo : Int) (n : Nat) : Turn P w K tg (Itr lo n) [it] it (fun i h => IsRangeIter h it (lo + (i : Nat) * 1) ((n : Int) - (i : Nat)) 1) where
  mem := by simp
  obj := fun i h st b hb => by
    have e : b = it := by simpa using hb
    subst e
    exact ⟨_, st, fun v z => by
      have z' : Data.fields _ = Data.cell v := z
      cases z'⟩
  keep := fun i h h' st k => k it (by simp) _ st
  item := by
    intro X hP hw hK hc i pins s σ H E I hf st hg
    subst hP hw hK
    obtain ⟨f0, f1, f2, f3, f4, f5⟩ := hf it (by simp)
    have W := Walks.range (prog := X.prog) (w := X.w) (I.ok.hd hc) it lo 1 n
    refine W.item i s _ _ hg st fun v h' tk hv st' kk => ?_
    obtain ⟨t, rfl⟩ := hv
    have I1 : Inv X pins σ H { s with heap := h', toks := tk } := I.turned (fun b o hb e => kk b o (by simpa using hb) e) f0 f1 f3 f4 f5
    refine ⟨_, rfl, go_of (s := { s with heap := h', toks := tk }) (n := "range_iterator") st' rfl rfl (by decide) ⟨.int (lo + i), H, I1, ⟨t, ?_⟩, ⟨rfl, rfl⟩, st', fun b hb => (hf b hb).1⟩⟩
    rw [Int.mul_one]
  done := by
    intro X hP hw hK hc i pins s σ H E I hf st hg
    subst hP hw hK
    obtain ⟨f0, f1, f2, f3, f4, f5⟩ := hf it (by simp)
    exact wpAny_pyNext_range_end (I.ok.hd hc) st (by have : n ≤ i := hg; omega) fun h' eb => ⟨rfl, I.turned (t' := s.toks) (fun b o hb e => eb b o hb e) f0 f1 f3 f4 f5⟩
  self := fun _ _ _ _ _ st h => wpAny_pyIter_rangeiter st h
end L2
namespace L2
open PySem PySem.Spec PyProof.Rows
section
variable {X : Cx} {tg : Expr}
def iList (K : PySem.W.Frag) (tl : TE) : TI := fun σ H R => tl σ H fun x H1 => ∃ a, x = .ref a ∧ (∃ xs, SqL K H1 a xs) ∧ R (Itl K a) H1
theorem pi_list {l : Expr} {tl : TE} (hl : PE X l tl) : PI X tg l (iList X.K tl) := by
  intro pins s σ H R I h
  refine thn (hl pins s σ H _ I h) fun v s1 ⟨x, H1, I1, r1, q1⟩ => ?_
  obtain ⟨a, e, ⟨xs, hq⟩, q⟩ := q1
  subst e
  cases r1
  obtain ⟨its, rv, p, hz⟩ := I1.list hq
  refine wpAny_pyIter_list p.isList ?_
  refine ⟨s1.heap.objs.size, [s1.heap.objs.size], _, _, H1, rfl, I1.kept (t' := s1.toks) fun b o e => Heap.get?_push_of_some _ e, turn_list a _, ⟨_, Heap.get?_push_size _ rfl, rfl, rfl⟩, fun b hb => ?_, q⟩
  have e : b = s1.heap.objs.size := by simpa using hb
  subst e
  exact I1.fpOk (Nat.le_refl _) (I1.hok.fresh (Nat.le_refl _))
theorem range_it {pins : List (Addr × Obj)} {σ : St} {H : Hp} {s : Shared} {R : It → Hp → Prop} {E : Value → Shared → Prop} {lo hi : Int} {t u v : Tok} {tk : Nat} (I : Inv X pins σ H s) (h1 : -(2 ^ 62) ≤ lo) (h2 : lo < 2 ^ 62) (h3 : -(2 ^ 62) ≤ hi) (h4 : hi < 2 ^ 62)
    (q : R (Itr lo (hi - lo).toNat) H) : wpAny (model X.prog X.w) X.A (pyIter (.ref s.heap.objs.size)) (PIE X pins σ tg R) E { s with heap := s.heap.push { cls := .type "range", data := .fields #[.int lo t, .int hi u, .int 1 v] }, toks := tk } := by
  refine wpAny_pyIter_range (IsRange.new ..) (small_one h1 h2 h3 h4) ?_
  have I1 : Inv X pins σ H { s with heap := s.heap.push { cls := .type "range", data := .fields #[.int lo t, .int hi u, .int 1 v] }, toks := tk } := I.kept fun b o e => Heap.get?_push_of_some _ e
  refine ⟨(s.heap.push { cls := .type "range", data := .fields #[.int lo t, .int hi u, .int 1 v] }).objs.size, [(s.heap.push { cls := .type "range", data := .fields #[.int lo t, .int hi u, .int 1 v] }).objs.size], _, _, H, rfl,
    I1.kept (t' := tk) fun b o e => Heap.get?_push_of_some _ e, turn_range _ lo (hi - lo).toNat, ?_, fun b hb => ?_, q⟩
  · have e1 : lo + ((0 : Nat) : Int) * 1 = lo := by simp
    have e2 : (((hi - lo).toNat : Nat) : Int) - ((0 : Nat) : Int) = Builtin.Range.rangeSize lo hi 1 := by rw [rangeSize_one]; split <;> omega
    show IsRangeIter _ _ (lo + ((0 : Nat) : Int) * 1) ((((hi - lo).toNat : Nat) : Int) - ((0 : Nat) : Int)) 1
    rw [e1, e2]
    exact Heap.get?_push_size _ rfl
  · have e : b = (s.heap.push { cls := .type "range", data := .fields #[.int lo t, .int hi u, .int 1 v] }).objs.size := by simpa using hb
    subst e
    exact I1.fpOk (Nat.le_refl _) (I1.hok.fresh (Nat.le_refl _))
def iRng1 (ta : TA) : TI := fun σ H R => ta σ H fun vs H1 => ∃ j : Int, vs = [.int j] ∧ -(2 ^ 62) ≤ j ∧ j < 2 ^ 62 ∧ R (Itr 0 j.toNat) H1
theorem pi_range1 {a : Expr} {ta : TA} {p pos : Pos} (hg : Gl X "range") (hm : X.mg "range" = none) (ha : PA X [a] ta) (hs : starEach [a] X.env = [(false, eval a X.env)] := by rfl) : PI X tg (.Call (.Name "range" p) [a] [] pos) (iRng1 ta) := by
  intro pins s σ H R I h
  refine Call_ (ld_blt I hg hm boot_range (PyProof.Rows.callWith_type1 (thn (ha pos pins s σ H _ I h) fun us s1 ⟨vs, H1, I1, r1, q1⟩ => ?_) hs rfl))
  obtain ⟨j, e, q1, q2, q⟩ := q1
  subst e
  cases r1 with
  | cons r rr =>
    cases rr
    obtain ⟨t, rfl⟩ := r
    exact call_range_1 (range_it I1 (by omega) (by omega) q1 q2 (by simpa using q))
def tFor (wi : TI) (g : TG) (tb : TS) : TS := fun D σ H => wi σ H fun J H1 => ∃ W : Nat → Nat → St → Hp → Prop, (∃ m, W 0 m σ H1) ∧ ∀ i m σ H, W i m σ H →
  (J.stop i H ∧ D.nx σ H) ∨ (J.go i H ∧ ∃ N : St → Hp → Prop, (∀ σ' H', N σ' H' → ∃ m', m' < m ∧ W (i + 1) m' σ' H') ∧ ∀ x H', J.yld i H x H' → g x σ H' fun σ2 H2 => tb { D with nx := N, ct := N, bk := D.nx } σ2 H2)
def pinsAt (fp : List Addr) (h : Heap) : List (Addr × Obj) := fp.filterMap fun b => (h.get? b).map fun o => (b, o)
theorem mem_pinsAt {fp : List Addr} {h : Heap} {b : Addr} {o : Obj} (hb : b ∈ fp) (e : h.get? b = some o) : (b, o) ∈ pinsAt fp h := List.mem_filterMap.mpr ⟨b, hb, by rw [e]; rfl⟩
theorem of_pinsAt {fp : List Addr} {h : Heap} {p : Addr × Obj} (hp : p ∈ pinsAt fp h) : p.1 ∈ fp ∧ h.get? p.1 = some p.2 := by
  obtain ⟨b, hb, e⟩ := List.mem_filterMap.mp hp
  cases q : h.get? b with
  | none => rw [q] at e; cases e
  | some o =>
    rw [q] at e
    have e' : (b, o) = p := Option.some.inj e
    subst e'
    exact ⟨hb, q⟩
theorem Inv.pinned {pins : List (Addr × Obj)} {σ : St} {H : Hp} {s : Shared} {fp : List Addr} (I : Inv X pins σ H s) (hf : ∀ b ∈ fp, FpOk X pins H b) (ho : ∀ b ∈ fp, ∃ o, s.heap.get? b = some o ∧ ∀ v, o.data ≠ .cell v) : Inv X (pins ++ pinsAt fp s.heap) σ H s :=
  I.pins_of fun p hp => (List.mem_append.mp hp).elim (fun z => I.pin p (List.mem_append_right _ z)) fun z => by
    obtain ⟨hb, e⟩ := of_pinsAt z
    obtain ⟨f0, f1, f2, _⟩ := hf p.1 hb
    obtain ⟨o, e', d⟩ := ho p.1 hb
    rw [e] at e'; cases e'
    exact ⟨e, f0, f1, f2, d⟩
theorem Inv.unpinned {pins pl : List (Addr × Obj)} {σ : St} {H : Hp} {s : Shared} (I : Inv X (pins ++ pl) σ H s) : Inv X pins σ H s := I.pins_of fun p hp => I.pin p (List.mem_append_right _ (List.mem_append_left _ hp))
theorem ps_for {iter : Expr} {body : List Stmt} {wi : TI} {g : TG} {tb : TS} {pos : Pos} (hp : PassesOwn (model X.prog X.w) X.A X.env X.xe) (hc : X.calm = true) (hi : PI X tg iter wi) (hg : PG X tg g) (hb : PSs X body tb)
    (hs : ∀ x, foldedSetIterable iter X.env x = pure x := by intro _; rfl) : PS X (.For tg iter body [] pos) (tFor wi g tb) := by
  refine ⟨?_⟩
  intro pins s σ H D I h
  refine wpAny_For (thn (hi pins s σ H _ I h) fun v s1 h1 => thn h1 fun itv s2 h2 => ?_) hs
  obtain ⟨it, fp, tn, J, H2, e, I2, T, st2, f2, W, ⟨m0, w0⟩, turn⟩ := h2
  subst e
  -- what stays true of the iterator's objects through the loop
  have stat : ∀ {H' : Hp}, (∀ b ∈ fp, H' b = none) → ∀ b ∈ fp, FpOk X pins H' b := fun hn b hb => ⟨hn b hb, (f2 b hb).2⟩
  refine codeAny_forLoop_any (fun n s' => ∃ i σ' H', Inv X pins σ' H' s' ∧ tn i s'.heap ∧ (∀ b ∈ fp, H' b = none) ∧ W i n σ' H') ?_ m0 ⟨0, σ, H2, I2, st2, fun b hb => (f2 b hb).1, w0⟩
  rintro n s3 ⟨i, σ3, H3, I3, st3, fr3, w3⟩
  rcases turn i n σ3 H3 w3 with ⟨stop, qn⟩ | ⟨go, N, hN, step⟩
  · refine wpAny_passesOwn hp (thn (T.done X rfl rfl rfl hc i pins s3 σ3 H3 X.xe I3 (stat fr3) st3 stop) fun r s4 ⟨hr, I4⟩ => ?_)
    subst hr
    exact wpAny_execs_nil ⟨σ3, H3, I4, qn⟩
  · refine wpAny_passesOwn hp (thn (T.item X rfl rfl rfl hc i pins s3 σ3 H3 X.xe I3 (stat fr3) st3 go) fun r s4 ⟨u, hr, h4⟩ => ?_)
    subst hr
    refine wpAny_passesOwn hp (thn h4 fun _ s5 ⟨x, H5, I5, r5, y5, st5, fr5⟩ => ?_)
    have I5' := I5.pinned (stat fr5) (T.obj _ _ st5)
    refine wpAny_passesOwn hp (thn (hg _ s5 σ3 H5 x u _ I5' r5 (step x H5 y5)) fun _ s6 ⟨σ6, H6, I6, q6⟩ => ?_)
    refine wpAny_passesOwn hp (thn (hb _ s6 σ6 H6 _ I6 q6) fun f s7 q7 => ?_)
    have again : ∀ {σ7 : St} {H7 : Hp}, Inv X (pins ++ pinsAt fp s5.heap) σ7 H7 s7 → N σ7 H7 → ∃ m, m < n ∧ ∃ i σ' H', Inv X pins σ' H' s7 ∧ tn i s7.heap ∧ (∀ b ∈ fp, H' b = none) ∧ W i m σ' H' := fun {σ7 H7} I7 n7 => by
      obtain ⟨m', hm, w7⟩ := hN σ7 H7 n7
      refine ⟨m', hm, i + 1, σ7, H7, I7.unpinned, T.keep _ _ _ st5 fun b hb o e => (I7.pin (b, o) (List.mem_append_right _ (List.mem_append_right _ (mem_pinsAt hb e)))).1, fun b hb => ?_, w7⟩
      obtain ⟨o, e, d⟩ := T.obj _ _ st5 b hb
      exact (I7.pin (b, o) (List.mem_append_right _ (List.mem_append_right _ (mem_pinsAt hb e)))).2.1
    cases f with
    | next => obtain ⟨σ7, H7, I7, n7⟩ := q7; exact again I7 n7
    | cont => obtain ⟨σ7, H7, I7, n7⟩ := q7; exact again I7 n7
    | brk => obtain ⟨σ7, H7, I7, q7⟩ := q7; exact ⟨σ7, H7, I7.unpinned, q7⟩
    | ret v => obtain ⟨x7, σ7, H7, I7, r7, q7⟩ := q7; exact ⟨x7, σ7, H7, I7.unpinned, r7, q7⟩
end
end L2
namespace L2
open PySem PySem.Spec PyProof.Rows
abbrev R2 := V → V → Hp → VK → Prop
def OpR (X : Cx) (f : Value → Value → Sem Value) (r : R2) : Prop :=
  ∀ (pins : List (Addr × Obj)) (s : Shared) (σ : St) (H : Hp) (x y : V) (v u : Value) (Q : VK), Inv X pins σ H s → RelV x v → RelV y u → r x y H Q →
    wpAny (model X.prog X.w) X.A (f v u) (EP X pins σ Q) X.xe s
def UnR (X : Cx) (f : Value → Sem Value) (r : V → Hp → VK → Prop) : Prop :=
  ∀ (pins : List (Addr × Obj)) (s : Shared) (σ : St) (H : Hp) (x : V) (v : Value) (Q : VK), Inv X pins σ H s → RelV x v → r x H Q →
    wpAny (model X.prog X.w) X.A (f v) (EP X pins σ Q) X.xe s
def CallR (X : Cx) (f : Value) (r : List V → Hp → VK → Prop) : Prop :=
  ∀ (pins : List (Addr × Obj)) (s : Shared) (σ : St) (H : Hp) (xs : List V) (us : List Value) (Q : VK), Inv X pins σ H s → Vals xs us → r xs H Q →
    wpAny (model X.prog X.w) X.A (call f us) (EP X pins σ Q) X.xe s
def tOp (r : R2) (ta tb : TE) : TE := fun σ H Q => ta σ H fun x H1 => tb σ H1 fun y H2 => r x y H2 Q
def tUn (r : V → Hp → VK → Prop) (ta : TE) : TE := fun σ H Q => ta σ H fun x H1 => r x H1 Q
def rI (C : Int → Int → Prop) (g : Int → Int → V) : R2 := fun x y H Q => ∃ i j, x = .int i ∧ y = .int j ∧ C i j ∧ Q (g i j) H
def rI0 (g : Int → Int → V) : R2 := fun x y H Q => ∃ i j, x = .int i ∧ y = .int j ∧ Q (g i j) H
def rU (g : Int → V) : V → Hp → VK → Prop := fun x H Q => ∃ i, x = .int i ∧ Q (g i) H
section
variable {X : Cx} {a b c : Expr} {ta tb tc : TE} {pos : Pos}
theorem binT (ha : PE X a ta) (hb : PE X b tb) {pins : List (Addr × Obj)} {s : Shared} {σ : St} {H : Hp} {R : V → V → Hp → Prop} (I : Inv X pins σ H s)
    (h : ta σ H fun x H1 => tb σ H1 fun y H2 => R x y H2) {Q : Value → Shared → Prop} {f : Value → Value → Sem Value}
    (hf : ∀ v u s2 x y H2, Inv X pins σ H2 s2 → RelV x v → RelV y u → R x y H2 → wpAny (model X.prog X.w) X.A (f v u) Q X.xe s2) :
    wpAny (model X.prog X.w) X.A (eval a X.env) (fun v s₁ => wpAny (model X.prog X.w) X.A (eval b X.env) (fun u s₂ => wpAny (model X.prog X.w) X.A (f v u) Q X.xe s₂) X.xe s₁) X.xe s := by
  refine thn (ha pins s σ H _ I h) fun v s1 ⟨x, H1, I1, r1, q1⟩ => ?_
  refine thn (hb pins s1 σ H1 _ I1 q1) fun u s2 ⟨y, H2, I2, r2, q2⟩ => ?_
  exact hf v u s2 x y H2 I2 r1 r2 q2
theorem pe_op {op : Operator} {r : R2} (ho : OpR X (binaryOp op) r) (ha : PE X a ta) (hb : PE X b tb) : PE X (.BinOp a op b pos) (tOp r ta tb) := by
  refine ⟨?_⟩
  intro pins s σ H Q I h
  exact wpAny_BinOp (binT ha hb I h fun v u s2 x y H2 I2 rx ry q => ho pins s2 σ H2 x y v u Q I2 rx ry q)
theorem pe_un {op : UnaryOp} {r : V → Hp → VK → Prop} (ho : UnR X (unaryOp op) r) (ha : PE X a ta) : PE X (.UnaryOp op a pos) (tUn r ta) := by
  refine ⟨?_⟩
  intro pins s σ H Q I h
  exact UnaryOp_ (thn (ha pins s σ H _ I h) fun v s1 ⟨x, H1, I1, r1, q1⟩ => ho pins s1 σ H1 x v Q I1 r1 q1)
theorem opI {f : Value → Value → Sem Value} {C : Int → Int → Prop} {g : Int → Int → Int}
    (rule : ∀ (i j : Int) (t u : Tok) (s : Shared) (Q : Value → Shared → Prop) (E : Value → Shared → Prop), C i j → Q (.int (g i j) s.toks) { s with toks := s.toks + 1 } → wpAny (model X.prog X.w) X.A (f (.int i t) (.int j u)) Q E s) :
    OpR X f (rI C fun i j => .int (g i j)) := by
  intro pins s σ H x y v u Q I rx ry h
  obtain ⟨i, j, rfl, rfl, hc, q⟩ := h
  obtain ⟨t, rfl⟩ := rx
  obtain ⟨t', rfl⟩ := ry
  exact rule i j t t' s _ _ hc ⟨.int (g i j), H, I.tok _, ⟨_, rfl⟩, q⟩
theorem opI0 {f : Value → Value → Sem Value} {g : Int → Int → Int}
    (rule : ∀ (i j : Int) (t u : Tok) (s : Shared) (Q : Value → Shared → Prop) (E : Value → Shared → Prop), Q (.int (g i j) s.toks) { s with toks := s.toks + 1 } → wpAny (model X.prog X.w) X.A (f (.int i t) (.int j u)) Q E s) :
    OpR X f (rI0 fun i j => .int (g i j)) := by
  intro pins s σ H x y v u Q I rx ry h
  obtain ⟨i, j, rfl, rfl, q⟩ := h
  obtain ⟨t, rfl⟩ := rx
  obtain ⟨t', rfl⟩ := ry
  exact rule i j t t' s _ _ ⟨.int (g i j), H, I.tok _, ⟨_, rfl⟩, q⟩
theorem opB0 {f : Value → Value → Sem Value} {g : Int → Int → Bool}
    (rule : ∀ (i j : Int) (t u : Tok) (s : Shared) (Q : Value → Shared → Prop) (E : Value → Shared → Prop), Q (.bool (g i j)) s → wpAny (model X.prog X.w) X.A (f (.int i t) (.int j u)) Q E s) :
    OpR X f (rI0 fun i j => .bl (g i j)) := by
  intro pins s σ H x y v u Q I rx ry h
  obtain ⟨i, j, rfl, rfl, q⟩ := h
  obtain ⟨t, rfl⟩ := rx
  obtain ⟨t', rfl⟩ := ry
  exact rule i j t t' s _ _ ⟨.bl (g i j), H, I, rfl, q⟩
def CPow (i j : Int) : Prop := 0 ≤ j ∧ j ≤ 1000000 ∧ i.natAbs < 2 ^ 64
def CMul (i j : Int) : Prop := (-(2 ^ 64) < i ∧ i < 2 ^ 64) ∨ (-(2 ^ 64) < j ∧ j < 2 ^ 64)
theorem op_add : OpR X (binaryOp .Add) (rI0 fun i j => .int (i + j)) := opI0 fun _ _ _ _ _ _ _ q => add_int q
theorem op_sub : OpR X (binaryOp .Sub) (rI0 fun i j => .int (i - j)) := opI0 fun _ _ _ _ _ _ _ q => sub_int q
theorem op_modN : OpR X (binaryOp .Mod) (rI (fun _ j => j ≠ 0) fun i j => .int (i.fmod j)) := opI fun _ _ _ _ _ _ _ hc q => mod_int' hc q
theorem op_pow : OpR X (binaryOp .Pow) (rI CPow fun i j => .int (i ^ j.toNat)) := opI fun _ _ _ _ _ _ _ hc q => pow_int_small hc.1 hc.2.1 hc.2.2 q
theorem iop_sub : OpR X (inplaceOp .Sub) (rI0 fun i j => .int (i - j)) := opI0 fun _ _ _ _ _ _ _ q => isub_int q
theorem unI {f : Value → Sem Value} {g : Int → Int}
    (rule : ∀ (i : Int) (t : Tok) (s : Shared) (Q : Value → Shared → Prop) (E : Value → Shared → Prop), Q (.int (g i) s.toks) { s with toks := s.toks + 1 } → wpAny (model X.prog X.w) X.A (f (.int i t)) Q E s) :
    UnR X f (rU fun i => .int (g i)) := by
  intro pins s σ H x v Q I rx h
  obtain ⟨i, rfl, q⟩ := h
  obtain ⟨t, rfl⟩ := rx
  exact rule i t s _ _ ⟨.int (g i), H, I.tok _, ⟨_, rfl⟩, q⟩
theorem un_neg : UnR X (unaryOp .USub) (rU fun i => .int (-i)) := unI fun _ _ _ _ _ q => neg_int q
end
def scal : V → V → Bool
  | .non, .non => true | .non, .int _ => true | .int _, .non => true | .non, .bl _ => true | .bl _, .non => true | .non, .str _ => true | .str _, .non => true
  | .int _, .int _ => true | .bl _, .bl _ => true | .str _, .str _ => true | .byt _, .byt _ => true
  | .int _, .str _ => true | .str _, .int _ => true | .bl _, .str _ => true | .str _, .bl _ => true
  | _, _ => false
def rEq : R2 := fun x y H Q => scal x y = true ∧ Q (.bl (decide (x = y))) H
def rNe : R2 := fun x y H Q => scal x y = true ∧ Q (.bl (!decide (x = y))) H
theorem dec_int {i j : Int} : decide (V.int i = V.int j) = (i == j) := by
  rw [Bool.eq_iff_iff]
  simp
theorem dec_bl {i j : Bool} : decide (V.bl i = V.bl j) = (i == j) := by
  rw [Bool.eq_iff_iff]
  simp
theorem dec_str {i j : Str} : decide (V.str i = V.str j) = (i == j) := by
  rw [Bool.eq_iff_iff]
  simp
theorem dec_byt {i j : Array UInt8} : decide (V.byt i = V.byt j) = (i.toList == j.toList) := by
  rw [Bool.eq_iff_iff]
  cases i
  cases j
  simp
section
variable {X : Cx} {a b c : Expr} {ta tb tc : TE} {pos : Pos}
theorem fin_bl {pins : List (Addr × Obj)} {σ : St} {H : Hp} {s : Shared} {Q : VK} {k k' : Bool} (I : Inv X pins σ H s) (q : Q (.bl k) H) (e : k = k') : EP X pins σ Q (.bool k') s := by
  subst e
  exact ⟨.bl k, H, I, rfl, q⟩
theorem op_eq : OpR X (compareOp .Eq) rEq := by
  intro pins s σ H x y v u Q I rx ry h
  obtain ⟨hs, q⟩ := h
  cases x with
  | non =>
    cases rx
    cases y with
    | non => cases ry; exact PySem.EqNone.eq_none_none (fin_bl I q (by simp))
    | bl j => cases ry; exact PySem.EqNone.eq_none_bool (fin_bl I q (by simp))
    | int j => obtain ⟨t', rfl⟩ := ry; exact PySem.EqNone.eq_none_int (fin_bl I q (by simp))
    | str j => obtain ⟨t', rfl⟩ := ry; exact PySem.EqNone.eq_none_str (fin_bl I q (by simp))
    | _ => exact absurd (show false = true from hs) Bool.false_ne_true
  | bl i =>
    cases rx
    cases y with
    | non => cases ry; exact PySem.EqNone.eq_bool_none (fin_bl I q (by simp))
    | bl j => cases ry; exact eq_bool (fin_bl I q dec_bl)
    | str j => obtain ⟨t', rfl⟩ := ry; exact PySem.EqMixed.eq_bool_str (fin_bl I q (by simp))
    | _ => exact absurd (show false = true from hs) Bool.false_ne_true
  | int i =>
    obtain ⟨t, rfl⟩ := rx
    cases y with
    | non => cases ry; exact PySem.EqNone.eq_int_none (fin_bl I q (by simp))
    | int j => obtain ⟨t', rfl⟩ := ry; exact eq_int (fin_bl I q dec_int)
    | str j => obtain ⟨t', rfl⟩ := ry; exact PySem.EqMixed.eq_int_str (fin_bl I q (by simp))
    | _ => exact absurd (show false = true from hs) Bool.false_ne_true
  | str i =>
    obtain ⟨t, rfl⟩ := rx
    cases y with
    | non => cases ry; exact PySem.EqNone.eq_str_none (fin_bl I q (by simp))
    | bl j => cases ry; exact PySem.EqMixed.eq_str_bool (fin_bl I q (by simp))
    | int j => obtain ⟨t', rfl⟩ := ry; exact PySem.EqMixed.eq_str_int (fin_bl I q (by simp))
    | str j => obtain ⟨t', rfl⟩ := ry; exact eq_str (fin_bl I q dec_str)
    | _ => exact absurd (show false = true from hs) Bool.false_ne_true
  | byt i =>
    obtain ⟨t, rfl⟩ := rx
    cases y with
    | byt j => obtain ⟨t', rfl⟩ := ry; exact PySem.W.eq_bytes (fin_bl I q dec_byt)
    | _ => exact absurd (show false = true from hs) Bool.false_ne_true
  | _ => cases y <;> exact absurd (show false = true from hs) Bool.false_ne_true
theorem op_ne : OpR X (compareOp .NotEq) rNe := by
  intro pins s σ H x y v u Q I rx ry h
  obtain ⟨hs, q⟩ := h
  cases x with
  | non =>
    cases rx
    cases y with
    | non => cases ry; exact PySem.EqNone.ne_none_none (fin_bl I q (by simp))
    | bl j => cases ry; exact PySem.EqNone.ne_none_bool (fin_bl I q (by simp))
    | int j => obtain ⟨t', rfl⟩ := ry; exact PySem.EqNone.ne_none_int (fin_bl I q (by simp))
    | str j => obtain ⟨t', rfl⟩ := ry; exact PySem.EqNone.ne_none_str (fin_bl I q (by simp))
    | _ => exact absurd (show false = true from hs) Bool.false_ne_true
  | bl i =>
    cases rx
    cases y with
    | non => cases ry; exact PySem.EqNone.ne_bool_none (fin_bl I q (by simp))
    | bl j => cases ry; exact ne_bool (fin_bl I q (congrArg not dec_bl))
    | str j => obtain ⟨t', rfl⟩ := ry; exact PySem.EqMixed.ne_bool_str (fin_bl I q (by simp))
    | _ => exact absurd (show false = true from hs) Bool.false_ne_true
  | int i =>
    obtain ⟨t, rfl⟩ := rx
    cases y with
    | non => cases ry; exact PySem.EqNone.ne_int_none (fin_bl I q (by simp))
    | int j => obtain ⟨t', rfl⟩ := ry; exact ne_int (fin_bl I q (congrArg not dec_int))
    | str j => obtain ⟨t', rfl⟩ := ry; exact PySem.EqMixed.ne_int_str (fin_bl I q (by simp))
    | _ => exact absurd (show false = true from hs) Bool.false_ne_true
  | str i =>
    obtain ⟨t, rfl⟩ := rx
    cases y with
    | non => cases ry; exact PySem.EqNone.ne_str_none (fin_bl I q (by simp))
    | bl j => cases ry; exact PySem.EqMixed.ne_str_bool (fin_bl I q (by simp))
    | int j => obtain ⟨t', rfl⟩ := ry; exact PySem.EqMixed.ne_str_int (fin_bl I q (by simp))
    | str j => obtain ⟨t', rfl⟩ := ry; exact ne_str (fin_bl I q (congrArg not dec_str))
    | _ => exact absurd (show false = true from hs) Bool.false_ne_true
  | byt i =>
    obtain ⟨t, rfl⟩ := rx
    cases y with
    | byt j => obtain ⟨t', rfl⟩ := ry; exact PySem.W.ne_bytes (fin_bl I q (congrArg not dec_byt))
    | _ => exact absurd (show false = true from hs) Bool.false_ne_true
  | _ => cases y <;> exact absurd (show false = true from hs) Bool.false_ne_true
theorem op_lt : OpR X (compareOp .Lt) (rI0 fun i j => .bl (decide (i < j))) := opB0 fun _ _ _ _ _ _ _ q => lt_int q
theorem op_le : OpR X (compareOp .LtE) (rI0 fun i j => .bl (decide (i ≤ j))) := opB0 fun _ _ _ _ _ _ _ q => le_int q
theorem op_gt : OpR X (compareOp .Gt) (rI0 fun i j => .bl (decide (j < i))) := opB0 fun _ _ _ _ _ _ _ q => gt_int q
theorem op_ge : OpR X (compareOp .GtE) (rI0 fun i j => .bl (decide (j ≤ i))) := opB0 fun _ _ _ _ _ _ _ q => ge_int q
theorem op_in_str : OpR X (compareOp .In) (fun x y H Q => ∃ i j, x = .str i ∧ y = .str j ∧ Q (.bl (!(Builtin.Str.occurrences j i 0 j.length 1).isEmpty)) H) := by
  intro pins s σ H x y v u Q I rx ry h
  obtain ⟨i, j, rfl, rfl, q⟩ := h
  obtain ⟨t, rfl⟩ := rx
  obtain ⟨t', rfl⟩ := ry
  exact in_str (fin_bl I q rfl)
theorem op_notin_str : OpR X (compareOp .NotIn) (fun x y H Q => ∃ i j, x = .str i ∧ y = .str j ∧ Q (.bl (!(!(Builtin.Str.occurrences j i 0 j.length 1).isEmpty))) H) := by
  intro pins s σ H x y v u Q I rx ry h
  obtain ⟨i, j, rfl, rfl, q⟩ := h
  obtain ⟨t, rfl⟩ := rx
  obtain ⟨t', rfl⟩ := ry
  exact notIn_str (fin_bl I q rfl)
theorem nomark (b : Expr) {op : CmpOp} (h : op ≠ .In := by decide) (h2 : op ≠ .NotIn := by decide) : behindInMarks op b = false := by
  have e1 : (op == CmpOp.In) = false := by cases op <;> first | rfl | exact absurd rfl h
  have e2 : (op == CmpOp.NotIn) = false := by cases op <;> first | rfl | exact absurd rfl h2
  cases b <;> simp [behindInMarks, e1, e2]
theorem pe_cmpR {op : CmpOp} {r : R2} (ho : OpR X (compareOp op) r) (ha : PE X a ta) (hb : PE X b tb) (hm : behindInMarks op b = false) : PE X (.Compare a [op] [b] pos) (tOp r ta tb) := by
  refine ⟨?_⟩
  intro pins s σ H Q I h
  exact wpAny_Compare1 (binT ha hb I h fun v u s2 x y H2 I2 rx ry q => ho pins s2 σ H2 x y v u Q I2 rx ry q) hm
def tTest (t : TE) : TT := fun σ H Q => t σ H fun x H' => ∃ k, x = .bl k ∧ Q k H'
theorem pt_cmpR {op : CmpOp} {r : R2} (ho : OpR X (compareOp op) r) (ha : PE X a ta) (hb : PE X b tb) (hm : behindInMarks op b = false) : PT X (.Compare a [op] [b] pos) (tTest (tOp r ta tb)) := by
  refine ⟨?_⟩
  intro pins s σ H Q I h
  refine wpAny_isTrue_Compare1 (thn (ha pins s σ H _ I h) fun v s1 ⟨x, H1, I1, r1, q1⟩ => thn (hb pins s1 σ H1 _ I1 q1) fun u s2 ⟨y, H2, I2, r2, q2⟩ =>
    thn (ho pins s2 σ H2 x y v u _ I2 r1 r2 q2) fun c s3 ⟨z, H3, I3, r3, k, e, q3⟩ => ?_) hm
  subst e
  cases r3
  exact wpAny_truthy_bool ⟨H3, I3, q3⟩
def tChain (r r' : R2) (ta tb tc : TE) : TE := fun σ H Q => ta σ H fun x H1 => tb σ H1 fun y H2 => r x y H2 fun z H3 => ∃ k, z = .bl k ∧
  (if k = true then tc σ H3 fun w' H4 => r' y w' H4 Q else Q (.bl false) H3)
theorem pe_chain {op op' : CmpOp} {r r' : R2} (ho : OpR X (compareOp op) r) (ho' : OpR X (compareOp op') r') (ha : PE X a ta) (hb : PE X b tb) (hc : PE X c tc)
    (hm : lastMarks [op, op'] [b, c] = false := by with_unfolding_all rfl) : PE X (.Compare a [op, op'] [b, c] pos) (tChain r r' ta tb tc) := by
  refine ⟨?_⟩
  intro pins s σ H Q I h
  refine Compare_chain (thn (ha pins s σ H _ I h) fun v s1 ⟨x, H1, I1, r1, q1⟩ => chain_link (thn (hb pins s1 σ H1 _ I1 q1) fun u s2 ⟨y, H2, I2, r2, q2⟩ =>
    thn (ho pins s2 σ H2 x y v u _ I2 r1 r2 q2) fun d s3 ⟨z, H3, I3, r3, k, e, q3⟩ => ?_)) hm
  subst e
  cases r3
  refine wpAny_truthy_bool ?_
  cases k with
  | false => exact ite_ff ⟨.bl false, H3, I3, rfl, q3⟩
  | true => exact ite_tt (chain_last (thn (hc pins s3 σ H3 _ I3 q3) fun w' s4 ⟨z', H4, I4, r4, q4⟩ => ho' pins s4 σ H4 y z' u w' Q I4 r2 r4 q4))
theorem line63 : (sizeLine : Nat) < 2 ^ 63 := by rw [sizeLine_eq]; decide
theorem op_add_str : OpR X (binaryOp .Add) (fun x y H Q => ∃ i j, x = .str i ∧ y = .str j ∧ i.length + j.length ≤ sizeLine ∧ Q (.str (i ++ j)) H) := by
  intro pins s σ H x y v u Q I rx ry h
  obtain ⟨i, j, rfl, rfl, hz, q⟩ := h
  obtain ⟨t, rfl⟩ := rx
  obtain ⟨t', rfl⟩ := ry
  exact add_str (fun t' tk => ⟨.str (i ++ j), H, I.tok _, ⟨_, rfl⟩, q⟩) hz
theorem vals1 {x : V} {us : List Value} (r : Vals [x] us) : ∃ u, us = [u] ∧ RelV x u := by
  cases r with
  | cons r1 r2 => cases r2; exact ⟨_, rfl, r1⟩
theorem vals2 {x y : V} {us : List Value} (r : Vals [x, y] us) : ∃ u w', us = [u, w'] ∧ RelV x u ∧ RelV y w' := by
  cases r with
  | cons r1 r2 =>
    cases r2 with
    | cons r3 r4 => cases r4; exact ⟨_, _, rfl, r1, r3⟩
theorem call_abs : CallR X (.builtin "abs") (fun xs H Q => ∃ i, xs = [.int i] ∧ Q (.int (if i < 0 then -i else i)) H) := by
  intro pins s σ H xs us Q I r h
  obtain ⟨i, rfl, q⟩ := h
  obtain ⟨u, rfl, t, rfl⟩ := vals1 r
  exact call_abs_int fun u tk => ⟨.int (if i < 0 then -i else i), H, I.tok _, ⟨_, rfl⟩, q⟩
theorem call_max2 (hc : X.calm = true) : CallR X (.builtin "max") (fun xs H Q => ∃ i j, xs = [.int i, .int j] ∧ Q (.int (if j > i then j else i)) H) := by
  intro pins s σ H xs us Q I r h
  obtain ⟨i, j, rfl, q⟩ := h
  obtain ⟨u, w', rfl, ⟨t, rfl⟩, ⟨t', rfl⟩⟩ := vals2 r
  refine max_two_ints (I.ok.hd hc) fun h' tk k => ⟨_, H, I.kept k, ?_, q⟩
  by_cases hj : j > i
  · rw [if_pos hj, if_pos hj]; exact ⟨_, rfl⟩
  · rw [if_neg hj, if_neg hj]; exact ⟨_, rfl⟩
theorem call_min2 (hc : X.calm = true) : CallR X (.builtin "min") (fun xs H Q => ∃ i j, xs = [.int i, .int j] ∧ Q (.int (if j < i then j else i)) H) := by
  intro pins s σ H xs us Q I r h
  obtain ⟨i, j, rfl, q⟩ := h
  obtain ⟨u, w', rfl, ⟨t, rfl⟩, ⟨t', rfl⟩⟩ := vals2 r
  refine min_two_ints (I.ok.hd hc) fun h' tk k => ⟨_, H, I.kept k, ?_, q⟩
  by_cases hj : j < i
  · rw [if_pos hj, if_pos hj]; exact ⟨_, rfl⟩
  · rw [if_neg hj, if_neg hj]; exact ⟨_, rfl⟩
theorem call_int1 : CallR X (.type "int") (fun xs H Q => (∃ i, xs = [.int i] ∧ Q (.int i) H) ∨ ∃ k, xs = [.bl k] ∧ Q (.int (if k then 1 else 0)) H) := by
  intro pins s σ H xs us Q I r h
  rcases h with ⟨i, rfl, q⟩ | ⟨k, rfl, q⟩
  · obtain ⟨u, rfl, t, rfl⟩ := vals1 r
    exact call_int_int ⟨.int i, H, I, ⟨_, rfl⟩, q⟩
  · obtain ⟨u, rfl, r1⟩ := vals1 r
    cases r1
    exact call_int_bool ⟨.int (if k then 1 else 0), H, I.tok _, ⟨_, rfl⟩, q⟩
theorem call_str_int : CallR X (.type "str") (fun xs H Q => ∃ i, xs = [.int i] ∧ i.natAbs.log2 < 1920 ∧ Q (.str (toString i)) H) := by
  intro pins s σ H xs us Q I r h
  obtain ⟨i, rfl, hz, q⟩ := h
  obtain ⟨u, rfl, t, rfl⟩ := vals1 r
  exact PySem.P.str_of_int hz ⟨.str _, H, I.tok _, ⟨_, rfl⟩, q⟩
def LenV (K : PySem.W.Frag) (x : V) (H : Hp) (n : Nat) : Prop :=
  match x with
  | .str y => y.length ≤ sizeLine ∧ n = y.length
  | .byt y => y.size ≤ sizeLine ∧ n = y.size
  | .ref p => (∃ xs, SqL K H p xs ∧ n = xs.length) ∨ ∃ xs, SqT K H p xs ∧ n = xs.length
  | _ => False
theorem call_len : CallR X (.builtin "len") (fun xs H Q => ∃ x n, xs = [x] ∧ LenV X.K x H n ∧ Q (.int n) H) := by
  intro pins s σ H xs us Q I r h
  obtain ⟨x, n, rfl, e, q⟩ := h
  obtain ⟨u, rfl, rx⟩ := vals1 r
  have hl := line63
  have hs : sizeLine = 16777216 := sizeLine_eq
  cases x with
  | str y =>
    obtain ⟨t, rfl⟩ := rx
    obtain ⟨hy, e'⟩ : y.length ≤ sizeLine ∧ n = y.length := e
    subst e'
    exact len_str (by omega) ⟨.int _, H, I.tok _, ⟨_, rfl⟩, q⟩
  | byt y =>
    obtain ⟨t, rfl⟩ := rx
    obtain ⟨hy, e'⟩ : y.size ≤ sizeLine ∧ n = y.size := e
    subst e'
    exact PySem.W.len_bytes (by omega) ⟨.int _, H, I.tok _, ⟨_, rfl⟩, q⟩
  | ref p =>
    cases rx
    have e' : (∃ xs, SqL X.K H p xs ∧ n = xs.length) ∨ ∃ xs, SqT X.K H p xs ∧ n = xs.length := e
    rcases e' with ⟨xs, hx, e'⟩ | ⟨xs, hx, e'⟩
    · subst e'
      obtain ⟨its, r', pl, hz⟩ := I.list hx
      have hlen := r'.length
      exact Calls.call_len_list pl.isList (by simp only [List.size_toArray]; omega) ⟨.int xs.length, H, I.tok _, ⟨_, by simp only [List.size_toArray]; rw [hlen]⟩, q⟩
    · subst e'
      obtain ⟨its, r', pl, hz⟩ := I.tuple hx
      have hlen := r'.length
      exact len_tuple pl (by simp only [List.size_toArray]; omega) ⟨.int xs.length, H, I.tok _, ⟨_, by simp only [List.size_toArray]; rw [hlen]⟩, q⟩
  | _ => exact (show False from e).elim
end
end L2
namespace L2
open PySem PySem.Spec PyProof.Rows
structure ObjM (h : Heap) (x dx C : Addr) (mA : Str → Option Value) : Prop where
  obj : h.get? x = some (PySem.W.instObj C dx)
  ns : h.Ns1 dx mA
  ne : dx ≠ x
section
variable {prog : Program} {w : World} {A : Around} {E : Value → Shared → Prop} {s : Shared} {K : PySem.W.Frag} {x dx C f : Addr} {mA : Str → Option Value} {name : Str} {v : Value}
end
section
variable {P : Program} {w : World} {H H' : Hp} {h h' : Heap} {a C dx : Addr} {fs fs' : List (Str × V)}
end
structure Cls (K : PySem.W.Frag) (C : Addr) : Prop where
  pg : PySem.W.plainGet K C Str.empty = true
  hd : PySem.W.hasDictIn K C = true
  po : PySem.W.plainOver K C = true
  sa : PySem.W.findIn K (.ref C) "__setattr__" = some (some (.builtin "object.__setattr__"))
structure Con (K : PySem.W.Frag) (C : Addr) (f : Str) (v : V) (u : Value) : Prop where
  at_ : PySem.W.findIn K (.ref C) f = some (some u)
  rel : RelV v u
  get : PySem.W.specialIn K u "__get__" = some none
  cp : PySem.W.copiedNames.contains f = false
structure Meth (K : PySem.W.Frag) (C : Addr) (m : Str) (f : Addr) : Prop where
  at_ : PySem.W.findIn K (.ref C) m = some (some (.ref f))
  fn : PySem.W.isFn K (.ref f) = true
  kp : PySem.W.keepIn K (.ref f) = true
section
variable {X : Cx} {pins : List (Addr × Obj)} {σ : St} {H : Hp} {s : Shared} {a C dx : Addr} {fs : List (Str × V)} {f : Str} {v : V} {A : Around} {E : Value → Shared → Prop}
end
section
variable {X : Cx} {o e value : Expr} {f : Str} {pos pos' tpos : Pos} {ta tv : TE}
end
section
variable {X : Cx} {pins : List (Addr × Obj)} {σ : St} {H : Hp} {s : Shared} {A : Around} {E : Value → Shared → Prop} {Q : Value → Shared → Prop} {c : Value} {b : Bool}
inductive TyOf (K : PySem.W.Frag) (H : Hp) : V → Value → Prop where
  | non : TyOf K H .non (.type "NoneType")
  | bl (x : Bool) : TyOf K H (.bl x) (.type "bool")
  | int (i : Int) : TyOf K H (.int i) (.type "int")
  | str (x : Str) : TyOf K H (.str x) (.type "str")
  | flt (x : UInt64) : TyOf K H (.flt x) (.type "float")
  | lst {a : Addr} {xs : List V} (e : H a = some (.lst xs)) : TyOf K H (.ref a) (.type "list")
  | frz {a : Addr} {o : Obj} {xs : List V} (e : H a = some (.frz o (.lst xs))) : TyOf K H (.ref a) (.type "list")
  | tup {a : Addr} {xs : List V} (e : H a = some (.tup xs)) : TyOf K H (.ref a) (.type "tuple")
  | dK {a : Addr} {kvs : List (Key × V)} (e : H a = some (.dK kvs)) : TyOf K H (.ref a) (.type "dict")
  | dT {a : Addr} {kvs : List (List Key × V)} (e : H a = some (.dT kvs)) : TyOf K H (.ref a) (.type "dict")
  | ins {a C dx : Addr} {fs : List (Str × V)} (e : H a = some (.ins C dx fs)) (cl : Cls K C) (ha : PySem.W.findIn K (.ref C) "__class__" = some (some (.builtin "object.__class__")))
      (hn : PySem.W.specialIn K (.builtin "object.__class__") "__get__" = some (some (.builtin "getset_descriptor.__get__"))) (htk : PySem.W.takesIn K (.builtin "object.__class__") = some true)
      (hm : PySem.W.mroIn K C (.type "object") = some true) : TyOf K H (.ref a) (.ref C)
end
end L2
namespace L2
open PySem PySem.Spec PyProof.Rows
structure Room (k : Nat) (A : Around) : Prop where
  hd : A.handled = none
  dp : A.depth + 3 * k + 5 < recursionLimit
  un : A.units + 16 * k + 200 < cLine
  gd : A.guards = some []
theorem Room.mono {j k : Nat} {A : Around} (r : Room k A) (h : j ≤ k) : Room j A := ⟨r.hd, by have := r.dp; omega, by have := r.un; omega, r.gd⟩
theorem Room.deeper {k : Nat} {A : Around} (r : Room (k + 1) A) (env : Env) : Room k (A.deeper env) :=
  ⟨r.hd, by have := r.dp; show A.depth + 1 + 3 * k + 5 < _; omega, by have := r.un; show A.units + 3 + 16 * k + 200 < _; omega, r.gd⟩
theorem Room.depth {k : Nat} {A : Around} (r : Room k A) : A.depth < recursionLimit := by have := r.dp; omega
theorem Room.units {k : Nat} {A : Around} (r : Room k A) : A.units + 64 < cLine := by have := r.un; omega
def tNil : TA := fun _ H Q => Q [] H
def tCons (ta : TE) (tr : TA) : TA := fun σ H Q => ta σ H fun x H1 => tr σ H1 fun xs H2 => Q (x :: xs) H2
section
variable {X : Cx} {e : Expr} {es : List Expr} {te : TE} {t : TA} {pos : Pos}
theorem pa_nil : PA X [] tNil := ⟨fun _ _ _ _ H Q I h => Calls.spliced_nil ⟨[], H, I, .nil, h⟩⟩
theorem pa_cons (ha : PE X e te) (hr : PA X es t) (hs : starEach (e :: es) X.env = (false, eval e X.env) :: starEach es X.env := by rfl) : PA X (e :: es) (tCons te t) := by
  refine ⟨?_⟩
  intro pos pins s σ H Q I h
  rw [hs]
  show wpAny _ _ (spliced ((false, eval e X.env) :: backTo pos (starEach es X.env))) _ _ s
  refine Calls.spliced_cons (thn (ha pins s σ H _ I h) fun u s1 ⟨x, H1, I1, r1, q1⟩ => ?_)
  exact thn (hr pos pins s1 σ H1 _ I1 q1) fun us s2 ⟨xs, H2, I2, r2, q2⟩ => ⟨x :: xs, H2, I2, .cons r1 r2, q2⟩
def tTup (t : TA) : TE := fun σ H Q => t σ H fun xs H1 => xs.length ≤ sizeLine ∧ ∀ p, H1 p = none → Q (.ref p) (upd H1 p (.tup xs))
def tLst (t : TA) : TE := fun σ H Q => t σ H fun xs H1 => xs.length ≤ sizeLine ∧ ∀ p, H1 p = none → Q (.ref p) (upd H1 p (.lst xs))
theorem pe_tup {x1} (h : PA X es t) : PE X (.Tuple es x1 pos) (tTup t) := by
  refine ⟨?_⟩
  intro pins s σ H Q I hq
  refine wpAny_Tuple_spliced (thn (h pos pins s σ H _ I hq) fun us s1 ⟨xs, H1, I1, r, z, q⟩ => ⟨by rw [← r.length]; exact z, ?_⟩)
  have hf : H1 s1.heap.objs.size = none := I1.hok.fresh (Nat.le_refl _)
  refine ⟨.ref s1.heap.objs.size, upd H1 s1.heap.objs.size (.tup xs), I1.laid (t' := s1.toks) (fun b u e => Heap.get?_push_of_some _ e) (Nat.le_refl _) ?_, rfl, q _ hf⟩
  exact ⟨z, us, r, ⟨_, Heap.get?_push_size _ rfl, rfl, _, rfl⟩⟩
theorem pe_lst (h : PA X es t) : PE X (.List es pos) (tLst t) := by
  refine ⟨?_⟩
  intro pins s σ H Q I hq
  refine wpAny_List_spliced (thn (h pos pins s σ H _ I hq) fun us s1 ⟨xs, H1, I1, r, z, q⟩ => ⟨by rw [← r.length]; exact z, ?_⟩)
  have hf : H1 s1.heap.objs.size = none := I1.hok.fresh (Nat.le_refl _)
  refine ⟨.ref s1.heap.objs.size, upd H1 s1.heap.objs.size (.lst xs), I1.laid (t' := s1.toks) (fun b u e => Heap.get?_push_of_some _ e) (Nat.le_refl _) ?_, rfl, q _ hf⟩
  exact ⟨z, us, 0, r, Heap.get?_push_size _ rfl⟩
end
abbrev Sp := List V → Hp → VK → XK → Prop
abbrev CXT := List Env → Hp → Shared → XK → Value → Shared → Prop
structure Env0 (P : Program) (w : World) (K : PySem.W.Frag) (mg : Str → Option Value) (base : Heap) (A : Around) (outer : List Env) (s : Shared) (H : Hp) : Prop where
  frames : A.frames = some outer
  mod : Mod K mg base
  bs : ∀ b o, base.get? b = some o → s.heap.get? b = some o ∧ H b = none
  bsz : base.objs.size ≤ s.heap.objs.size
  funs : s.heap.FunFrames base outer
  frf : ∀ b ∈ frs outer, H b = none
  hok : HOk P w H s.heap
  bare : AllBare s.gens
def CE (outer : List Env) (P : Program) (w : World) (H : Hp) (s : Shared) (Q : VK) (u : Value) (s' : Shared) : Prop :=
  ∃ v H', s'.os = s.os ∧ AllBare s'.gens ∧ Un (frs outer) [] H H' s.heap s'.heap ∧ HOk P w H' s'.heap ∧ RelV v u ∧ Q v H'
def CR (CX : CXT) (outer : List Env) (P : Program) (w : World) (H : Hp) (s : Shared) (Q : VK) (E : XK) (r : Result) (s' : Shared) : Prop :=
  match r with
  | .ok (.ret u) => CE outer P w H s Q u s'
  | .ok _ => False
  | .error e => CX outer H s E e s'
structure FnOk (P : Program) (w : World) (K : PySem.W.Frag) (mg : Str → Option Value) (base : Heap) (CX : CXT) (k : Nat) (f : Addr) (fd : FuncData) (ps : List Str) (sp : Sp) : Prop where
  len : ∀ vs H Q E, sp vs H Q E → vs.length = ps.length
  run : ∀ (A : Around) (outer : List Env) (s : Shared) (H : Hp) (args : Args) (us : List Value) (vs : List V) (Q : VK) (E : XK), Room k A → Env0 P w K mg base A outer s H → BindsTo s fd args (ps.zip us) → Vals vs us → sp vs H Q E →
    codeAny (model P w) A (.call (.ref f) args) (CR CX outer P w H s Q E) s
section
variable {X : Cx} {pins : List (Addr × Obj)} {σ : St} {H : Hp} {s s' : Shared}
theorem Inv.env0 (I : Inv X pins σ H s) : Env0 X.prog X.w X.K X.mg X.base X.A X.stack s H :=
  ⟨I.ok.frames, I.ok.mod, I.bs, Nat.le_trans I.ok.bsz I.sz, I.stack, I.stkFree, I.hok, I.bare⟩
theorem Inv.after {Q : VK} {u : Value} (I : Inv X pins σ H s) (h : CE X.stack X.prog X.w H s Q u s') : EP X pins σ Q u s' := by
  obtain ⟨v, H', os, bare, un, hok, r, q⟩ := h
  obtain ⟨hh, g, d, t, os'⟩ := s'
  obtain rfl : os' = s.os := os
  exact ⟨v, H', I.call (h' := hh) (g' := g) (d' := d) (t' := t) (ch := []) un hok bare (fun b z => absurd z (by simp)), r, q⟩
end
def tCall (sp : Sp) (dvs : List V) (E : XK) (t : TA) : TE := fun σ H Q => t σ H fun vs H1 => sp (vs ++ dvs) H1 Q E
def Binds (K : PySem.W.Frag) (fd : FuncData) (ps : List Str) (ds : List Value) : Prop :=
  ∀ (s : Shared) (us : List Value), K.In s.heap → (us ++ ds).length = ps.length → BindsTo s fd ⟨us, []⟩ (ps.zip (us ++ ds))
theorem Binds.all {K : PySem.W.Frag} {fd : FuncData} {ps : List Str} (h : ∀ us : List Value, us.length = ps.length → bindArgs fd ⟨us, []⟩ = pure (ps.zip us)) : Binds K fd ps [] := fun s us _ hl => by
  rw [List.append_nil] at hl ⊢
  exact .of_eq (h us hl)
def Passes (CX : CXT) (X : Cx) (E : XK) : Prop := ∀ (pins : List (Addr × Obj)) (σ : St) (H : Hp) (s : Shared) (e : Value) (s' : Shared), Inv X pins σ H s → CX X.stack H s E e s' → X.xe e s'
section
variable {X : Cx} {CX : CXT} {k : Nat} {f C : Addr} {fd : FuncData} {ps : List Str} {sp : Sp} {dvs : List V} {ds : List Value} {E : XK} {x m : Str} {p pos apos : Pos} {e o : Expr} {es : List Expr} {ta : TE} {t : TA}
theorem run_fn {pins : List (Addr × Obj)} {σ : St} {H : Hp} {s : Shared} {Q : VK} {us : List Value} {vs : List V} (F : FnOk X.prog X.w X.K X.mg X.base CX k f fd ps sp) (hr : Room k X.A) (hb : Binds X.K fd ps ds) (hd : Vals dvs ds) (hx : Passes CX X E)
    (I : Inv X pins σ H s) (r : Vals vs us) (h : sp (vs ++ dvs) H Q E) : wpAny (model X.prog X.w) X.A (call (.ref f) us) (EP X pins σ Q) X.xe s := by
  have r2 : Vals (vs ++ dvs) (us ++ ds) := r.append hd
  have hl : (us ++ ds).length = ps.length := by rw [← r2.length]; exact F.len _ _ _ _ h
  refine wpAny_call (codeAny_mono (F.run X.A X.stack s H ⟨us, []⟩ (us ++ ds) (vs ++ dvs) Q E hr I.env0 (hb s us I.kIn hl) r2 h) fun r s' hq => ?_)
  cases r with
  | error e => exact hx pins σ H s e s' I hq
  | ok fl =>
    cases fl with
    | ret u => exact I.after hq
    | next => exact False.elim hq
    | brk => exact False.elim hq
    | cont => exact False.elim hq
theorem pe_call (F : FnOk X.prog X.w X.K X.mg X.base CX k f fd ps sp) (hr : Room k X.A) (hg : Gl X x) (hm : X.mg x = some (.ref f)) (hk : PySem.W.keepIn X.K (.ref f) = true) (hb : Binds X.K fd ps ds) (hd : Vals dvs ds) (hx : Passes CX X E)
    (ha : PA X (e :: es) t) (hdb : (x == ("__debug__" : Str)) = false := by decide) (he : starEach (e :: es) X.env = (false, eval e X.env) :: starEach es X.env := by rfl) (hpl : (backTo pos (starEach es X.env)).any (·.1) = false := by rfl) :
    PE X (.Call (.Name x p) (e :: es) [] pos) (tCall sp dvs E t) := by
  refine ⟨?_⟩
  intro pins s σ H Q I h
  refine wpAny_Call_Name_kw (ld_glob I hg hm ?_ hdb)
  refine PySem.W.callWith_K (h₀ := X.base) I.ok.mod.kin hk (thn (ha pos pins s σ H _ I h) fun us s1 ⟨vs, H1, I1, r, q⟩ => ⟨I1.kIn, ?_⟩) he hpl
  exact run_fn F hr hb hd hx I1 r q
structure Mk (K : PySem.W.Frag) (C f : Addr) : Prop where
  makes : PySem.W.makesIn K C = true
  init : PySem.W.findIn K (.ref C) "__init__" = some (some (.ref f))
  fn : PySem.W.isFn K (.ref f) = true
  kp : PySem.W.keepIn K (.ref C) = true
end
section
variable {X : Cx} {CX : CXT} {k : Nat} {f C : Addr} {fd : FuncData} {ps ks : List Str} {sp : Sp} {E : XK} {x m : Str} {p pos apos kpos : Pos} {e o : Expr} {es : List Expr} {kws : List Keyword} {te ta : TE} {t tk : TA} {nm : Option Str}
structure KBinds (K : PySem.W.Frag) (fd : FuncData) (ps ks : List Str) (g : List Value → List Value → List Value) (gV : List V → List V → List V) : Prop where
  to : ∀ (s : Shared) (us ws : List Value), K.In s.heap → (g us ws).length = ps.length → BindsTo s fd ⟨us, ks.zip ws⟩ (ps.zip (g us ws))
  rel : ∀ {vs : List V} {us : List Value} {zs : List V} {ws : List Value}, Vals vs us → Vals zs ws → Vals (gV vs zs) (g us ws)
variable {g : List Value → List Value → List Value} {gV : List V → List V → List V}
end
structure FnScope (N P : List Str) (sc : Scope) : Prop where
  kind : sc.kind = .function
  co : sc.isCoroutine = false
  gen : sc.isGenerator = false
  nd : N.Nodup
  pre : N.take P.length = P
  par : ∀ x ∈ P, sc.names.lookup x = some .local ∨ sc.names.lookup x = some .cell
  nofree : ∀ y ∈ sc.names, y.2 ≠ .free
theorem bindL_out {kindOf : Str → Option NameKind} {x : Str} : ∀ {binds : List (Str × Value)} {m : Str → Option Value}, (∀ v, (x, v) ∉ binds) → bindL kindOf binds m x = m x
  | [], _, _ => rfl
  | (n, v) :: r, m, h => by
    unfold bindL
    rw [bindL_out fun w hw => h w (List.mem_cons_of_mem _ hw)]
    split
    · have : x ≠ n := by rintro rfl; exact h v List.mem_cons_self
      simp [this]
    · rfl
theorem bindC_out {kindOf : Str → Option NameKind} {x : Str} : ∀ {binds : List (Str × Value)} {m : Str → Option Value}, (∀ v, (x, v) ∉ binds) → bindC kindOf binds m x = m x
  | [], _, _ => rfl
  | (n, v) :: r, m, h => by
    unfold bindC
    rw [bindC_out fun w hw => h w (List.mem_cons_of_mem _ hw)]
    split
    · rfl
    · have : x ≠ n := by rintro rfl; exact h v List.mem_cons_self
      simp [this]
theorem bindL_get {kindOf : Str → Option NameKind} {x : Str} {v : Value} : ∀ {P : List Str} {vs : List Value} {i : Nat} {m : Str → Option Value}, P.Nodup → P[i]? = some x → vs[i]? = some v → kindOf x = some .local →
    bindL kindOf (P.zip vs) m x = some v
  | [], _, _, _, _, h, _, _ => by simp at h
  | _ :: _, [], _, _, _, _, h, _ => by simp at h
  | p :: P, w :: vs, 0, m, nd, h1, h2, hk => by
    simp at h1 h2; subst h1; subst h2
    show bindL kindOf ((p, w) :: P.zip vs) m p = _
    unfold bindL
    rw [bindL_out fun v hv => (List.nodup_cons.mp nd).1 (List.of_mem_zip hv).1, if_pos hk]
    simp
  | p :: P, w :: vs, i + 1, m, nd, h1, h2, hk => by
    show bindL kindOf ((p, w) :: P.zip vs) m x = _
    unfold bindL
    exact bindL_get (i := i) (List.nodup_cons.mp nd).2 (by simpa using h1) (by simpa using h2) hk
theorem bindC_get {kindOf : Str → Option NameKind} {x : Str} {v : Value} : ∀ {P : List Str} {vs : List Value} {i : Nat} {m : Str → Option Value}, P.Nodup → P[i]? = some x → vs[i]? = some v → kindOf x ≠ some .local →
    bindC kindOf (P.zip vs) m x = some v
  | [], _, _, _, _, h, _, _ => by simp at h
  | _ :: _, [], _, _, _, _, h, _ => by simp at h
  | p :: P, w :: vs, 0, m, nd, h1, h2, hk => by
    simp at h1 h2; subst h1; subst h2
    show bindC kindOf ((p, w) :: P.zip vs) m p = _
    unfold bindC
    rw [bindC_out fun v hv => (List.nodup_cons.mp nd).1 (List.of_mem_zip hv).1, if_neg hk]
    simp
  | p :: P, w :: vs, i + 1, m, nd, h1, h2, hk => by
    show bindC kindOf ((p, w) :: P.zip vs) m x = _
    unfold bindC
    exact bindC_get (i := i) (List.nodup_cons.mp nd).2 (by simpa using h1) (by simpa using h2) hk
def start (N : List Str) (vs : List V) : St := vs.map some ++ List.replicate (N.length - vs.length) none
def cxOf (CX : CXT) (P : Program) (w : World) (K : PySem.W.Frag) (mg : Str → Option Value) (base : Heap) (N : List Str) (qual : Str) (scope : Scope) (f : Addr) (cd : Value) (A : Around) (outer : List Env) (s : Shared) (H : Hp) (E : XK) : Cx where
  prog := P
  w := w
  K := K
  mg := mg
  base := base
  A := A.deeper (envOfC qual scope s.heap.objs.size f cd)
  N := N
  s₀ := s
  H₀ := H
  env := envOfC qual scope s.heap.objs.size f cd
  outer := outer
  stack := envOfC qual scope s.heap.objs.size f cd :: outer
  ex := []
  calm := true
  fn := fun _ => true
  pn := []
  xe := fun e s' => wpAny (model P w) (A.deeper (envOfC qual scope s.heap.objs.size f cd)) (leaving (envOfC qual scope s.heap.objs.size f cd) e) (fun _ s'' => CX outer H s E e s'') (fun e' s'' => CX outer H s E e' s'') s'
theorem cell_has {sc : Scope} {n : Nat} {x : Str} (h : sc.names.lookup x = some .cell) : ∃ c, (cellsFrom n sc.names []).lookup x = some c := by
  have q := PySem.W.cellsFrom_some sc.names n [] (.inl h)
  exact Option.isSome_iff_exists.mp q
theorem inv_start {CX : CXT} {P : Program} {w : World} {K : PySem.W.Frag} {mg : Str → Option Value} {base : Heap} {N ps : List Str} {qual : Str} {scope : Scope} {f : Addr} {cd : Value} {A : Around} {outer : List Env} {s s1 : Shared} {H : Hp} {E : XK} {us : List Value} {vs : List V}
    (S : FnScope N ps scope) (hd : A.handled = none) (e0 : Env0 P w K mg base A outer s H) (hl : vs.length = ps.length) (r : Vals vs us)
    (x : InCallC s s.heap.objs.size (bindL (envOfC qual scope s.heap.objs.size f cd).kindOf (ps.zip us) fun _ => none) (cellsFrom (s.heap.objs.size + 1) scope.names []) (bindC (envOfC qual scope s.heap.objs.size f cd).kindOf (ps.zip us) fun _ => none) s1) :
    Inv (cxOf CX P w K mg base N qual scope f cd A outer s H E) [] (start N vs) H s1 := by
  have hpl : ps.length ≤ N.length := by have := congrArg List.length S.pre; rw [List.length_take] at this; omega
  obtain ⟨h1, tk, rfl, hk⟩ := x.done
  have noA : ∀ b : Addr, b ∉ (cxOf CX P w K mg base N qual scope f cd A outer s H E).ex := fun b z => absurd (show b ∈ ([] : List Addr) from z) (by simp)
  refine ⟨⟨e0.mod, S.kind, rfl, rfl, Nat.le_refl _, fun y z c h1 h2 => ?_, fun y hy => ?_, fun y c _ h => ?_, fun _ => hd, Around.frames_deeper e0.frames, .inr ⟨rfl, rfl⟩, fun b z => absurd z (noA b), e0.bs, e0.bsz, fun b _ _ => noA b, fun b z => absurd z (noA b), e0.funs, e0.frf⟩,
    rfl, e0.bare, Un.kept hk, ⟨_, x.toInCall.ns, fun i y v h1 h2 h3 => ?_⟩, fun y c h => ⟨_, x.cell y c h⟩, e0.hok.fresh (Nat.le_refl _), fun y c h => ?_, fun p hp => absurd (show p ∈ ([] : List (Addr × Obj)) from hp) (by simp), e0.hok.kept hk, ?_⟩
  · exact name_of_addr x.apart (PySem.mem_of_lookup h1) (PySem.mem_of_lookup h2)
  · have hy : scope.names.lookup y = some .cell ∨ scope.names.lookup y = some .free := hy
    rcases hy with hy | hy
    · exact cell_has hy
    · exact absurd rfl (S.nofree _ (PySem.mem_of_lookup hy))
  · exact Nat.le_of_lt (x.above y c (PySem.mem_of_lookup h))
  · have hi : i < vs.length := by
      unfold start at h2
      by_cases hi : i < vs.length
      · exact hi
      · rw [List.getElem?_append_right (by simpa using hi)] at h2
        rw [List.getElem?_replicate] at h2
        split at h2 <;> cases h2
    have ha : vs[i]? = some v := by
      unfold start at h2
      rw [List.getElem?_append_left (by simpa using hi), List.getElem?_map] at h2
      cases e : vs[i]? with
      | none => rw [e] at h2; cases h2
      | some a => rw [e] at h2; cases h2; rfl
    obtain ⟨u, hu, rv⟩ := r.get ha
    have hp : ps[i]? = some y := by
      rw [← S.pre, List.getElem?_take_of_lt (by omega)]; exact h1
    have ndP : ps.Nodup := by rw [← S.pre]; exact S.nd.sublist (List.take_sublist _ _)
    refine ⟨u, rv, ?_⟩
    rcases S.par y (List.mem_of_getElem? hp) with k | k
    · exact .inl ⟨k, bindL_get ndP hp hu k⟩
    · obtain ⟨c, e⟩ := cell_has (n := s.heap.objs.size + 1) k
      refine .inr ⟨.inl k, c, e, ?_⟩
      have q := x.cell y c e
      rw [bindC_get ndP hp hu (by show scope.names.lookup y ≠ _; rw [k]; decide)] at q
      exact q
  · exact e0.hok.fresh (Nat.le_of_lt (x.above y c (PySem.mem_of_lookup h)))
  · unfold start
    show _ = N.length
    rw [List.length_append, List.length_map, List.length_replicate]
    omega
theorem fn_of {CX : CXT} {P : Program} {w : World} {K : PySem.W.Frag} {mg : Str → Option Value} {base : Heap} {k : Nat} {f : Addr} {name qual : Str} {params : Arguments} {body : List Stmt} {scope : Scope} {dV kV doc pm cdv ct oc : Value} {an od : Option Addr}
    {osl : Array (Option Value)} {N ps : List Str} {sp : Sp} (lk : K.lookup f = some ⟨oc, od, .func (PySem.W.fnOf name qual params body scope dV kV doc pm an cdv ct), osl⟩) (hcd : PySem.W.codeIn K cdv qual = true) (S : FnScope N ps scope)
    (len : ∀ vs H Q E, sp vs H Q E → vs.length = ps.length)
    (hbody : ∀ (A : Around) (outer : List Env) (s : Shared) (H : Hp) (vs : List V) (Q : VK) (E : XK), Room k (A.deeper (envOfC qual scope s.heap.objs.size f cdv)) → sp vs H Q E →
      ∃ t, PSs (cxOf CX P w K mg base N qual scope f cdv A outer s H E) body t ∧ t { nx := fun _ H' => Q .non H', rt := Q } (start N vs) H) :
    FnOk P w K mg base CX (k + 1) f (PySem.W.fnOf name qual params body scope dV kV doc pm an cdv ct) ps sp := by
  refine ⟨len, fun A outer s H args us vs Q E hr e0 hb r hsp => ?_⟩
  have hl := len _ _ _ _ hsp
  have KX : K.In s.heap := e0.mod.kin.keeps fun b o e => (e0.bs b o e).1
  have lim : s.heap.NoLimit := e0.mod.nolimit.keeps fun b o e => (e0.bs b o e).1
  have hkind : ∀ y ∈ ps.zip us, scope.names.lookup y.1 = some .local ∨ (scope.names.lookup y.1 = some .cell ∧ ((cellsFrom (s.heap.objs.size + 1) scope.names []).lookup y.1).isSome = true) := fun ⟨n, v⟩ hy => by
    rcases S.par n (List.of_mem_zip hy).1 with q | q
    · exact .inl q
    · exact .inr ⟨q, PySem.W.cellsFrom_some _ _ _ (.inl q)⟩
  refine codeAny_call_function hr.depth (KX _ _ lk) rfl S.co S.gen rfl (PySem.W.codeRec_of KX hcd) (hb _ _ _ _ ?_)
  refine wpAny_newFunctionEnv_cells S.kind hkind fun env he s1 x => ?_
  subst he
  refine ⟨lim.keeps x.toInCall.keep, codeAny_func ?_⟩
  obtain ⟨t, ht, hq⟩ := hbody A outer s H vs Q E (hr.deeper _) hsp
  have I : Inv (cxOf CX P w K mg base N qual scope f cdv A outer s H E) [] (start N vs) H s1 := inv_start S hr.hd e0 hl r x
  refine wpAny_mono (ht [] s1 (start N vs) H _ I hq) (fun fl s' hs => ?_) fun e s' hs => hs
  have fin : ∀ {σ' : St} {H' : Hp} {v : V} {u : Value}, Inv (cxOf CX P w K mg base N qual scope f cdv A outer s H E) [] σ' H' s' → RelV v u → Q v H' → CE outer P w H s Q u s' :=
    fun {σ' H' v u} J rv q => ⟨v, H', J.os, J.bare, J.base, J.hok, rv, q⟩
  cases fl with
  | ret u =>
    obtain ⟨v, σ', H', J, rv, q⟩ := hs
    exact fin J rv q
  | next =>
    obtain ⟨σ', H', J, q⟩ := hs
    exact fin (v := V.non) (u := Value.none) J rfl q
  | brk =>
    obtain ⟨_, _, _, q⟩ := hs
    exact False.elim q
  | cont =>
    obtain ⟨_, _, _, q⟩ := hs
    exact False.elim q
end L2
namespace L2
open PySem PySem.Spec PyProof.Rows
section
variable {X : Cx} {x : Str} {p pos : Pos} {e : Expr} {es : List Expr} {t : TA} {id T : String} {r : List V → Hp → VK → Prop}
def tCB (r : List V → Hp → VK → Prop) (t : TA) : TE := fun σ H Q => t σ H fun vs H1 => r vs H1 Q
theorem pe_callB (hc : CallR X (.builtin id) r) (hg : Gl X x) (hm : X.mg x = none) (hv : bootBuiltins x = some (.builtin id)) (ha : PA X (e :: es) t) (hn : x ≠ "__name__" := by decide) (hdb : (x == ("__debug__" : Str)) = false := by decide)
    (he : starEach (e :: es) X.env = (false, eval e X.env) :: starEach es X.env := by rfl) (hpl : (backTo pos (starEach es X.env)).any (·.1) = false := by rfl) : PE X (.Call (.Name x p) (e :: es) [] pos) (tCB r t) := by
  refine ⟨?_⟩
  intro pins s σ H Q I h
  refine wpAny_Call_Name_kw (ld_blt I hg hm hv ?_ hn hdb)
  exact PyProof.Rows.callWith_builtin1 (thn (ha pos pins s σ H _ I h) fun us s1 ⟨vs, H1, I1, r1, q1⟩ => hc pins s1 σ H1 vs us Q I1 r1 q1) he hpl
theorem pe_callTy (hc : CallR X (.type T) r) (hg : Gl X x) (hm : X.mg x = none) (hv : bootBuiltins x = some (.type T)) (ha : PA X (e :: es) t) (hn : x ≠ "__name__" := by decide) (hdb : (x == ("__debug__" : Str)) = false := by decide)
    (he : starEach (e :: es) X.env = (false, eval e X.env) :: starEach es X.env := by rfl) (hpl : (backTo pos (starEach es X.env)).any (·.1) = false := by rfl) : PE X (.Call (.Name x p) (e :: es) [] pos) (tCB r t) := by
  refine ⟨?_⟩
  intro pins s σ H Q I h
  refine wpAny_Call_Name_kw (ld_blt I hg hm hv ?_ hn hdb)
  exact PyProof.Rows.callWith_type1 (thn (ha pos pins s σ H _ I h) fun us s1 ⟨vs, H1, I1, r1, q1⟩ => hc pins s1 σ H1 vs us Q I1 r1 q1) he hpl
end
end L2
namespace HT
open PySem PyProof.Rows
section
open PySem.SeqAt
open PySem.AutoSeq1 (wpAny_loadPart')
open PySem.MeetsSeq PySem.MeetsSeq2 PySem.MeetsSeq3
end
section
variable {prog : Program} {w : World} {A : Around} {E : Value → Shared → Prop} {s : Shared}
def sIx (n d : Nat) : Option Int → Nat
  | none => d
  | some v => if v < 0 then (v + (n : Int)).toNat else min v.toNat n
theorem sIx_nat (n d k : Nat) : sIx n d (some (k : Int)) = min k n := by
  show (if (k : Int) < 0 then ((k : Int) + (n : Int)).toNat else min (k : Int).toNat n) = min k n
  rw [if_neg (by omega), Int.toNat_natCast]
end
end HT
namespace L2
open PySem PySem.Spec PyProof.Rows
abbrev TO := St → Hp → (Option Int → Hp → Prop) → Prop
def PO (X : Cx) (e : Option Expr) (t : TO) : Prop :=
  ∀ (pins : List (Addr × Obj)) (s : Shared) (σ : St) (H : Hp) (Q : Option Int → Hp → Prop), Inv X pins σ H s → t σ H Q →
    wpAny (model X.prog X.w) X.A (evalPart e X.env) (fun u s' => ∃ o H', Inv X pins σ H' s' ∧ IsPart u o ∧ Q o H') X.xe s
def tNoPart : TO := fun _ H Q => Q none H
def tPart (t : TE) : TO := fun σ H Q => t σ H fun x H1 => ∃ i, x = .int i ∧ Q (some i) H1
section
variable {X : Cx} {e : Expr} {te : TE} {lo hi : Option Expr} {tl th : TO} {pos p2 : Pos}
theorem po_none : PO X none tNoPart := by
  intro pins s σ H Q I h
  rw [evalPart_none]
  exact wpAny_pure ⟨none, H, I, .none, h⟩
theorem po_some (h : PE X e te) : PO X (some e) (tPart te) := by
  intro pins s σ H Q I hw
  rw [evalPart_some]
  refine thn (h pins s σ H _ I hw) fun u s1 ⟨x, H1, I1, r1, q1⟩ => ?_
  obtain ⟨i, rfl, q⟩ := q1
  obtain ⟨t, rfl⟩ := r1
  exact ⟨some i, H1, I1, .int i t, q⟩
def SlR (X : Cx) (r : V → Option Int → Option Int → Hp → VK → Prop) : Prop :=
  ∀ (pins : List (Addr × Obj)) (s : Shared) (σ : St) (H : Hp) (x : V) (v vl vu : Value) (lo hi : Option Int) (sl : Addr) (Q : VK), Inv X pins σ H s → RelV x v → s.heap.IsSliceOf sl vl vu .none → IsPart vl lo → IsPart vu hi → r x lo hi H Q →
    ∃ T id, typeLookup (.type T) "__getitem__" = pure (some (.builtin id)) ∧ s.TypeIs v T ∧ wpAny (model X.prog X.w) X.A (getItem v (.ref sl)) (EP X pins σ Q) X.xe s
def tSl (r : V → Option Int → Option Int → Hp → VK → Prop) (te : TE) (tl th : TO) : TE := fun σ H Q => te σ H fun x H1 => tl σ H1 fun l H2 => th σ H2 fun u H3 => r x l u H3 Q
theorem pe_slice {r : V → Option Int → Option Int → Hp → VK → Prop} (hr : SlR X r) (he : PE X e te) (hl : PO X lo tl) (hu : PO X hi th) : PE X (.Subscript e (.Slice lo hi none p2) pos) (tSl r te tl th) := by
  refine ⟨?_⟩
  intro pins s σ H Q I h
  refine Subscript_ (thn (he pins s σ H _ I h) fun v s1 ⟨x, H1, I1, r1, q1⟩ => ?_)
  refine wpAny_Slice (thn (hl pins s1 σ H1 _ I1 q1) fun vl s2 ⟨l, H2, I2, pl, q2⟩ => thn (hu pins s2 σ H2 _ I2 q2) fun vu s3 ⟨u, H3, I3, pu, q3⟩ => ?_)
  rw [evalPart_none]
  refine wpAny_pure ?_
  have I4 : Inv X pins σ H3 { s3 with heap := s3.heap.push { cls := .type "slice", data := .fields #[vl, vu, .none] } } := I3.kept (t' := s3.toks) fun b ob q => Heap.get?_push_of_some _ q
  obtain ⟨T, id, hT, ht, hg⟩ := hr pins { s3 with heap := s3.heap.push { cls := .type "slice", data := .fields #[vl, vu, .none] } } σ H3 x v vl vu l u s3.heap.objs.size Q I4 r1 (Heap.IsSliceOf.new ..) pl pu q3
  show wpAny (model X.prog X.w) X.A (subscriptTail e (.Slice lo hi none p2) v (.ref s3.heap.objs.size)) (EP X pins σ Q) X.xe { s3 with heap := s3.heap.push { cls := .type "slice", data := .fields #[vl, vu, .none] } }
  exact tail_any (ops := [.ref s3.heap.objs.size, v]) ht hT hg (by with_unfolding_all rfl)
def cutV (xs : List V) (lo hi : Option Int) : List V := (xs.drop (HT.sIx xs.length 0 lo)).take (HT.sIx xs.length xs.length hi - HT.sIx xs.length 0 lo)
theorem cutV_length (xs : List V) (lo hi : Option Int) : (cutV xs lo hi).length ≤ xs.length := by
  unfold cutV
  rw [List.length_take, List.length_drop]
  omega
end
end L2
namespace L2
open PySem PySem.Spec PyProof.Rows
def ixN (n : Nat) (i : Int) : Option Nat := if 0 ≤ i then (if i < n then some i.toNat else none) else if -(n : Int) ≤ i then some (i + n).toNat else none
def atI {α : Type} (xs : List α) (i : Int) : Option α := (ixN xs.length i).bind fun j => xs[j]?
theorem ixN_seq {n : Nat} {i : Int} {j : Nat} (h : ixN n i = some j) : seqIndex? i n = some j ∧ j < n ∧ -(n : Int) ≤ i ∧ i < n := by
  unfold ixN at h
  by_cases h0 : 0 ≤ i
  · rw [if_pos h0] at h
    by_cases h1 : i < n
    · rw [if_pos h1] at h
      have e : i.toNat = j := Option.some.inj h
      exact ⟨by rw [seqIndex_of h0 h1, e], by omega, by omega, h1⟩
    · rw [if_neg h1] at h; cases h
  · rw [if_neg h0] at h
    by_cases h1 : -(n : Int) ≤ i
    · rw [if_pos h1] at h
      have e : (i + n).toNat = j := Option.some.inj h
      exact ⟨by rw [seqIndex_neg (by omega) h1, e], by omega, h1, by omega⟩
    · rw [if_neg h1] at h; cases h
theorem atI_get {α : Type} {xs : List α} {i : Int} {v : α} (h : atI xs i = some v) : ∃ j, seqIndex? i xs.length = some j ∧ xs[j]? = some v ∧ j < xs.length ∧ -(xs.length : Int) ≤ i ∧ i < xs.length := by
  unfold atI at h
  cases e : ixN xs.length i with
  | none => rw [e] at h; cases h
  | some j =>
    rw [e] at h
    obtain ⟨h1, h2, h3, h4⟩ := ixN_seq e
    exact ⟨j, h1, h, h2, h3, h4⟩
theorem atI_nat {α : Type} {xs : List α} {j : Nat} {v : α} (h : xs[j]? = some v) : atI xs (j : Int) = some v := by
  have hj : j < xs.length := (List.getElem?_eq_some_iff.mp h).1
  have e : ixN xs.length (j : Int) = some j := by
    unfold ixN
    rw [if_pos (by omega), if_pos (by omega)]; simp
  unfold atI; rw [e]; exact h
def PlainIx (b : Expr) : Prop := ∀ o i, subscripted b false o i = operate [o, i] (getItem o i)
def IxR (X : Cx) (r : R2) : Prop :=
  ∀ (value slice : Expr) (pins : List (Addr × Obj)) (s : Shared) (σ : St) (H : Hp) (x y : V) (v u : Value) (Q : VK), Inv X pins σ H s → RelV x v → RelV y u → r x y H Q →
    subscripted slice false v u = operate [v, u] (getItem v u) → wpAny (model X.prog X.w) X.A (subscriptTail value slice v u) (EP X pins σ Q) X.xe s
def MtR (X : Cx) (id : String) (r : V → List V → Hp → VK → Prop) : Prop :=
  ∀ (pins : List (Addr × Obj)) (s : Shared) (σ : St) (H : Hp) (x : V) (xs : List V) (v : Value) (us : List Value) (Q : VK), Inv X pins σ H s → RelV x v → Vals xs us → r x xs H Q →
    wpAny (model X.prog X.w) X.A (call (.builtin id) (v :: us)) (EP X pins σ Q) X.xe s
section
variable {X : Cx} {a b : Expr} {ta tb : TE} {pos : Pos}
theorem pe_ix {r : R2} (hr : IxR X r) (ha : PE X a ta) (hb : PE X b tb) (hs : PlainIx b) : PE X (.Subscript a b pos) (tOp r ta tb) := by
  refine ⟨?_⟩
  intro pins s σ H Q I h
  exact Subscript_ (binT ha hb I h fun v u s2 x y H2 I2 rx ry q => hr a b pins s2 σ H2 x y v u Q I2 rx ry q (hs _ _))
def rIxL (K : PySem.W.Frag) : R2 := fun x y H Q => ∃ p xs i v, x = .ref p ∧ y = .int i ∧ SqL K H p xs ∧ atI xs i = some v ∧ Q v H
def rIxT (K : PySem.W.Frag) : R2 := fun x y H Q => ∃ p xs i v, x = .ref p ∧ y = .int i ∧ SqT K H p xs ∧ atI xs i = some v ∧ Q v H
def rIxS : R2 := fun x y H Q => ∃ z i c, x = .str z ∧ y = .int i ∧ z.length ≤ sizeLine ∧ atI z.cps.toList i = some c ∧ Q (.str ⟨#[c]⟩) H
theorem ix_list : IxR X (rIxL X.K) := by
  intro value slice pins s σ H x y v u Q I rx ry h hs
  obtain ⟨p, xs, i, z, rfl, rfl, hq, he, q⟩ := h
  cases rx
  obtain ⟨t, rfl⟩ := ry
  obtain ⟨its, r, pl, hz⟩ := I.list hq
  obtain ⟨j, h1, h2, h3, h4, h5⟩ := atI_get he
  obtain ⟨w, ew, rw'⟩ := r.get h2
  have hl := r.length
  have hn := line63
  have fin : EP X pins σ Q w s := ⟨z, H, I, rw', q⟩
  by_cases h0 : 0 ≤ i
  · have hj : i.toNat = j := by
      rw [seqIndex_of h0 h5] at h1
      exact Option.some.inj h1
    exact item_listR pl.isList h0 (by omega) (by rw [hj]; simpa using ew) fin hs
  · have hj : (i + (its.toArray.size : Int)).toNat = j := by
      rw [seqIndex_neg (by omega) h4] at h1
      rw [List.size_toArray, ← hl]
      exact Option.some.inj h1
    exact subscriptTail_builtinR (x := w) pl.isList.typeIs slot_list_getitem.lookup
      (wpAny_getItem_list_neg (Q := fun r s' => r = w ∧ EP X pins σ Q r s') pl.isList (by omega) (by rw [List.size_toArray] <;> omega) (by omega) (by rw [hj]; simpa using ew) ⟨rfl, fin⟩) hs
theorem ix_tup : IxR X (rIxT X.K) := by
  intro value slice pins s σ H x y v u Q I rx ry h hs
  obtain ⟨p, xs, i, z, rfl, rfl, hq, he, q⟩ := h
  cases rx
  obtain ⟨t, rfl⟩ := ry
  obtain ⟨its, r, pl, hz⟩ := I.tuple hq
  obtain ⟨j, h1, h2, h3, h4, h5⟩ := atI_get he
  obtain ⟨w, ew, rw'⟩ := r.get h2
  have hl := r.length
  have hn := line63
  have fin : EP X pins σ Q w s := ⟨z, H, I, rw', q⟩
  exact subscriptTail_builtinR (x := w) pl.typeIs slot_tuple_getitem.lookup
    (getItem_tuple (j := j) (Q := fun r s' => r = w ∧ EP X pins σ Q r s') pl (by omega) (by omega) (by rw [List.size_toArray, ← hl]; exact h1) (by simpa using ew) ⟨rfl, fin⟩) hs
theorem ix_str : IxR X rIxS := by
  intro value slice pins s σ H x y v u Q I rx ry h hs
  obtain ⟨z, i, c, rfl, rfl, hz, he, q⟩ := h
  obtain ⟨t, rfl⟩ := rx
  obtain ⟨t', rfl⟩ := ry
  obtain ⟨j, h1, h2, h3, h4, h5⟩ := atI_get he
  have hl : z.cps.toList.length = z.length := by simp [Str.length]
  rw [hl] at h1 h4 h5
  have hn := line63
  exact tail_any (typeIs_str s z t) slot_str_getitem.lookup (getItem_str (c := c) (by
    have e1 : decide (i < -(2 ^ 63 : Int)) = false := decide_eq_false (by omega)
    have e2 : decide (i ≥ 2 ^ 63) = false := decide_eq_false (by omega)
    rw [e1, e2, Bool.or_false]) (by rw [h1]; simpa using h2) ⟨.str ⟨#[c]⟩, H, I.tok _, ⟨_, rfl⟩, q⟩) hs
theorem mapSeq_set (its : List Value) (n j : Nat) (u : Value) : Obj.mapSeq (·.setIfInBounds j u) { cls := .type "list", data := .seq its.toArray n } = { cls := .type "list", data := .seq (its.set j u).toArray n } := by
  simp [Obj.mapSeq]
theorem Inv.lst {pins : List (Addr × Obj)} {σ : St} {H : Hp} {s : Shared} {p : Addr} {xs : List V} (I : Inv X pins σ H s) (h : H p = some (.lst xs)) :
    ∃ (its : List Value) (n : Nat), Vals xs its ∧ s.heap.get? p = some { cls := .type "list", data := .seq its.toArray n } ∧ xs.length ≤ sizeLine := by
  obtain ⟨z, its, n, r, e⟩ := I.hok p _ h
  exact ⟨its, n, r, e, z⟩
theorem Inv.lstUpd {pins : List (Addr × Obj)} {σ : St} {H : Hp} {s : Shared} {p : Addr} {xs ys : List V} {its its' : List Value} {n n' : Nat} {f : Obj → Obj} (I : Inv X pins σ H s) (h : H p = some (.lst xs))
    (ho : s.heap.get? p = some { cls := .type "list", data := .seq its.toArray n }) (hf : f { cls := .type "list", data := .seq its.toArray n } = { cls := .type "list", data := .seq its'.toArray n' }) (r : Vals ys its') (hz : ys.length ≤ sizeLine) (t : Nat) :
    Inv X pins σ (upd H p (.lst ys)) { s with heap := s.heap.update p f, toks := t } := by
  have e : (s.heap.update p f).get? p = some { cls := .type "list", data := .seq its'.toArray n' } := by
    rw [Heap.get?_update_self f ho (by rw [hf] <;> rfl), hf]
  refine I.write (x := p) (e := p) (by rw [h]; trivial) (.inl rfl) (fun b u hb q => (Heap.get?_update_other _ _ (Ne.symm hb)).trans q) ⟨_, e⟩ ?_
  exact ⟨hz, its', n', r, e⟩
def rSetL : V → V → V → Hp → (Hp → Prop) → Prop := fun o i v H Q => ∃ p xs k j, o = .ref p ∧ i = .int k ∧ H p = some (.lst xs) ∧ ixN xs.length k = some j ∧ Q (upd H p (.lst (xs.set j v)))
theorem set_list : PSet X rSetL := by
  intro pins s σ H o i v ov iv u Q I ro ri rv h
  obtain ⟨p, xs, k, j, rfl, rfl, hp, hj, q⟩ := h
  cases ro
  obtain ⟨t, rfl⟩ := ri
  obtain ⟨its, n, r, ho, hz⟩ := I.lst hp
  obtain ⟨h1, h2, h3, h4⟩ := ixN_seq hj
  have hl := r.length
  have hn := line63
  have I' : Inv X pins σ (upd H p (.lst (xs.set j v))) { s with heap := s.heap.update p (Obj.mapSeq (·.setIfInBounds j u)) } :=
    I.lstUpd hp ho (mapSeq_set its n j u) (r.set rv j) (by rw [List.length_set]; exact hz) s.toks
  by_cases h0 : 0 ≤ k
  · have hk : k.toNat = j := by
      rw [seqIndex_of h0 h4] at h1
      exact Option.some.inj h1
    exact PySem.W.ki_setAt ho h0 (by omega) (by rw [List.size_toArray, ← hl]; exact h4) (by rw [hk]; exact ⟨_, I', q⟩)
  · have hk : (k + (its.toArray.size : Int)).toNat = j := by
      rw [seqIndex_neg (by omega) h3] at h1
      rw [List.size_toArray, ← hl]
      exact Option.some.inj h1
    exact PySem.W.ki_setBack ho (by omega) (by rw [List.size_toArray, ← hl]; exact h3) (by omega) (by rw [hk]; exact ⟨_, I', q⟩)
theorem slice_bounds (lo hi : Option Int) (n : Nat) : (sliceBounds lo hi none n).1 = ((HT.sIx n 0 lo : Nat) : Int) ∧ (sliceBounds lo hi none n).2.1 = ((HT.sIx n n hi : Nat) : Int) ∧ (sliceBounds lo hi none n).2.2 = 1 := by
  refine ⟨?_, ?_, rfl⟩
  · cases lo with
    | none => simp [sliceBounds, HT.sIx]
    | some i =>
      simp only [sliceBounds, HT.sIx, Option.getD_none, show (1 : Int) > 0 by decide, if_true]
      by_cases h : i < 0
      · simp only [h, if_true] <;> omega
      · simp only [h, if_false] <;> omega
  · cases hi with
    | none => simp [sliceBounds, HT.sIx]
    | some i =>
      simp only [sliceBounds, HT.sIx, Option.getD_none, show (1 : Int) > 0 by decide, if_true]
      by_cases h : i < 0
      · simp only [h, if_true] <;> omega
      · simp only [h, if_false] <;> omega
theorem slicePick_cut (its : List Value) (lo hi : Option Int) : slicePick its.toArray lo hi none = ((its.drop (HT.sIx its.length 0 lo)).take (HT.sIx its.length its.length hi - HT.sIx its.length 0 lo)).toArray := by
  obtain ⟨h1, h2, h3⟩ := slice_bounds lo hi its.toArray.size
  unfold slicePick
  rw [h1, h2, h3]
  simp only [sliceRange_one, pick_run, List.size_toArray] <;> rfl
def rSlL (K : PySem.W.Frag) : V → Option Int → Option Int → Hp → VK → Prop := fun x lo hi H Q => ∃ a xs, x = .ref a ∧ SqL K H a xs ∧ ∀ p, H p = none → Q (.ref p) (upd H p (.lst (cutV xs lo hi)))
theorem sl_list : SlR X (rSlL X.K) := by
  intro pins s σ H x v vl vu lo hi sl Q I rx hs pl pu h
  obtain ⟨a, xs, rfl, hx, q⟩ := h
  cases rx
  obtain ⟨its, r, ht, hz⟩ := I.list hx
  have hlen := r.length
  refine ⟨"list", _, slot_list_getitem.lookup, ht.isList.typeIs, ?_⟩
  refine wpAny_getItem_list_slice ht.isList hs pl pu .none (by simp) ?_ (by rw [List.size_toArray] <;> omega)
  rw [slicePick_cut, ← hlen]
  refine ⟨.ref s.heap.objs.size, _, I.laid (t' := s.toks) (o := .lst (cutV xs lo hi)) (fun b ob q => Heap.get?_push_of_some _ q) (Nat.le_refl _) ?_, rfl, q _ (I.hok.fresh (Nat.le_refl _))⟩
  exact ⟨Nat.le_trans (cutV_length xs lo hi) hz, _, 0, (r.drop (HT.sIx xs.length 0 lo)).take (HT.sIx xs.length xs.length hi - HT.sIx xs.length 0 lo), Heap.get?_push_size _ rfl⟩
def flatV : V → Bool
  | .non => true
  | .bl _ => true
  | .int _ => true
  | .str _ => true
  | _ => false
def eqV : V → V → Bool
  | .non, .non => true
  | .bl a, .bl b => a == b
  | .bl a, .int b => (if a then 1 else 0) == b
  | .int a, .bl b => a == (if b then 1 else 0)
  | .int a, .int b => a == b
  | .str a, .str b => a == b
  | _, _ => false
theorem eqAt_V {A : Around} {s : Shared} {y x : V} {u v : Value} (ry : RelV y u) (rx : RelV x v) (fy : flatV y = true) (fx : flatV x = true) : SeqAt.EqAt A s u v (eqV y x) := by
  cases y with
  | non =>
    cases ry
    cases x with
    | non => cases rx; exact SeqAt.EqAt.same _
    | bl b => cases rx; exact SeqAt.EqAt.none_bool b
    | int b => obtain ⟨t, rfl⟩ := rx; exact SeqAt.EqAt.none_int b t
    | str b => obtain ⟨t, rfl⟩ := rx; exact SeqAt.EqAt.none_str b t
    | _ => exact absurd (show false = true from fx) Bool.false_ne_true
  | bl a =>
    cases ry
    cases x with
    | non => cases rx; exact SeqAt.EqAt.bool_none a
    | bl b => cases rx; exact SeqAt.EqAt.bool_bool a b
    | int b => obtain ⟨t, rfl⟩ := rx; exact SeqAt.EqAt.bool_int a b t
    | str b => obtain ⟨t, rfl⟩ := rx; exact SeqAt.EqAt.bool_str a b t
    | _ => exact absurd (show false = true from fx) Bool.false_ne_true
  | int a =>
    obtain ⟨t', rfl⟩ := ry
    cases x with
    | non => cases rx; exact SeqAt.EqAt.int_none a t'
    | bl b => cases rx; exact SeqAt.EqAt.int_bool a t' b
    | int b => obtain ⟨t, rfl⟩ := rx; exact SeqAt.EqAt.int_int a t' b t
    | str b => obtain ⟨t, rfl⟩ := rx; exact SeqAt.EqAt.int_str a t' b t
    | _ => exact absurd (show false = true from fx) Bool.false_ne_true
  | str a =>
    obtain ⟨t', rfl⟩ := ry
    cases x with
    | non => cases rx; exact SeqAt.EqAt.str_none a t'
    | bl b => cases rx; exact SeqAt.EqAt.str_bool a t' b
    | int b => obtain ⟨t, rfl⟩ := rx; exact SeqAt.EqAt.str_int a t' b t
    | str b => obtain ⟨t, rfl⟩ := rx; exact SeqAt.EqAt.str_str a t' b t
    | _ => exact absurd (show false = true from fx) Bool.false_ne_true
  | _ => exact absurd (show false = true from fy) Bool.false_ne_true
def eqU (x : V) (u : Value) : Bool := match u with
  | .none => eqV .non x
  | .bool b => eqV (.bl b) x
  | .int i _ => eqV (.int i) x
  | .str z _ => eqV (.str z) x
  | _ => false
theorem eqU_of {x y : V} {u : Value} (r : RelV y u) (f : flatV y = true) : eqU x u = eqV y x := by
  cases y with
  | non => cases r; rfl
  | bl b => cases r; rfl
  | int i => obtain ⟨t, rfl⟩ := r; rfl
  | str z => obtain ⟨t, rfl⟩ := r; rfl
  | _ => exact absurd (show false = true from f) Bool.false_ne_true
theorem any_eqU {x : V} : ∀ {xs : List V} {us : List Value}, Vals xs us → xs.all flatV = true → us.any (eqU x) = xs.any fun y => eqV y x
  | _, _, .nil, _ => rfl
  | y :: xs, u :: us, .cons r t, f => by
    rw [List.all_cons, Bool.and_eq_true] at f
    rw [List.any_cons, List.any_cons, eqU_of r f.1, any_eqU t f.2]
theorem mem_eqAt {A : Around} {s : Shared} {x : V} {v : Value} (rx : RelV x v) (fx : flatV x = true) : ∀ {xs : List V} {us : List Value}, Vals xs us → xs.all flatV = true → ∀ u ∈ us, SeqAt.EqAt A s u v (eqU x u)
  | _, _, .nil, _ => fun u hu => by cases hu
  | y :: xs, u :: us, .cons r t, f => fun u' hu => by
    rw [List.all_cons, Bool.and_eq_true] at f
    rcases List.mem_cons.mp hu with rfl | hu
    · rw [eqU_of r f.1]; exact eqAt_V r rx f.1 fx
    · exact mem_eqAt rx fx t f.2 u' hu
def inV (x : V) (xs : List V) : Bool := xs.any fun y => eqV y x
def rIn (K : PySem.W.Frag) (neg : Bool) : R2 := fun x y H Q => ∃ p xs, y = .ref p ∧ (SqL K H p xs ∨ SqT K H p xs) ∧ flatV x = true ∧ xs.all flatV = true ∧ Q (.bl (if neg then !inV x xs else inV x xs)) H
theorem op_notIn_seq : OpR X (compareOp .NotIn) (rIn X.K true) := by
  intro pins s σ H x y v u Q I rx ry h
  obtain ⟨p, xs, rfl, hq, fx, fs, q⟩ := h
  cases ry
  rcases hq with hq | hq
  · obtain ⟨its, r, pl, hz⟩ := I.list hq
    refine SeqAt.notIn_listAt (eqU x) pl.isList (fun w hw => mem_eqAt rx fx r fs w (by simpa using hw)) ⟨.bl _, H, I, rfl, ?_⟩
    rw [show its.toArray.any (eqU x) = its.any (eqU x) by simp, any_eqU r fs]
    exact q
  · obtain ⟨its, r, pl, hz⟩ := I.tuple hq
    refine SeqAt.notIn_tupleAt (eqU x) pl (fun w hw => mem_eqAt rx fx r fs w (by simpa using hw)) ⟨.bl _, H, I, rfl, ?_⟩
    rw [show its.toArray.any (eqU x) = its.any (eqU x) by simp, any_eqU r fs]
    exact q
theorem call_len_seq : CallR X (.builtin "len") (fun xs H Q => ∃ p ys, xs = [.ref p] ∧ (SqL X.K H p ys ∨ SqT X.K H p ys) ∧ Q (.int ys.length) H) := by
  intro pins s σ H xs us Q I r h
  obtain ⟨p, ys, rfl, hq, q⟩ := h
  obtain ⟨u, rfl, rx⟩ := vals1 r
  cases rx
  have hn := line63
  rcases hq with hq | hq
  · obtain ⟨its, r', pl, hz⟩ := I.list hq
    have hlen := r'.length
    exact Calls.call_len_list pl.isList (by simp only [List.size_toArray] <;> omega) ⟨.int ys.length, H, I.tok _, ⟨s.toks + 1, by rw [List.size_toArray, hlen]⟩, q⟩
  · obtain ⟨its, r', pl, hz⟩ := I.tuple hq
    have hlen := r'.length
    exact len_tuple pl (by simp only [List.size_toArray] <;> omega) ⟨.int ys.length, H, I.tok _, ⟨s.toks + 1, by rw [List.size_toArray, hlen]⟩, q⟩
def tyV (K : PySem.W.Frag) (T : String) (x : V) (H : Hp) : Prop := match x with
  | .str _ => T = "str"
  | .int _ => T = "int"
  | .ref p => (T = "list" ∧ ∃ xs, SqL K H p xs) ∨ (T = "tuple" ∧ ∃ o, K.lookup p = some o ∧ o.cls = .type "tuple" ∧ o.dict = none) ∨
      (T = "dict" ∧ ((∃ kvs, H p = some (.dK kvs)) ∨ ∃ kvs, H p = some (.dT kvs))) ∨ (T = "set" ∧ ∃ S n, H p = some (.set S n))
  | _ => False
theorem tyV_is {pins : List (Addr × Obj)} {σ : St} {H : Hp} {s : Shared} {T : String} {x : V} {v : Value} (I : Inv X pins σ H s) (r : RelV x v) (ty : tyV X.K T x H) :
    s.TypeIs v T ∧ ∀ a, v = .ref a → ∃ ob, s.heap.get? a = some ob ∧ ob.dict = none := by
  cases x with
  | str z =>
    obtain ⟨t, rfl⟩ := r
    cases (show T = "str" from ty)
    exact ⟨typeIs_str s z t, fun _ e => nomatch e⟩
  | int i =>
    obtain ⟨t, rfl⟩ := r
    cases (show T = "int" from ty)
    exact ⟨typeIs_int s i t, fun _ e => nomatch e⟩
  | ref p =>
    cases r
    rcases ty with ⟨rfl, xs, hq⟩ | ⟨rfl, o, hk, hc, hd⟩ | ⟨rfl, hk⟩ | ⟨rfl, S, n, hk⟩
    · obtain ⟨its, _, pl, _⟩ := I.list hq
      refine ⟨pl.isList.typeIs, fun a e => ?_⟩
      cases e
      obtain ⟨o, n, e, c, hd, _⟩ := pl
      exact ⟨o, e, hd⟩
    · refine ⟨⟨o, I.kIn p o hk, hc⟩, fun a e => ?_⟩
      cases e
      exact ⟨o, I.kIn _ o hk, hd⟩
    · have z : ∃ o, s.heap.get? p = some o ∧ o.ExactDict := by
        rcases hk with ⟨kvs, hk⟩ | ⟨kvs, hk⟩
        · obtain ⟨_, _, _, _, o, _, _, e, ex, _⟩ := I.hok p _ hk
          exact ⟨o, e, ex⟩
        · obtain ⟨_, _, _, _, o, _, _, e, ex, _⟩ := I.hok p _ hk
          exact ⟨o, e, ex⟩
      obtain ⟨o, e, ex⟩ := z
      refine ⟨⟨o, e, ex.1⟩, fun a e2 => ?_⟩
      cases e2
      exact ⟨o, e, ex.2.1⟩
    · obtain ⟨o, _, _, _, e, ex, _⟩ := I.hok p _ hk
      refine ⟨⟨o, e, ex.1⟩, fun a e2 => ?_⟩
      cases e2
      exact ⟨o, e, ex.2.1⟩
  | _ => exact False.elim ty
def tBM0 (K : PySem.W.Frag) (T : String) (r : V → List V → Hp → VK → Prop) (to : TE) : TE := fun σ H Q => to σ H fun x H1 => tyV K T x H1 ∧ r x [] H1 Q
def tBM (K : PySem.W.Frag) (T : String) (r : V → List V → Hp → VK → Prop) (to : TE) (t : TA) : TE := fun σ H Q => to σ H fun x H1 => tyV K T x H1 ∧ t σ H1 fun xs H2 => r x xs H2 Q
variable {o e : Expr} {es : List Expr} {to : TE} {t : TA} {name : Str} {apos cpos : Pos} {T id : String} {r : V → List V → Hp → VK → Prop}
theorem pe_bm0 (pa : PlainAttrs T) (slot : Slot T name id) (hty : typeOf (.builtin id) = pure (.type "method_descriptor")) (hm : MtR X id r) (ho : PE X o to)
    (hbase : attributeBase o name X.env (eval o X.env) = eval o X.env := by rfl) (hline : (apos.endLine == cpos.line) = true := by rfl) : PE X (.Call (.Attribute o name apos) [] [] cpos) (tBM0 X.K T r to) := by
  refine ⟨?_⟩
  intro pins s σ H Q I h
  refine wpAny_Call_method0_late hbase hline (thn (ho pins s σ H _ I h) fun v s1 ⟨x, H1, I1, r1, ty, q1⟩ => ?_)
  obtain ⟨h1, h2⟩ := tyV_is I1 r1 ty
  exact ⟨T, id, pa, slot, hty, h1, h2, Calls.callWith_builtin rfl (PySem.evalArgs_none (hm pins s1 σ H1 x [] v [] Q I1 r1 .nil q1))⟩
theorem pe_bm (pa : PlainAttrs T) (slot : Slot T name id) (hty : typeOf (.builtin id) = pure (.type "method_descriptor")) (hm : MtR X id r) (ho : PE X o to) (ha : PA X (e :: es) t)
    (hbase : attributeBase o name X.env (eval o X.env) = eval o X.env := by rfl)
    (hfew : ((backTo cpos (starEach (e :: es) X.env)).all (fun x => !x.1) && (backToKw cpos (keywordEach [] X.env)).all (fun x => x.1.isSome)
      && decide ((e :: es).length + ([] : List Keyword).length + (if ([] : List Keyword).isEmpty then 0 else 1) < 30)) = true := by rfl)
    (hline : (apos.endLine == cpos.line) = true := by rfl) (hs : starEach (e :: es) X.env = (false, eval e X.env) :: starEach es X.env := by rfl) (hplain : (backTo cpos (starEach es X.env)).any (·.1) = false := by rfl) :
    PE X (.Call (.Attribute o name apos) (e :: es) [] cpos) (tBM X.K T r to t) := by
  refine ⟨?_⟩
  intro pins s σ H Q I h
  refine wpAny_Call_method_late hbase hfew hline rfl (thn (ho pins s σ H _ I h) fun v s1 ⟨x, H1, I1, r1, ty, q1⟩ => ?_)
  obtain ⟨h1, h2⟩ := tyV_is I1 r1 ty
  refine ⟨T, id, pa, slot, hty, h1, h2, ?_⟩
  have hA := ha cpos pins s1 σ H1 _ I1 q1
  rw [hs] at hA ⊢
  refine Calls.callWith_builtin (by show (false || (backTo cpos (starEach es X.env)).any (·.1)) = false; rw [hplain] <;> rfl) (Calls.evalArgs_plain ?_)
  exact thn hA fun us s2 ⟨vs, H2, I2, r2, q2⟩ => hm pins s2 σ H2 x vs v us Q I2 r1 r2 q2
/- xs.append(e), list.index on a module's tuple .. are MtR facts of 06m -/
end
end L2
namespace L2
open PySem PySem.Spec PyProof.Rows
def MtM (X : Cx) (id : String) (r : V → List V → Hp → VK → Prop) : Prop :=
  ∀ (pins : List (Addr × Obj)) (s : Shared) (σ : St) (H : Hp) (x : V) (xs : List V) (v : Value) (us : List Value) (Q : VK), Inv X pins σ H s → RelV x v → Vals xs us → r x xs H Q →
    wpAny (model X.prog X.w) X.A (call (.builtin id) (v :: us)) (EP X pins σ Q) X.xe s
theorem Vals.one : ∀ {x : V} {us : List Value}, Vals [x] us → ∃ u, us = [u] ∧ RelV x u
  | _, _, .cons r .nil => ⟨_, rfl, r⟩
theorem Vals.two : ∀ {x y : V} {us : List Value}, Vals [x, y] us → ∃ u v, us = [u, v] ∧ RelV x u ∧ RelV y v
  | _, _, _, .cons r (.cons q .nil) => ⟨_, _, rfl, r, q⟩
theorem Vals.zero : ∀ {us : List Value}, Vals [] us → us = []
  | _, .nil => rfl
theorem Vals.dropLast {xs : List V} {us : List Value} (h : Vals xs us) : Vals xs.dropLast us.dropLast := by
  induction h with
  | nil => exact .nil
  | cons r t ih =>
    cases t with
    | nil => exact .nil
    | cons q t' => exact .cons r ih
theorem Vals.eraseIdx : ∀ {xs : List V} {us : List Value} (i : Nat), Vals xs us → Vals (xs.eraseIdx i) (us.eraseIdx i)
  | _, _, _, .nil => .nil
  | _, _, 0, .cons _ t => t
  | _, _, i + 1, .cons r t => .cons r (Vals.eraseIdx i t)
theorem Vals.reverse {xs : List V} {us : List Value} (h : Vals xs us) : Vals xs.reverse us.reverse := by
  induction h with
  | nil => exact .nil
  | cons r t ih => rw [List.reverse_cons, List.reverse_cons]; exact Vals.append ih (.cons r .nil)
theorem Vals.rep {xs : List V} {us : List Value} (h : Vals xs us) : ∀ k : Nat, Vals (List.replicate k xs).flatten (List.replicate k us).flatten
  | 0 => .nil
  | k + 1 => by
    rw [List.replicate_succ, List.replicate_succ, List.flatten_cons, List.flatten_cons]
    exact Vals.append h (Vals.rep h k)
theorem erase_last {α : Type} (l : List α) : l.eraseIdx (l.length - 1) = l.dropLast := by
  induction l with
  | nil => rfl
  | cons a r ih =>
    cases r with
    | nil => rfl
    | cons b r =>
      have e : (a :: b :: r).length - 1 = ((b :: r).length - 1) + 1 := by
        have h1 : (a :: b :: r).length = r.length + 2 := rfl
        have h2 : (b :: r).length = r.length + 1 := rfl
        omega
      rw [e, List.eraseIdx_cons_succ, ih]
      all_goals rfl
theorem len_erase {α : Type} : ∀ (l : List α) (i : Nat), (l.eraseIdx i).length ≤ l.length
  | [], _ => Nat.le_refl _
  | _ :: _, 0 => Nat.le_succ _
  | _ :: r, i + 1 => Nat.succ_le_succ (len_erase r i)
theorem foldl_rep (its : List Value) : ∀ (k : Nat) (acc : List Value),
    List.foldl (fun x1 x2 => x1 ++ x2) acc.toArray (List.replicate k its.toArray) = (acc ++ (List.replicate k its).flatten).toArray
  | 0, acc => by simp
  | k + 1, acc => by
    have e : acc.toArray ++ its.toArray = (acc ++ its).toArray := by simp
    have e2 : (acc ++ its) ++ (List.replicate k its).flatten = acc ++ (List.replicate (k + 1) its).flatten := by
      rw [List.replicate_succ, List.flatten_cons, List.append_assoc]
    rw [← e2, ← foldl_rep its k (acc ++ its), ← e, List.replicate_succ, List.foldl_cons]
section
variable {X : Cx} {pins : List (Addr × Obj)} {σ : St} {H : Hp} {s : Shared} {l b : Addr} {xs ys zs : List V}
theorem Inv.lset {its its' : List Value} {n : Nat} {f : Array Value → Array Value} {t' : Nat} (I : Inv X pins σ H s) (hH : H l = some (.lst xs))
    (e : s.heap.get? l = some { cls := .type "list", data := .seq its.toArray n }) (hf : f its.toArray = its'.toArray) (hv : Vals ys its') (hz : ys.length ≤ sizeLine) :
    Inv X pins σ (upd H l (.lst ys)) { s with heap := s.heap.update l (Obj.mapSeq f), toks := t' } := by
  have q := PySem.IsL.update e f
  rw [hf] at q
  refine I.write (x := l) (e := l) (by rw [hH]; exact trivial) (.inl rfl) (fun b' u hb hu => (Heap.get?_update_other s.heap (Obj.mapSeq f) (Ne.symm hb)).trans hu) ⟨_, q⟩ ?_
  exact ⟨hz, its', _, hv, q⟩
theorem Inv.lnew {its : List Value} {t' : Nat} (I : Inv X pins σ H s) (hv : Vals ys its) (hz : ys.length ≤ sizeLine) :
    Inv X pins σ (upd H s.heap.objs.size (.lst ys)) { s with heap := s.heap.push { cls := .type "list", data := .seq its.toArray }, toks := t' } :=
  I.laid (fun _ _ q => Heap.get?_push_of_some _ q) (Nat.le_refl _) ⟨hz, its, 0, hv, Heap.get?_push_size _ rfl⟩
theorem Inv.fresh (I : Inv X pins σ H s) : H s.heap.objs.size = none := I.hok.fresh (Nat.le_refl _)
theorem Inv.lstM (I : Inv X pins σ H s) (hH : H l = some (.lst xs)) : xs.length ≤ sizeLine ∧ ∃ (its : List Value) (n : Nat), Vals xs its ∧ xs.length = its.length ∧ s.heap.get? l = some { cls := .type "list", data := .seq its.toArray n } := by
  obtain ⟨z, its, n, r, e⟩ := I.hok l _ hH
  exact ⟨z, its, n, r, r.length, e⟩
theorem notLongL {n : Nat} (h : n ≤ sizeLine) : Builtin.List.listTooLong n = false := by
  unfold Builtin.List.listTooLong
  exact decide_eq_false (by omega)
end
section
variable {X : Cx}
def rAppend : V → List V → Hp → VK → Prop := fun x vs H Q => ∃ l xs y, x = .ref l ∧ vs = [y] ∧ H l = some (.lst xs) ∧ xs.length < sizeLine ∧ Q .non (upd H l (.lst (xs ++ [y])))
theorem mt_append : MtM X "list.append" rAppend := by
  intro pins s σ H x vs v us Q I rx rv h
  obtain ⟨l, xs, y, rfl, rfl, hH, hz, q⟩ := h
  cases rx
  obtain ⟨u, rfl, ru⟩ := rv.one
  obtain ⟨z, its, n, r, hl, e⟩ := I.lstM hH
  refine call_meets F.slot_list_append ⟨_, e, rfl⟩ F.entry_list_append (F.args_list_append_2 _ _) (PySem.list_append l its.toArray n u (by rw [List.size_toArray]; omega)) ⟨e, ?_⟩
  refine ⟨.non, _, I.lset (its' := its ++ [u]) hH e (by simp) (r.append (.cons ru .nil)) ?_, rfl, q⟩
  rw [List.length_append, List.length_singleton]
  omega
def rPop : V → List V → Hp → VK → Prop := fun x vs H Q => ∃ l xs y, x = .ref l ∧ vs = [] ∧ H l = some (.lst xs) ∧ xs[xs.length - 1]? = some y ∧ Q y (upd H l (.lst xs.dropLast))
theorem mt_pop : MtM X "list.pop" rPop := by
  intro pins s σ H x vs v us Q I rx rv h
  obtain ⟨l, xs, y, rfl, rfl, hH, hy, q⟩ := h
  cases rx
  have hus := rv.zero
  subst hus
  obtain ⟨z, its, n, r, hl, e⟩ := I.lstM hH
  obtain ⟨u, hu, ru⟩ := r.get hy
  have hy' : its.toArray[its.toArray.size - 1]? = some u := by
    show its.toArray[its.length - 1]? = some u
    rw [← Array.getElem?_toList, ← hl]
    exact hu
  refine call_meets F.slot_list_pop ⟨_, e, rfl⟩ F.entry_list_pop (F.args_list_pop_1 _) (MeetsSeq.list_pop_last l its.toArray n u hy' (by rw [List.size_toArray]; omega)) ⟨e, ?_⟩
  refine ⟨y, _, I.lset (its' := its.dropLast) hH e ?_ r.dropLast ?_, ru, q⟩
  · show its.toArray.eraseIdxIfInBounds (its.toArray.size - 1) = its.dropLast.toArray
    rw [List.size_toArray, List.eraseIdxIfInBounds_toArray, erase_last]
  · rw [List.length_dropLast]
    omega
def rPopAt : V → List V → Hp → VK → Prop := fun x vs H Q => ∃ l xs i k y, x = .ref l ∧ vs = [.int i] ∧ H l = some (.lst xs) ∧ -(2 ^ 63) ≤ i ∧ i < 2 ^ 63 ∧ seqIndex? i xs.length = some k ∧ xs[k]? = some y ∧ Q y (upd H l (.lst (xs.eraseIdx k)))
theorem mt_popAt : MtM X "list.pop" rPopAt := by
  intro pins s σ H x vs v us Q I rx rv h
  obtain ⟨l, xs, i, k, y, rfl, rfl, hH, h1, h2, hk, hy, q⟩ := h
  cases rx
  obtain ⟨u, rfl, ru⟩ := rv.one
  obtain ⟨t, rfl⟩ := ru
  obtain ⟨z, its, n, r, hl, e⟩ := I.lstM hH
  obtain ⟨w, hw, rw'⟩ := r.get hy
  refine call_meets F.slot_list_pop ⟨_, e, rfl⟩ F.entry_list_pop (F.args_list_pop_2 _ _)
    (MeetsSeq.list_pop_at l its.toArray n i t k w (fitsIndex_both h1 h2) (by rw [List.size_toArray, ← hl]; exact hk) (by rw [← Array.getElem?_toList]; exact hw) (by rw [List.size_toArray]; omega)) ⟨e, ?_⟩
  refine ⟨y, _, I.lset (its' := its.eraseIdx k) hH e ?_ (r.eraseIdx k) ?_, rw', q⟩
  · show its.toArray.eraseIdxIfInBounds k = (its.eraseIdx k).toArray
    rw [List.eraseIdxIfInBounds_toArray]
  · have := len_erase xs k
    omega
def rReverse : V → List V → Hp → VK → Prop := fun x vs H Q => ∃ l xs, x = .ref l ∧ vs = [] ∧ H l = some (.lst xs) ∧ Q .non (upd H l (.lst xs.reverse))
theorem mt_reverse : MtM X "list.reverse" rReverse := by
  intro pins s σ H x vs v us Q I rx rv h
  obtain ⟨l, xs, rfl, rfl, hH, q⟩ := h
  cases rx
  have hus := rv.zero
  subst hus
  obtain ⟨z, its, n, r, hl, e⟩ := I.lstM hH
  refine call_meets F.slot_list_reverse ⟨_, e, rfl⟩ F.entry_list_reverse (F.args_list_reverse_1 _) (AutoSeq1.list_reverse_list_0 l its.toArray n (by rw [List.size_toArray]; omega)) ⟨e, ?_⟩
  refine ⟨.non, _, I.lset (its' := its.reverse) hH e (by simp) r.reverse ?_, rfl, q⟩
  rw [List.length_reverse]
  omega
def rCat : R2 := fun x y H Q => ∃ l b xs zs, x = .ref l ∧ y = .ref b ∧ H l = some (.lst xs) ∧ H b = some (.lst zs) ∧ xs.length + zs.length ≤ sizeLine ∧ ∀ p, H p = none → Q (.ref p) (upd H p (.lst (xs ++ zs)))
theorem op_cat : OpR X (binaryOp .Add) rCat := by
  intro pins s σ H x y v u Q I rx ry h
  obtain ⟨l, b, xs, zs, rfl, rfl, hH, hB, hz, q⟩ := h
  cases rx
  cases ry
  obtain ⟨z, its, n, r, hl, e⟩ := I.lstM hH
  obtain ⟨z2, its2, n2, r2, hl2, e2⟩ := I.lstM hB
  refine PySem.P.add_list e e2 ?_ (by rw [List.size_toArray, List.size_toArray]; omega)
  have ea : its.toArray ++ its2.toArray = (its ++ its2).toArray := by simp
  rw [ea]
  exact ⟨.ref _, _, I.lnew (t' := s.toks) (r.append r2) (by rw [List.length_append]; omega), rfl, q _ I.fresh⟩
def rRep : R2 := fun x y H Q => ∃ l k xs, x = .ref l ∧ y = .int k ∧ H l = some (.lst xs) ∧ -(2 ^ 63) ≤ k ∧ k < 2 ^ 63 ∧ xs.length * k.toNat ≤ sizeLine ∧
  ∀ p, H p = none → Q (.ref p) (upd H p (.lst (List.replicate k.toNat xs).flatten))
theorem len_rep {α : Type} (xs : List α) (k : Nat) : (List.replicate k xs).flatten.length = k * xs.length := by
  induction k with
  | zero => simp
  | succ k ih => rw [List.replicate_succ, List.flatten_cons, List.length_append, ih, Nat.succ_mul, Nat.add_comm]
theorem op_rep : OpR X (binaryOp .Mult) rRep := by
  intro pins s σ H x y v u Q I rx ry h
  obtain ⟨l, k, xs, rfl, rfl, hH, h1, h2, hz, q⟩ := h
  cases rx
  obtain ⟨t, rfl⟩ := ry
  obtain ⟨z, its, n, r, hl, e⟩ := I.lstM hH
  have hlen : its.toArray.size * k.toNat ≤ sizeLine := by rw [List.size_toArray, ← hl]; exact hz
  have hcap : ¬ its.toArray.size * k.toNat > (2 ^ 63 - 1) / 8 := by
    have : (sizeLine : Nat) ≤ (2 ^ 63 - 1) / 8 := by decide
    omega
  have hfit : ¬ (!Builtin.List.listFitsIndex k) = true := by
    rw [fitsIndex_both h1 h2]
    exact Bool.false_ne_true
  have hlong : ¬ Builtin.List.listTooLong (its.toArray.size * k.toNat) = true := by
    rw [notLongL hlen]
    exact Bool.false_ne_true
  have hnew : List.foldl (fun x1 x2 => x1 ++ x2) #[] (List.replicate (if its.toArray.isEmpty = true then 0 else k.toNat) its.toArray) = (List.replicate k.toNat its).flatten.toArray := by
    have f0 : ∀ m : Nat, List.foldl (fun x1 x2 => x1 ++ x2) #[] (List.replicate m its.toArray) = (List.replicate m its).flatten.toArray := fun m => by
      have := foldl_rep its m []
      rw [List.nil_append] at this
      exact this
    rw [f0]
    cases its with
    | nil => simp
    | cons a r' => rw [if_neg (by simp)]
  refine wpAny_binaryOp_repeat_ref (T := "list") (U := "int") (by decide) ⟨_, e, rfl⟩ (fun s' => typeIs_int s' k t) noFill_list_mul F.fills_int_mul F.slot_int_rmul repeat_list F.slot_int_index.lookup
    (call_meets F.slot_int_rmul (typeIs_int s k t) F.entry_int_rmul (F.args_int_rmul_2 _ _) (int___rmul___int_list k t l its.toArray n)
      ⟨e, rfl, ⟨_, e, rfl⟩, call_meets F.slot_list_mul ⟨_, e, rfl⟩ F.entry_list_mul (F.args_list_mul_2 _ _) (AutoListH.list___mul___list_int_3 l its.toArray n k t hfit hcap hlong) ⟨e, ?_⟩⟩)
  rw [hnew]
  exact ⟨.ref _, _, I.lnew (t' := s.toks) (r.rep k.toNat) (by rw [len_rep, Nat.mul_comm]; exact hz), rfl, q _ I.fresh⟩
end
section
variable {prog : Program} {w : World} {A : Around} {E : Value → Shared → Prop} {s : Shared}
end
section
variable {X : Cx}
end
end L2
namespace Att
open PySem PySem.W PySem.Calls PyProof.Rows
theorem ints_of_wellAll {P : Params} {h : Heap} : ∀ (ns : List Int) (vs : List Value), WellAll P h vs (ns.map WData.int) → IntsAre vs ns := by
  intro ns
  induction ns with
  | nil =>
    intro vs w
    rw [List.map_nil] at w
    cases w
    exact .nil
  | cons n ns ih =>
    intro vs w
    rw [List.map_cons] at w
    cases w with
    | cons a b =>
      cases a
      exact .cons _ _ (ih _ b)
theorem script_of {l : OpenLaw} {n : Nat} (hn : l.most = some n) {P : Params} {h : Heap} {args : List WData} {vals : List Value}
    (hpre : l.row.toRowW.claim.pre args = true) (hwl : WellAll P h vals args) :
    ∃ a vs ns, vals = [Value.ref a] ∧ args = [WData.list (ns.map WData.int)] ∧ h.get? a = some { cls := .type "list", data := .seq vs.toArray } ∧ IntsAre vs ns ∧ ns.length ≤ n := by
  have hsh : WShape.hasAll [] args [.list .int] = true := (pre_splitW hpre).1
  have hc : l.pre.holds [] { args := args } = true := (pre_splitW hpre).2
  obtain ⟨d, r, rfl, h1, h2⟩ := hasAllW_cons hsh
  obtain rfl := hasAllW_nil h2
  obtain ⟨xs, rfl, h3⟩ := hasW_list h1
  obtain ⟨ns, rfl⟩ := items_int h3
  have hlen : ns.length ≤ n := by
    unfold OpenLaw.pre at hc
    have h4 : (WTm.not (.lt (.lit (.int (n : Int))) (.len (.arg 0)))).holds [] { args := [.list (ns.map .int)] } = true := by
      have h4 := (holds_andW hc).1
      rw [hn] at h4
      exact h4
    have h5 := condW_of h4 (w_not (w_lt w_lit (w_len_list (w_arg rfl))))
    rw [List.length_map] at h5
    refine Nat.le_of_not_lt fun q => ?_
    have q' : (n : Int) < ((ns.length : Nat) : Int) := by omega
    first
      | (rw [decide_eq_true q'] at h5; exact absurd h5 (by decide))
      | (simp at h5; omega)
  cases hwl with
  | cons w1 w2 =>
    cases w2
    cases w1 with
    | list ho hall => exact ⟨_, _, ns, rfl, rfl, ho, ints_of_wellAll ns _ hall, hlen⟩
theorem post_true (l : OpenLaw) (args : List WData) : l.row.toRowW.claim.post args (.bool true) args = true :=
  postW_of (r := l.row.toRowW) (X := (true == true))
    (show WShape.has [] (.bool true) .bool = true by first | rfl | decide | simp [WShape.has, WShape.arms, WShape.armsAll])
    (show (WTm.eq .res (.lit (.bool true))).value [] { args := args, res := some (.bool true), after := args } = some (.bool (true == true)) from w_eq_bool (w_res rfl) w_lit) rfl
theorem attach_call {l : OpenLaw} {n : Nat} {q : Program} {loose : List Str} {XP : (Str → Option Value) → Heap → Prop} {YP : World → Heap → Prop} {d : DefRec}
    (hn : l.most = some n) (hdf : d.params.defaults = [])
    (call : ∀ (w : World) (s₀ s₁ : Shared) (mg mb : Str → Option Value) (fa : Addr) (o : Obj) (pm cd doc : Value) (a : Addr) (vs : List Value) (ns : List Int),
      Ground q loose [] XP w s₀ mg mb s₁.heap → YP w s₁.heap →
      s₁.heap.get? fa = some o → o.data = .func (docDef d.name d.params d.body d.scope pm cd doc) → s₁.heap.CodeRec cd d.name → mg d.name = some (.ref fa) →
      s₁.heap.get? a = some { cls := .type "list", data := .seq vs.toArray } → IntsAre vs ns → ns.length ≤ n → s₁.gens = #[] →
      codeAny (model l.prog w) callerA (.call (.ref fa) ⟨[.ref a], []⟩) (fun r s' => r = .ok (.ret (.bool true)) ∧ OldK s₁.heap s'.heap ∧ s'.os = s₁.os ∧ AllBare s'.gens) s₁) :
    WalkO q loose XP YP l.row.toRowW d [] (fun f vs => PySem.call f vs) := by
  intro w s₀ s₁ mg mb G Y fa o pm cd doc dV kV ho hd hcd hD hmg hg args vals as hpre hlay hrd hwl hlo
  obtain rfl : dV = .none := Dflts.none hD hdf
  obtain rfl : kV = .none := Dflts.noKw hD
  obtain ⟨a, vs, ns, rfl, rfl, hobj, hints, hlen⟩ := script_of hn hpre hwl
  refine enter_call (codeAny_mono (call w s₀ s₁ mg mb fa o pm cd doc a vs ns G Y ho (fd_plain hd) hcd hmg hobj hints hlen hg) fun r s' hq => ?_)
  obtain ⟨rfl, h2, h3, h4⟩ := hq
  exact ⟨.inl ⟨.bool true, .bool true, [], rfl, fun _ => rfl, .bool true, post_true l _, fun _ => ⟨List.Pairwise.nil, fun _ hm => (nomatch hm)⟩⟩, h2, h3, h4⟩
section
variable {prog : Program} {w : World} {A : Around} {E : Value → Shared → Prop} {s : Shared} {K : Frag}
end
end Att
namespace L2
open PySem PySem.Spec PyProof.Rows
theorem vals_ints : ∀ {vs : List Value} {ns : List Int}, IntsAre vs ns → Vals (ns.map V.int) vs
  | _, _, .nil => .nil
  | _, _, .cons n t h => .cons ⟨t, rfl⟩ (vals_ints h)
def Only (H : Hp) : Prop := ∀ b, H b = none ∨ ∃ o xs, H b = some (.frz o (.lst xs))
theorem law_call {P : Program} {w : World} {K : PySem.W.Frag} {mg mb : Str → Option Value} {CX : CXT} {k : Nat} {fa a : Addr} {fd : FuncData} {x : Str} {sp : Sp} {s₁ : Shared} {vs : List Value} {ns : List Int}
    (KX : K.In s₁.heap) (hns : s₁.heap.Ns mainGlobals mg) (hb : s₁.heap.Ns builtinsNs mb) (hbb : ∀ x : Str, x ≠ "__name__" → mb x = bootBuiltins x) (hlim : s₁.heap.NoLimit) (hg : s₁.gens = #[])
    (ha : s₁.heap.get? a = some { cls := .type "list", data := .seq vs.toArray }) (hi : IntsAre vs ns) (hl : ns.length ≤ sizeLine) (hr : Room k callerA)
    (F : ∀ base : Heap, K.In base → base.Ns mainGlobals mg → FnOk P w K mg base CX k fa fd [x] sp) (hbind : ∀ (s : Shared) (u : Value), BindsTo s fd ⟨[u], []⟩ [(x, u)])
    (hsp : ∀ H : Hp, Only H → SqL K H a (ns.map V.int) → sp [.ref a] H (fun v _ => v = .bl true) fun _ _ _ => False)
    (hCX : ∀ H e s', CX [] H s₁ (fun _ _ _ => False) e s' → False) :
    codeAny (model P w) callerA (.call (.ref fa) ⟨[.ref a], []⟩) (fun r s' => r = .ok (.ret (.bool true)) ∧ OldK s₁.heap s'.heap ∧ s'.os = s₁.os ∧ AllBare s'.gens) s₁ := by
  have rv := vals_ints hi
  have lenV := hi.length
  -- from an abstract heap in which nothing but the script may be tracked
  have core : ∀ H : Hp, Only H → SqL K H a (ns.map V.int) → HOk P w H s₁.heap → (∀ b, H b ≠ none → b = a) → (H a ≠ none → K.lookup a = none) →
      codeAny (model P w) callerA (.call (.ref fa) ⟨[.ref a], []⟩) (fun r s' => r = .ok (.ret (.bool true)) ∧ OldK s₁.heap s'.heap ∧ s'.os = s₁.os ∧ AllBare s'.gens) s₁ := by
    intro H hO hS hok hA hK
    have base_of : ∀ {b : Addr} {o : Obj}, s₁.heap.get? b = some o → H b = none → (hidT s₁.heap H).get? b = some o := fun e n => hidT_get e n
    have noA : ∀ {b : Addr} {o : Obj} {es : Array DictEntry} {ep : Nat}, s₁.heap.get? b = some o → o.data = .dict es ep → H b = none := fun {b o es ep} e d => by
      cases q : H b with
      | none => rfl
      | some u =>
        have e' : b = a := hA b (by rw [q]; simp)
        subst e'
        rw [ha] at e; cases e
        have d' : Data.seq vs.toArray _ = Data.dict es ep := d
        cases d'
    have nsK : ∀ {b : Addr} {m : Str → Option Value}, s₁.heap.Ns b m → (hidT s₁.heap H).Ns b m := fun {b m} ⟨o, es, ep, e, d, r⟩ => ⟨o, es, ep, base_of e (noA e d), d, r⟩
    have hKb : K.In (hidT s₁.heap H) := fun b o e => base_of (KX b o e) (by
      cases q : H b with
      | none => rfl
      | some u =>
        have e' : b = a := hA b (by rw [q]; simp)
        subst e'
        rw [hK (by rw [q]; simp)] at e; cases e)
    have hM : Mod K mg (hidT s₁.heap H) := ⟨hKb, nsK hns, ⟨mb, nsK hb, hbb⟩, let ⟨mc, h1, h2⟩ := hlim; ⟨mc, nsK h1, h2⟩⟩
    have e0 : Env0 P w K mg (hidT s₁.heap H) callerA [] s₁ H := ⟨rfl, hM, fun b o e => of_hidT e, Nat.le_of_eq (hidT_size _ _), trivial, fun b hb => absurd (show b ∈ ([] : List Addr) from hb) (by simp), hok, .of_eq hg⟩
    refine codeAny_mono ((F _ hKb (nsK hns)).run callerA [] s₁ H ⟨[.ref a], []⟩ [.ref a] [.ref a] _ _ hr e0 (hbind s₁ (.ref a)) (.cons rfl .nil) (hsp H hO hS)) fun r s' h => ?_
    cases r with
    | error e => exact (hCX H e s' h).elim
    | ok fl =>
      cases fl with
      | next => exact False.elim h
      | brk => exact False.elim h
      | cont => exact False.elim h
      | ret u =>
        obtain ⟨v, H', os, bare, un, hok', r', q⟩ := h
        have q' : v = .bl true := q
        subst q'
        obtain rfl : u = Value.bool true := r'
        refine ⟨rfl, OldK.of_keep fun b o e => ?_, os, bare⟩
        cases q : H b with
        | none => exact un.keep b o e q (by intro z; exact absurd (show b ∈ ([] : List Addr) from z) (by simp)) (by simp)
        | some u =>
          rcases hO b with z | ⟨ob, xs, z⟩
          · rw [q] at z; cases z
          · have z2 := un.frzs b ob _ z
            obtain ⟨e1, _⟩ := hok b _ z
            obtain ⟨e2, _⟩ := hok' b _ z2
            rw [e] at e1; cases e1
            exact e2
  cases hk : K.lookup a with
  | some o =>
    -- the script is one of the module's own objects
    have e := KX a o hk
    rw [ha] at e
    cases e
    refine core (fun _ => none) (fun _ => .inl rfl) (.inr ⟨_, vs.toArray, _, hk, rfl, rfl, rfl, by rw [List.size_toArray, lenV]; exact hl, by simpa using rv⟩) (fun b u z => by have z' : (none : Option HO) = some u := z; cases z') (fun b z => absurd rfl z) fun z => absurd rfl z
  | none =>
    refine core (fun b => if b = a then some (.frz { cls := .type "list", data := .seq vs.toArray } (.lst (ns.map V.int))) else none) (fun b => ?_) (.inl (.inr ⟨{ cls := .type "list", data := .seq vs.toArray }, if_pos rfl⟩)) (fun b u z => ?_) (fun b z => ?_) fun _ => hk
    · by_cases hb : b = a
      · exact .inr ⟨_, _, if_pos hb⟩
      · exact .inl (if_neg hb)
    · by_cases hb : b = a
      · have z' := (if_pos hb).symm.trans z
        cases z'
        subst hb
        exact ⟨ha, by rw [List.length_map]; exact hl, vs, _, rv, ha⟩
      · have z' := (if_neg hb).symm.trans z
        cases z'
    · by_cases hb : b = a
      · exact hb
      · exact absurd (if_neg hb) z
end L2
namespace L2
open PySem PySem.Spec PyProof.Rows
theorem walk_of {l : PySem.W.OpenLaw} {n k : Nat} {q : Program} {loose : List Str} {XP : (Str → Option Value) → Heap → Prop} {YP : World → Heap → Prop} {d : DefRec} {K : Params → PySem.W.Frag} {CX : World → CXT} {sp : World → Sp} {x : Str}
    (hn : l.most = some n) (hn2 : n ≤ sizeLine) (hdf : d.params.defaults = []) (hr : Room k callerA)
    (hY : ∀ (w : World) (h : Heap), YP w h → (K w.params).In h)
    (F : ∀ (w : World) (mg : Str → Option Value) (fa : Addr) (h : Heap), (K w.params).In h → h.Ns mainGlobals mg → mg d.name = some (.ref fa) →
      ∃ fd : FuncData, (∀ (s : Shared) (u : Value), BindsTo s fd ⟨[u], []⟩ [(x, u)]) ∧
        ∀ base : Heap, (K w.params).In base → base.Ns mainGlobals mg → FnOk l.prog w (K w.params) mg base (CX w) k fa fd [x] (sp w))
    (hsp : ∀ (w : World) (H : Hp) (a : Addr) (ns : List Int), ns.length ≤ n → Only H → SqL (K w.params) H a (ns.map V.int) → sp w [.ref a] H (fun v _ => v = .bl true) fun _ _ _ => False)
    (hCX : ∀ (w : World) (H : Hp) (s : Shared) (e : Value) (s' : Shared), CX w [] H s (fun _ _ _ => False) e s' → False) :
    PySem.W.WalkO q loose XP YP l.row.toRowW d [] (fun f vs => PySem.call f vs) := by
  refine Att.attach_call hn hdf fun w s₀ s₁ mg mb fa o pm cd doc a vs ns G Y ho hd hcd hmg hobj hints hlen hg => ?_
  have KX := hY w _ Y
  obtain ⟨fd, hb, hF⟩ := F w mg fa _ KX G.T.g hmg
  exact law_call KX G.T.g G.T.b G.T.builtins G.T.nolimit hg hobj hints (Nat.le_trans hlen hn2) hr hF hb (fun H hO hS => hsp w H a ns hlen hO hS) fun H e s' => hCX w H s₁ e s'
end L2
namespace L2
open PySem PySem.Spec PyProof.Rows
def defArgs (s : Stmt) : Arguments := match s with
  | .FunctionDef _ a _ _ _ _ _ _ _ _ => a
  | _ => { posonlyargs := [], args := [], vararg := none, kwonlyargs := [], kw_defaults := [], kwarg := none, defaults := [] }
def defBody (s : Stmt) : List Stmt := match s with
  | .FunctionDef _ _ b _ _ _ _ _ _ _ => b
  | _ => []
def defScope (s : Stmt) : Scope := match s with
  | .FunctionDef _ _ _ _ _ _ sc _ _ _ => sc
  | _ => { kind := .function, names := [], isGenerator := false, isCoroutine := false }
abbrev CX0 : CXT := fun _ _ _ _ _ _ => False
abbrev E0 : XK := fun _ _ _ => False
theorem pass0 {X : Cx} : Passes CX0 X E0 := fun _ _ _ _ _ _ _ h => h.elim
structure Fun (K : PySem.W.Frag) (x qual : Str) (st : Stmt) (f : Addr) (fd : FuncData) : Prop where
  ex : ∃ (oc : Value) (od : Option Addr) (kV doc pm : Value) (an : Option Addr) (cdv ct : Value) (osl : Array (Option Value)),
    fd = PySem.W.fnOf x qual (defArgs st) (defBody st) (defScope st) .none kV doc pm an cdv ct ∧ K.lookup f = some ⟨oc, od, .func fd, osl⟩ ∧ PySem.W.codeIn K cdv qual = true
  kp : PySem.W.keepIn K (.ref f) = true
section
variable {P : Program} {w : World} {K : PySem.W.Frag} {mg : Str → Option Value} {base : Heap}
theorem Fun.ok {x qual : Str} {st : Stmt} {f : Addr} {fd : FuncData} {N ps : List Str} {k : Nat} {sp : Sp} (F : Fun K x qual st f fd) (S : FnScope N ps (defScope st)) (len : ∀ vs H Q E, sp vs H Q E → vs.length = ps.length)
    (hbody : ∀ (cdv : Value) (A : Around) (outer : List Env) (s : Shared) (H : Hp) (vs : List V) (Q : VK) (E : XK), Room k (A.deeper (envOfC qual (defScope st) s.heap.objs.size f cdv)) → sp vs H Q E →
      ∃ t, PSs (cxOf CX0 P w K mg base N qual (defScope st) f cdv A outer s H E).nox (defBody st) t ∧ t { nx := fun _ H' => Q .non H', rt := Q } (start N vs) H) : FnOk P w K mg base CX0 (k + 1) f fd ps sp := by
  obtain ⟨oc, od, kV, doc, pm, an, cdv, ct, osl, rfl, lk, hcd⟩ := F.ex
  refine fn_of lk hcd S len fun A outer s H vs Q E hr hsp => ?_
  obtain ⟨t, h, q⟩ := hbody cdv A outer s H vs Q E hr hsp
  exact ⟨t, h.nox, q⟩
theorem Fun.binds {x qual : Str} {st : Stmt} {f : Addr} {fd : FuncData} {ps : List Str} (F : Fun K x qual st f fd)
    (h : ∀ (kV doc pm : Value) (an : Option Addr) (cdv ct : Value) (us : List Value), us.length = ps.length → bindArgs (PySem.W.fnOf x qual (defArgs st) (defBody st) (defScope st) .none kV doc pm an cdv ct) ⟨us, []⟩ = pure (ps.zip us)) : Binds K fd ps [] := by
  obtain ⟨oc, od, kV, doc, pm, an, cdv, ct, osl, rfl, lk, hcd⟩ := F.ex
  exact .all (h kV doc pm an cdv ct)
theorem fun_mk {x qual : Str} {st : Stmt} {f : Addr} {oc : Value} {od an : Option Addr} {osl : Array (Option Value)} {kV doc pm cdv ct : Value} (l : K.lookup f = some ⟨oc, od, .func (PySem.W.fnOf x qual (defArgs st) (defBody st) (defScope st) .none kV doc pm an cdv ct), osl⟩)
    (c : PySem.W.codeIn K cdv qual = true) (k : PySem.W.keepIn K (.ref f) = true) : Fun K x qual st f (PySem.W.fnOf x qual (defArgs st) (defBody st) (defScope st) .none kV doc pm an cdv ct) := ⟨⟨oc, od, kV, doc, pm, an, cdv, ct, osl, rfl, l, c⟩, k⟩
end
section
variable {X : Cx}
theorem pv (i : Nat) {x : Str} {pos : Pos} (hN : X.N[i]? = some x := by rfl) (hv : Vis X.env.scope x := by first | exact Or.inl rfl | exact Or.inr (Or.inl rfl) | exact Or.inr (Or.inr rfl)) (hd : (x == ("__debug__" : Str)) = false := by decide)
    (hcd : (x == ("__classdict__" : Str)) = false := by decide) : PE X (.Name x pos) (tVar i) := pe_var hN hv hd hcd
end
theorem iteF {A B : Prop} (h : B) : if false = true then A else B := by
  rw [if_neg Bool.false_ne_true]
  exact h
theorem iteT {A B : Prop} (h : A) : if true = true then A else B := by
  rw [if_pos rfl]
  exact h
theorem ite2 {c A B : Prop} [Decidable c] (h1 : c → A) (h2 : ¬ c → B) : if c then A else B := by
  by_cases h : c
  · rw [if_pos h]
    exact h1 h
  · rw [if_neg h]
    exact h2 h
theorem iteNS {c A B : Prop} [Decidable c] (hc : c) (h : B) : if (!decide c) = true then A else B := by
  rw [decide_eq_true hc]
  exact iteF h
def Same (H H' : Hp) : Prop := ∀ b o, H b = some o → H' b = some o
theorem Same.refl (H : Hp) : Same H H := fun _ _ h => h
theorem Same.trans {H H1 H2 : Hp} (a : Same H H1) (b : Same H1 H2) : Same H H2 := fun c o h => b c o (a c o h)
theorem Same.free {H H' : Hp} (e : Same H H') {l : Addr} (h : H' l = Option.none) : H l = Option.none := by
  cases q : H l with
  | none => rfl
  | some o =>
    rw [e l o q] at h
    cases h
theorem Same.seq {K : PySem.W.Frag} {H H' : Hp} {a : Addr} {xs : List V} (e : Same H H') (h : SqL K H a xs) : SqL K H' a xs := by
  rcases h with (h | ⟨o, h⟩) | h
  · exact .inl (.inl (e _ _ h))
  · exact .inl (.inr ⟨o, e _ _ h⟩)
  · exact .inr h
end L2
set_option Elab.async false
set_option linter.all false
set_option maxRecDepth 100000
namespace L2
open PySem PySem.Spec PyProof.Rows
theorem lookup_relabel_free {env : Env} : ∀ {names : List (Str × NameKind)} {x : Str}, names.lookup x = some .free →
    (names.map fun (n, k) => if (k == NameKind.free && env.scope.kind == .function && env.kindOf n == some .cell) then (n, NameKind.cell) else (n, k)).lookup x = some .free ∨
    (names.map fun (n, k) => if (k == NameKind.free && env.scope.kind == .function && env.kindOf n == some .cell) then (n, NameKind.cell) else (n, k)).lookup x = some .cell
  | [], _, h => by simp at h
  | (n, k) :: r, x, h => by
    have ih := @lookup_relabel_free env r x
    show List.lookup x ((if (k == NameKind.free && env.scope.kind == .function && env.kindOf n == some .cell) = true then (n, NameKind.cell) else (n, k)) :: _) = _ ∨ List.lookup x ((if (k == NameKind.free && env.scope.kind == .function && env.kindOf n == some .cell) = true then (n, NameKind.cell) else (n, k)) :: _) = _
    cases hx : x == n with
    | true =>
      simp only [List.lookup_cons, hx] at h
      cases h
      by_cases hc : (NameKind.free == NameKind.free && env.scope.kind == .function && env.kindOf n == some .cell) = true
      · rw [if_pos hc]; exact .inr (by simp only [List.lookup_cons, hx])
      · rw [if_neg hc]; exact .inl (by simp only [List.lookup_cons, hx])
    | false =>
      simp only [List.lookup_cons, hx] at h
      by_cases hc : (k == NameKind.free && env.scope.kind == .function && env.kindOf n == some .cell) = true
      · rw [if_pos hc]; simp only [List.lookup_cons, hx]; exact ih h
      · rw [if_neg hc]; simp only [List.lookup_cons, hx]; exact ih h
theorem relabel_back {env : Env} : ∀ {names : List (Str × NameKind)} {x : Str} {kd : NameKind}, (∀ y ∈ names, y.2 ≠ .cell) → kd = .cell ∨ kd = .free →
    (names.map fun (n, k) => if (k == NameKind.free && env.scope.kind == .function && env.kindOf n == some .cell) then (n, NameKind.cell) else (n, k)).lookup x = some kd → names.lookup x = some .free
  | [], _, _, _, _, h => by simp at h
  | (n, k) :: r, x, kd, hn, hk, h => by
    have ih := @relabel_back env r x kd (fun y hy => hn y (List.mem_cons_of_mem _ hy)) hk
    have h' : List.lookup x ((if (k == NameKind.free && env.scope.kind == .function && env.kindOf n == some .cell) = true then (n, NameKind.cell) else (n, k)) :: (r.map fun (n, k) => if (k == NameKind.free && env.scope.kind == .function && env.kindOf n == some .cell) then (n, NameKind.cell) else (n, k))) = some kd := h
    have hkc : k ≠ .cell := hn (n, k) List.mem_cons_self
    by_cases hc : (k == NameKind.free && env.scope.kind == .function && env.kindOf n == some .cell) = true
    · rw [if_pos hc] at h'
      have hkf : k = .free := by
        simp only [Bool.and_eq_true, beq_iff_eq] at hc
        exact hc.1.1
      subst hkf
      cases hx : x == n with
      | true => simp only [List.lookup_cons, hx]
      | false => simp only [List.lookup_cons, hx] at h' ⊢; exact ih h'
    · rw [if_neg hc] at h'
      cases hx : x == n with
      | true =>
        simp only [List.lookup_cons, hx] at h' ⊢
        have e : k = kd := Option.some.inj h'
        subst e
        rcases hk with hk | hk
        · exact absurd hk hkc
        · rw [hk]
      | false => simp only [List.lookup_cons, hx] at h' ⊢; exact ih h'
def closOf (cells : List (Str × Addr)) : List (Str × NameKind) → List (Str × Addr) → List (Str × Addr)
  | [], acc => acc
  | (n, k) :: r, acc => closOf cells r (if k = .free then match cells.lookup n with | some c => (n, c) :: acc | none => acc else acc)
theorem closureFor_eq {scope : Scope} {env : Env} (h : ∀ y ∈ scope.names, y.2 = .free → ∃ c, env.cells.lookup y.1 = some c) : closureFor scope env = pure (closOf env.cells scope.names []) := by
  have go : ∀ (l : List (Str × NameKind)) (acc : List (Str × Addr)), (∀ y ∈ l, y.2 = .free → ∃ c, env.cells.lookup y.1 = some c) →
      (forIn l acc fun x (r : List (Str × Addr)) => (match x with | (name, kind) => if (kind == NameKind.free) = true then do let c ← cellOf env name; pure (ForInStep.yield ((name, c) :: r)) else pure (ForInStep.yield r) : Sem (ForInStep (List (Str × Addr))))) = pure (closOf env.cells l acc) := by
    intro l
    induction l with
    | nil => intro acc _; rfl
    | cons x l ih =>
      intro acc hl
      obtain ⟨n, k⟩ := x
      rw [List.forIn_cons]
      by_cases hk : k = .free
      · subst hk
        obtain ⟨c, hc⟩ := hl (n, .free) List.mem_cons_self rfl
        have e1 : cellOf env n = pure c := by unfold cellOf; rw [hc]
        simp only [beq_self_eq_true, if_true, e1, pure_bind]
        rw [ih _ fun y hy => hl y (List.mem_cons_of_mem _ hy)]
        show _ = pure (closOf env.cells l (if NameKind.free = .free then match env.cells.lookup n with | some c => (n, c) :: acc | none => acc else acc))
        rw [if_pos rfl, hc]
      · have hb : (k == NameKind.free) = false := by simpa using hk
        simp only [hb, Bool.false_eq_true, if_false, pure_bind]
        rw [ih _ fun y hy => hl y (List.mem_cons_of_mem _ hy)]
        show _ = pure (closOf env.cells l (if k = .free then _ else acc))
        rw [if_neg hk]
  unfold closureFor
  have := go scope.names [] h
  simp only [bind_pure_comp] at this ⊢
  first
    | exact this
    | simpa using this
theorem closOf_lookup {cells : List (Str × Addr)} {x : Str} {c : Addr} : ∀ (l : List (Str × NameKind)) (acc : List (Str × Addr)), (∀ d, acc.lookup x = some d → cells.lookup x = some d) → (closOf cells l acc).lookup x = some c → cells.lookup x = some c
  | [], acc, h, e => h c e
  | (n, k) :: r, acc, h, e => by
    refine closOf_lookup r _ (fun d hd => ?_) e
    split at hd
    · split at hd
      · rename_i c' hc'
        cases hx : x == n with
        | true =>
          simp only [List.lookup_cons, hx] at hd
          have : x = n := by simpa using hx
          subst this
          rw [hc']; exact hd
        | false => simp only [List.lookup_cons, hx] at hd; exact h d hd
      · exact h d hd
    · exact h d hd
theorem closOf_has {cells : List (Str × Addr)} {x : Str} {c : Addr} (hc : cells.lookup x = some c) : ∀ (l : List (Str × NameKind)) (acc : List (Str × Addr)), (acc.lookup x = some c ∨ (x, NameKind.free) ∈ l) → (∀ d, acc.lookup x = some d → d = c) → (closOf cells l acc).lookup x = some c
  | [], acc, h, _ => by
    rcases h with h | h
    · exact h
    · cases h
  | (n, k) :: r, acc, h, u => by
    by_cases hk : k = .free
    · subst hk
      show (closOf cells r (if NameKind.free = .free then match cells.lookup n with | some c => (n, c) :: acc | none => acc else acc)).lookup x = some c
      rw [if_pos rfl]
      by_cases hx : x = n
      · subst hx
        rw [hc]
        refine closOf_has hc r _ (.inl (by simp)) fun d hd => ?_
        simp at hd
        exact hd.symm
      · have hb : (x == n) = false := by simpa using hx
        have keep : ∀ (a2 : List (Str × Addr)), (match cells.lookup n with | some c => (n, c) :: acc | none => acc) = a2 → a2.lookup x = acc.lookup x := by
          intro a2 e
          subst e
          cases cells.lookup n with
          | none => rfl
          | some c' => simp only [List.lookup_cons, hb]
        refine closOf_has hc r _ ?_ fun d hd => u d (by rw [keep _ rfl] at hd; exact hd)
        rcases h with h | h
        · exact .inl (by rw [keep _ rfl]; exact h)
        · rcases List.mem_cons.mp h with h | h
          · exact absurd (congrArg Prod.fst h) hx
          · exact .inr h
    · show (closOf cells r (if k = .free then _ else acc)).lookup x = some c
      rw [if_neg hk]
      refine closOf_has hc r _ ?_ u
      rcases h with h | h
      · exact .inl h
      · rcases List.mem_cons.mp h with h | h
        · exact absurd (congrArg Prod.snd h).symm hk
        · exact .inr h
abbrev cmpCx (X : Cx) (N : List Str) (scope : Scope) (cl : List (Str × Addr)) (C : Addr) (s2 : Shared) (H2 : Hp) (fp : List Addr) : Cx :=
  { X with N := N, s₀ := s2, H₀ := H2, env := compEnvC scope cl C X.env, outer := X.stack, ex := fp, fn := fun _ => false, pn := [], xe := fun _ _ => False }
def innerSt (sl : List (Option Nat)) (σ : St) : St := sl.map fun o => match o with | some i => (σ[i]?).join | none => none
structure CompScope (X : Cx) (N : List Str) (sl : List (Option Nat)) (scope : Scope) : Prop where
  kind : scope.kind = .function
  nocell : ∀ y ∈ scope.names, y.2 ≠ .cell
  locs : ∀ y ∈ scope.names, y.2 = .local → scope.names.lookup y.1 = some .local
  frees : ∀ y ∈ scope.names, y.2 = .free → X.env.kindOf y.1 = some .cell ∨ X.env.kindOf y.1 = some .free
  len : sl.length = N.length
  out : ∀ (j i : Nat) (x : Str), N[j]? = some x → sl[j]? = some (some i) → X.N[i]? = some x ∧ scope.names.lookup x = some .free
def PIf (X : Cx) (ifs : List Expr) (t : TT) : Prop :=
  ∀ (pins : List (Addr × Obj)) (s : Shared) (σ : St) (H : Hp) (Q : Bool → Hp → Prop), Inv X pins σ H s → t σ H Q →
    wpAny (model X.prog X.w) X.A (forIn ifs true fun c r => if r = true then do let ok ← isTrue c X.env (eval c X.env); pure (ForInStep.yield ok) else pure (ForInStep.yield r)) (TP X pins σ Q) X.xe s
def tAll : TT := fun _ H Q => Q true H
theorem pif_none {X : Cx} : PIf X [] tAll := fun pins s σ H Q I h => by
  rw [List.forIn_nil]
  exact wpAny_pure ⟨H, I, h⟩
theorem pif_one {X : Cx} {c : Expr} {t : TT} (h : PT X c t) : PIf X [c] t := fun pins s σ H Q I q => by
  rw [List.forIn_cons]
  refine wpAny_bind ?_
  rw [if_pos rfl]
  refine wpAny_bind (thn (h pins s σ H Q I q) fun b s1 r => wpAny_pure ?_)
  show wpAny _ _ (forIn [] b _) _ _ _
  rw [List.forIn_nil]
  exact wpAny_pure r
def compW (J : It) (D : Addr) (st : St) (g : TG) (tif : TT) (te : TE) (Q : VK) (H1 : Hp) : Prop := ∃ W : Nat → Nat → Hp → Prop,
  (∃ m, W 0 m (upd H1 D (.lst []))) ∧ ∀ i m H2, W i m H2 →
    (J.stop i H2 ∧ Q (.ref D) H2) ∨ (J.go i H2 ∧ ∀ x H', J.yld i H2 x H' → g x st H' fun σ3 H3 => tif σ3 H3 fun b H4 =>
      if b = true then te σ3 H4 fun y H5 => ∃ ys, H5 D = some (.lst ys) ∧ ys.length < sizeLine ∧ ∃ m', m' < m ∧ W (i + 1) m' (upd H5 D (.lst (ys ++ [y]))) else ∃ m', m' < m ∧ W (i + 1) m' H4)
def tComp (wi : TI) (sl : List (Option Nat)) (g : TG) (tif : TT) (te : TE) : TE := fun σ H Q => wi σ H fun J H1 => ∀ D, H1 D = none → compW J D (innerSt sl σ) g tif te Q H1
end L2
set_option Elab.async false
set_option linter.all false
set_option maxRecDepth 100000
namespace L2
open PySem PySem.Spec PyProof.Rows
section
variable {X : Cx} {N : List Str} {sl : List (Option Nat)} {scope : Scope}
theorem innerSt_get {σ : St} {j : Nat} {v : V} (h : (innerSt sl σ)[j]? = some (some v)) : ∃ i, sl[j]? = some (some i) ∧ σ[i]? = some (some v) := by
  unfold innerSt at h
  rw [List.getElem?_map] at h
  cases e : sl[j]? with
  | none => rw [e] at h; cases h
  | some o =>
    rw [e] at h
    cases o with
    | none => cases h
    | some i =>
      refine ⟨i, rfl, ?_⟩
      have h' : (σ[i]?).join = some v := Option.some.inj h
      cases e2 : σ[i]? with
      | none => rw [e2] at h'; cases h'
      | some q => rw [e2] at h'; exact congrArg some h'
theorem CompScope.clos (S : CompScope X N sl scope) (ok : X.Ok) : closureFor scope X.env = pure (closOf X.env.cells scope.names []) :=
  closureFor_eq fun y hy hf => ok.has y.1 (S.frees y hy hf)
theorem CompScope.cell (S : CompScope X N sl scope) (ok : X.Ok) {x : Str} (hf : scope.names.lookup x = some .free) {c : Addr} (hc : X.env.cells.lookup x = some c) : (closOf X.env.cells scope.names []).lookup x = some c :=
  closOf_has hc _ _ (.inr (PySem.mem_of_lookup hf)) fun d hd => by simp at hd
theorem CompScope.back {x : Str} {c : Addr} (h : (closOf X.env.cells scope.names []).lookup x = some c) : X.env.cells.lookup x = some c :=
  closOf_lookup _ _ (fun d hd => by simp at hd) h
theorem CompScope.ok (S : CompScope X N sl scope) {pins : List (Addr × Obj)} {σ : St} {H2 : Hp} {s2 : Shared} {fp : List Addr} {C : Addr} (I : Inv X pins σ H2 s2) (hf : ∀ b ∈ fp, FpOk X pins H2 b) (hlt : ∀ b ∈ fp, b < s2.heap.objs.size) (hC : s2.heap.objs.size ≤ C) :
    (cmpCx X N scope (closOf X.env.cells scope.names []) C s2 H2 fp).Ok where
  mod := I.ok.mod
  kind := S.kind
  glob := I.ok.glob
  blt := I.ok.blt
  above := hC
  inj := fun x y c h1 h2 => I.ok.inj x y c (CompScope.back h1) (CompScope.back h2)
  has := fun x hx => by
    have hx' : scope.names.lookup x = some .free := by
      rcases hx with hx | hx
      · exact relabel_back S.nocell (.inl rfl) hx
      · exact relabel_back S.nocell (.inr rfl) hx
    obtain ⟨c, hc⟩ := I.ok.has x (S.frees _ (PySem.mem_of_lookup hx') rfl)
    exact ⟨c, S.cell I.ok hx' hc⟩
  cab := fun x c h => absurd (show false = true from h) Bool.false_ne_true
  hd := I.ok.hd
  frames := I.ok.frames
  stk := .inl rfl
  exf := fun b hb => ⟨Nat.ne_of_lt (Nat.lt_of_lt_of_le (hlt b hb) hC), fun x c h => (hf b hb).2.2.2.2.1 x c (CompScope.back h)⟩
  bs := I.bs
  bsz := Nat.le_trans I.ok.bsz I.sz
  noex := fun b o e hb => by
    rcases (hf b hb).2.2.2.1 with z | z
    · exact I.ok.noex b o e z
    · exact absurd (Nat.lt_of_lt_of_le (Nat.lt_of_lt_of_le (Heap.lt_size e) I.ok.bsz) z) (Nat.lt_irrefl _)
  exfs := fun b hb z => by
    rcases List.mem_cons.mp (I.stkSub b z) with e | e
    · exact (hf b hb).2.1 e
    · exact (hf b hb).2.2.1 e
  funs := I.stack
  frf := I.stkFree
theorem CompScope.again (S : CompScope X N sl scope) {pins : List (Addr × Obj)} {σ : St} {H2 : Hp} {s2 : Shared} {fp : List Addr} {C : Addr} (I : Inv X pins σ H2 s2) (hf : ∀ b ∈ fp, FpOk X pins H2 b)
    {pins' : List (Addr × Obj)} {σ' : St} {H' : Hp} {s' : Shared} (J : Inv (cmpCx X N scope (closOf X.env.cells scope.names []) C s2 H2 fp) pins' σ' H' s') :
    Inv (cmpCx X N scope (closOf X.env.cells scope.names []) C s2 H2 fp) pins' (innerSt sl σ) H' s' := by
  obtain ⟨m, hn, _⟩ := J.loc
  refine ⟨J.ok, J.os, J.bare, J.base, ⟨m, hn, fun j x v e1 e2 _ => ?_⟩, J.cell, J.free, J.freeC, J.pin, J.hok, ?_⟩
  · obtain ⟨i, h1, h2⟩ := innerSt_get e2
    obtain ⟨hN, hfree⟩ := S.out j i x e1 h1
    have hk := S.frees _ (PySem.mem_of_lookup hfree) rfl
    obtain ⟨m0, hn0, hl0⟩ := I.loc
    have hv : Vis X.env.scope x := by
      rcases hk with hk | hk
      · exact .inr (.inl hk)
      · exact .inr (.inr hk)
    obtain ⟨u, r, l⟩ := hl0 i x v hN h2 hv
    refine ⟨u, r, .inr ⟨?_, ?_⟩⟩
    · rcases lookup_relabel_free (env := X.env) hfree with z | z
      · exact .inr z
      · exact .inl z
    · rcases l with ⟨z, _⟩ | ⟨_, c, hc, q⟩
      · rcases hk with hk | hk
        · have hk' : X.env.kindOf x = some .cell := hk
          rw [hk'] at z; cases z
        · have hk' : X.env.kindOf x = some .free := hk
          rw [hk'] at z; cases z
      · refine ⟨c, S.cell I.ok hfree hc, ?_⟩
        obtain ⟨o, ho, hd⟩ := q
        have ncfp : c ∉ fp := fun z => (hf c z).2.2.2.2.1 x c hc rfl
        obtain ⟨sl', e⟩ := J.base.any ho (I.freeC x c hc) ncfp
        exact ⟨_, e, hd⟩
  · unfold innerSt
    rw [List.length_map]
    exact S.len
theorem comp_run {elt tg iter : Expr} {ifs : List Expr} {pos pos2 : Pos} {wi : TI} {g : TG} {tif : TT} {te : TE} {use : Option (Value → Sem Unit)} {QQ : Value → Shared → Prop} (S : CompScope X N sl scope) (hcalm : X.calm = true) (hi : PI X tg iter wi)
    (hg : ∀ cl C s2 H2 fp, PG (cmpCx X N scope cl C s2 H2 fp) tg g) (hif : ∀ cl C s2 H2 fp, PIf (cmpCx X N scope cl C s2 H2 fp) ifs tif) (he : ∀ cl C s2 H2 fp, PE (cmpCx X N scope cl C s2 H2 fp) elt te)
    (hs : ∀ x, foldedSetIterable iter X.env x = pure x) {pins : List (Addr × Obj)} {s : Shared} {σ : St} {H : Hp} {Q : VK} (I : Inv X pins σ H s) (h : tComp wi sl g tif te σ H Q)
    (hend : ∀ (D C : Addr) (H3 : Hp) (s4 : Shared) (fl : Flow), Inv X pins σ H3 s4 → H3 C = none → C ≠ X.env.locals → C ∉ X.fs → X.s₀.heap.objs.size ≤ C → (∀ x c, X.env.cells.lookup x = some c → c ≠ C) → (∀ p ∈ X.pn ++ pins, p.1 ≠ C) → (∃ m, s4.heap.Ns C m) → Q (.ref D) H3 →
      compPost (model X.prog X.w) X.A X.xe use QQ (.ref D) C (.ok fl) s4) :
    wpAny (model X.prog X.w) X.A (comprehension (.ListComp elt [⟨tg, iter, ifs, 0⟩] scope pos) scope X.env pos2 (newList []) false (eval iter X.env) use) QQ X.xe s := by
  refine wpAny_comprehension_free (use := use) rfl hs (S.clos I.ok) S.kind S.locs (wpAny_mono (hi pins s σ H _ I h) (fun xv s1 h1 => wpAny_mono h1 (fun itv s2 h2 => ?_) fun _ _ e => e) fun _ _ e => e)
  obtain ⟨it, fp, tn, J, H2, rfl, I2, T, st2, f2, hR⟩ := h2
  obtain ⟨W, ⟨m0, w0⟩, turn⟩ := hR _ I2.fresh
  refine wpAny_newObj_type (wpAny_newFunctionEnv S.nocell (by intro y hy; simp at hy) (fun h₁ hns₁ hsb₁ => ?_) S.kind)
  dsimp only at hns₁ hsb₁ ⊢
  generalize hP : s2.heap.push { cls := .type "list", dict := none, data := .seq ([] : List Value).toArray } = P2 at hns₁ hsb₁ ⊢
  have hC : P2.objs.size = s2.heap.objs.size + 1 := by rw [← hP, Heap.size_push]
  have hDC : s2.heap.objs.size ≠ P2.objs.size := by rw [hC]; exact Nat.ne_of_lt (Nat.lt_succ_self _)
  have hCle : s2.heap.objs.size ≤ P2.objs.size := by rw [hC]; exact Nat.le_succ _
  have hlt : ∀ b ∈ fp, b < s2.heap.objs.size := fun b hb => let ⟨o, e, _⟩ := T.obj 0 _ st2 b hb; Heap.lt_size e
  have old : ∀ b o, s2.heap.get? b = some o → h₁.get? b = some o := fun b o e => hsb₁.extBut b o (Nat.ne_of_lt (Nat.lt_of_lt_of_le (Heap.lt_size e) hCle)) (Heap.get?_push_of_some _ (hP ▸ Heap.get?_push_of_some _ e))
  have hD1 : h₁.get? s2.heap.objs.size = some { cls := .type "list", dict := none, data := .seq ([] : List Value).toArray } := hsb₁.extBut _ _ hDC (Heap.get?_push_of_some _ (hP ▸ Heap.get?_push_size _ rfl))
  have hok := S.ok (C := P2.objs.size) I2 f2 hlt hCle
  have hokH : HOk X.prog X.w (upd H2 s2.heap.objs.size (.lst [])) h₁ := I2.hok.laid old (Nat.le_refl _) ⟨Nat.zero_le _, [], _, .nil, hD1⟩
  have hUn : Un (frs X.stack) fp H2 (upd H2 s2.heap.objs.size (.lst [])) s2.heap h₁ := Un.laid old (Nat.le_refl _) I2.fresh
  have hcellK : ∀ x c, (closOf X.env.cells scope.names []).lookup x = some c → ∃ v, h₁.IsCell c v := fun x c hc => by
    obtain ⟨v, o, ho, hd⟩ := I2.cell x c (CompScope.back hc)
    exact ⟨v, o, old c o ho, hd⟩
  have hfreeK : ∀ x c, (closOf X.env.cells scope.names []).lookup x = some c → upd H2 s2.heap.objs.size (.lst []) c = none := fun x c hc => by
    obtain ⟨v, q⟩ := I2.cell x c (CompScope.back hc)
    rw [upd_ne (Nat.ne_of_lt q.lt)]
    exact I2.freeC x c (CompScope.back hc)
  have hfreeC : upd H2 s2.heap.objs.size (.lst []) P2.objs.size = none := by
    rw [upd_ne (Ne.symm hDC)]
    exact I2.hok.fresh hCle
  have start : ∀ tk : Nat, Inv (cmpCx X N scope (closOf X.env.cells scope.names []) P2.objs.size s2 H2 fp) [] (innerSt sl σ) (upd H2 s2.heap.objs.size (.lst [])) { s2 with heap := h₁, toks := tk } := fun tk => by
    have J0 : Inv (cmpCx X N scope (closOf X.env.cells scope.names []) P2.objs.size s2 H2 fp) [] (List.replicate N.length none) (upd H2 s2.heap.objs.size (.lst [])) { s2 with heap := h₁, toks := tk } :=
      ⟨hok, rfl, I2.bare, hUn, ⟨_, hns₁, fun i x v e1 e2 _ => by
        rw [List.getElem?_replicate] at e2
        split at e2 <;> cases e2⟩, hcellK, hfreeC, hfreeK, fun p hp => absurd (show p ∈ ([] : List (Addr × Obj)) from hp) (by simp), hokH, by simp⟩
    exact S.again I2 f2 J0
  have stK : tn 0 h₁ := T.keep _ _ _ st2 fun b hb o e => old b o e
  have fr1 : ∀ b ∈ fp, upd H2 s2.heap.objs.size (.lst []) b = none := fun b hb => by
    rw [upd_ne (Nat.ne_of_lt (hlt b hb))]
    exact (f2 b hb).1
  -- what stays true of the iterator's objects
  have stat : ∀ {H' : Hp}, (∀ b ∈ fp, H' b = none) → ∀ b ∈ fp, FpOk (cmpCx X N scope (closOf X.env.cells scope.names []) P2.objs.size s2 H2 fp) [] H' b := fun hn b hb =>
    ⟨hn b hb, Nat.ne_of_lt (Nat.lt_of_lt_of_le (hlt b hb) hCle), fun z => hok.exfs b hb z, .inl hb, fun x c hc => (hok.exf b hb).2 x c hc, fun p hp => absurd (show p ∈ ([] : List (Addr × Obj)) from hp) (by simp)⟩
  have loop : ∀ tk : Nat, codeAny (model X.prog X.w) X.A (.compLoop (.ListComp elt [⟨tg, iter, ifs, 0⟩] scope pos) 0 (.ref it) (.ref s2.heap.objs.size) (compEnvC scope (closOf X.env.cells scope.names []) P2.objs.size X.env))
      (compPost (model X.prog X.w) X.A X.xe use QQ (.ref s2.heap.objs.size) P2.objs.size) { s2 with heap := h₁, toks := tk } := fun tk => by
    refine codeAny_loop rfl (fun n s' => ∃ i H', Inv (cmpCx X N scope (closOf X.env.cells scope.names []) P2.objs.size s2 H2 fp) [] (innerSt sl σ) H' s' ∧ tn i s'.heap ∧ (∀ b ∈ fp, H' b = none) ∧ W i n H') ?_ m0 ⟨0, _, start tk, stK, fr1, w0⟩
    rintro n s3 ⟨i, H3, I3, st3, fr3, w3⟩
    show wpAny _ X.A ((compTurn (.ListComp elt [⟨tg, iter, ifs, 0⟩] scope pos) 0 (.ref it) (.ref s2.heap.objs.size) (compEnvC scope (closOf X.env.cells scope.names []) P2.objs.size X.env)).onRaise (fun x => do noteFrame x (compEnvC scope (closOf X.env.cells scope.names []) P2.objs.size X.env); theTreesLotGoes x)) _ _ s3
    refine wpAny_noted ?_
    rw [compTurn_list]
    rcases turn i n H3 w3 with ⟨stop, qn⟩ | ⟨go, step⟩
    · refine wpAny_bind (wpAny_standAt (wpAny_bind (wpAny_mono (T.done (cmpCx X N scope (closOf X.env.cells scope.names []) P2.objs.size s2 H2 fp) rfl rfl rfl hcalm i [] s3 _ H3 _ I3 (stat fr3) st3 stop) (fun r s4 ⟨hr, I4⟩ => ?_) fun _ _ z => z)))
      subst hr
      refine wpAny_pure ?_
      obtain ⟨m4, hn4, _⟩ := I4.loc
      have u0 : Un (frs X.stack) fp H2 H3 s2.heap s4.heap := I4.base
      have hI : Inv X pins σ H3 s4 := I2.call' (s' := s4) (ch := fp) I4.os u0 I4.hok I4.bare fun b hb => ⟨(f2 b hb).2.2.2.1, (f2 b hb).2.1, (f2 b hb).2.2.2.2.1, (f2 b hb).2.2.2.2.2⟩
      have hC' := I2.fpOk (H' := H3) hCle I4.free
      exact hend _ _ H3 s4 _ hI I4.free hC'.2.1 hC'.2.2.1 (Nat.le_trans I2.sz hCle) hC'.2.2.2.2.1 hC'.2.2.2.2.2 ⟨m4, hn4⟩ qn
    · refine wpAny_bind (wpAny_standAt (wpAny_bind (wpAny_mono (T.item (cmpCx X N scope (closOf X.env.cells scope.names []) P2.objs.size s2 H2 fp) rfl rfl rfl hcalm i [] s3 _ H3 (fun _ _ => False) I3 (stat fr3) st3 go) (fun r s4 ⟨u, hr, h4⟩ => ?_) fun _ _ z => z.elim)))
      subst hr
      refine wpAny_bind (wpAny_mono h4 (fun _ s5 ⟨x, H5, I5, r5, y5, st5, fr5⟩ => ?_) fun _ _ z => z.elim)
      have I5' := I5.pinned (stat fr5) (T.obj _ _ st5)
      refine wpAny_bind (wpAny_mono (hg _ _ _ _ _ _ s5 _ H5 x u _ I5' r5 (step x H5 y5)) (fun _ s6 ⟨σ6, H6, I6, q6⟩ => ?_) fun _ _ z => (show False from z).elim)
      have again : ∀ {σ7 : St} {H7 : Hp} {s7 : Shared}, Inv (cmpCx X N scope (closOf X.env.cells scope.names []) P2.objs.size s2 H2 fp) ([] ++ pinsAt fp s5.heap) σ7 H7 s7 → (∃ m', m' < n ∧ W (i + 1) m' H7) →
          ∃ m', m' < n ∧ ∃ i H', Inv (cmpCx X N scope (closOf X.env.cells scope.names []) P2.objs.size s2 H2 fp) [] (innerSt sl σ) H' s7 ∧ tn i s7.heap ∧ (∀ b ∈ fp, H' b = none) ∧ W i m' H' := fun {σ7 H7 s7} I7 ⟨m', hm, w7⟩ => by
        refine ⟨m', hm, i + 1, H7, S.again I2 f2 I7.unpinned, T.keep _ _ _ st5 fun b hb o e => (I7.pin (b, o) (List.mem_append_right _ (List.mem_append_right _ (mem_pinsAt hb e)))).1, fun b hb => ?_, w7⟩
        obtain ⟨o, e, d⟩ := T.obj _ _ st5 b hb
        exact (I7.pin (b, o) (List.mem_append_right _ (List.mem_append_right _ (mem_pinsAt hb e)))).2.1
      refine wpAny_bind (wpAny_mono (hif _ _ _ _ _ _ s6 σ6 H6 _ I6 q6) (fun ok s7 ⟨H7, I7, q7⟩ => ?_) fun _ _ z => (show False from z).elim)
      cases ok with
      | false =>
        exact wpAny_pure ⟨rfl, again I7 (by simpa using q7)⟩
      | true =>
        rw [if_pos rfl] at q7
        refine wpAny_bind (wpAny_bind (wpAny_mono ((he _ _ _ _ _).out _ s7 σ6 H7 _ I7 q7) (fun y s8 ⟨yv, H8, I8, r8, ys, hys, hlen, w8⟩ => ?_) fun _ _ z => (show False from z).elim))
        refine wpAny_bind (wpAny_mono (mt_append (X := cmpCx X N scope (closOf X.env.cells scope.names []) P2.objs.size s2 H2 fp) _ s8 σ6 H8 (.ref s2.heap.objs.size) [yv] (.ref s2.heap.objs.size) [y]
          (fun v H9 => v = .non ∧ ∃ m', m' < n ∧ W (i + 1) m' H9) I8 rfl (.cons r8 .nil) ⟨_, ys, yv, rfl, rfl, hys, hlen, rfl, w8⟩) (fun r s9 ⟨v9, H9, I9, r9, e9, w9⟩ => ?_) fun _ _ z => (show False from z).elim)
        exact wpAny_pure (wpAny_pure ⟨rfl, again I9 w9⟩)
  exact codeAny_compStart_list (loop _) (T.self _ 0 _ _ _ stK (loop _))
theorem pe_comp {elt tg iter : Expr} {ifs : List Expr} {pos : Pos} {wi : TI} {g : TG} {tif : TT} {te : TE} (S : CompScope X N sl scope) (hcalm : X.calm = true) (hi : PI X tg iter wi)
    (hg : ∀ cl C s2 H2 fp, PG (cmpCx X N scope cl C s2 H2 fp) tg g) (hif : ∀ cl C s2 H2 fp, PIf (cmpCx X N scope cl C s2 H2 fp) ifs tif) (he : ∀ cl C s2 H2 fp, PE (cmpCx X N scope cl C s2 H2 fp) elt te)
    (hs : ∀ x, foldedSetIterable iter X.env x = pure x := by intro _; rfl) :
    PE X (.ListComp elt [⟨tg, iter, ifs, 0⟩] scope pos) (tComp wi sl g tif te) := by
  refine ⟨?_⟩
  intro pins s σ H Q I h
  rw [eval_ListComp]
  refine comp_run S hcalm hi hg hif he hs I h fun D C H3 s4 fl I4 n1 n2 n3 n4 n5 n6 ⟨m, hn⟩ q => ?_
  exact ⟨m, hn, fun h' hsb => ⟨.ref D, H3, I4.turned (t' := s4.toks) (fun b o hb e => (hsb.2 b hb).trans e) n1 n2 (.inr n4) n5 n6, rfl, q⟩⟩
theorem ps_setC {i : Nat} {x : Str} {elt tg iter : Expr} {ifs : List Expr} {cpos pos pos' : Pos} {wi : TI} {g : TG} {tif : TT} {te : TE} (hN : X.N.Nodup) (hi' : X.N[i]? = some x) (hx : Loc X.env.scope x) (S : CompScope X N sl scope) (hcalm : X.calm = true) (hi : PI X tg iter wi)
    (hg : ∀ cl C s2 H2 fp, PG (cmpCx X N scope cl C s2 H2 fp) tg g) (hif : ∀ cl C s2 H2 fp, PIf (cmpCx X N scope cl C s2 H2 fp) ifs tif) (he : ∀ cl C s2 H2 fp, PE (cmpCx X N scope cl C s2 H2 fp) elt te)
    (hsw : swapsWith (.ListComp elt [⟨tg, iter, ifs, 0⟩] scope cpos) (some (.Name x pos')) pos.line X.env = pure true := by rfl)
    (hs : ∀ x, foldedSetIterable iter X.env x = pure x := by intro _; rfl) (hf : X.fn x = true ∨ X.env.scope.names.lookup x = some .local := by first | exact .inl rfl | exact .inr rfl | assumption) :
    PS X (.Assign [.Name x pos'] (.ListComp elt [⟨tg, iter, ifs, 0⟩] scope cpos) pos) (tAsg (tComp wi sl g tif te) (gName i)) := by
  refine ⟨?_⟩
  intro pins s σ H D0 I h
  rw [exec_Assign_Name_used _ _ _ _ hsw]
  refine wpAny_bind (wpAny_standAt (wpAny_bind ?_))
  show wpAny _ X.A (do let _ ← comprehension (.ListComp elt [⟨tg, iter, ifs, 0⟩] scope cpos) scope X.env _ (newList []) false (eval iter X.env) (some (assign (.Name x pos') X.env))) _ _ s
  refine wpAny_bind (wpAny_mono (comp_run (QQ := fun _ s' => ∃ σ' H', Inv X pins σ' H' s' ∧ D0.nx σ' H') (use := some (assign (.Name x pos') X.env)) S hcalm hi hg hif he hs I h fun D C H3 s4 fl I4 n1 n2 n3 n4 n5 n6 hm q => ?_)
    (fun _ s' hq => wpAny_pure (wpAny_pure hq)) fun _ _ e => e)
  obtain ⟨m, hn⟩ := hm
  show wpAny _ X.A (assign (.Name x pos') X.env (.ref D)) _ _ _
  refine wpAny_assign_Name (store_ok2 I4 hN hi' hx (show RelV (.ref D) (.ref D) from rfl) (fun s5 I5 ⟨a, hsb, ha⟩ => ?_) hf)
  have hCa : C ≠ a := by
    rcases ha with rfl | ha
    · exact n2
    · exact fun z => n5 _ _ ha z.symm
  refine ⟨m, hn.sameBut hsb hCa, fun h' hsb' => ⟨_, H3, I5.turned (t' := s5.toks) (fun b o hb e => (hsb'.2 b hb).trans e) n1 n2 (.inr n4) n5 n6, q⟩⟩
end
end L2
set_option Elab.async false
set_option linter.all false
set_option maxRecDepth 100000
namespace L2
open PySem PySem.Spec PyProof.Rows
section
variable {X : Cx}
def CMulO (i j : Int) : Prop := IntMulOk i j
def CDivW (i j : Int) : Prop := j ≠ 0 ∧ j.natAbs < 2 ^ 9000
theorem CDivW.py {i j : Int} (h : CDivW i j) : Builtin.divisionGoesByPylong i j = false := by
  refine PyProof.noPylong_of_log2 ?_
  have h0 : j.natAbs ≠ 0 := fun z => h.1 (Int.natAbs_eq_zero.mp z)
  exact (Nat.log2_lt h0).mpr h.2
theorem op_mulO : OpR X (binaryOp .Mult) (rI CMulO fun i j => .int (i * j)) := opI fun _ _ _ _ _ _ _ hc q => mul_int q hc
theorem op_fdivW : OpR X (binaryOp .FloorDiv) (rI CDivW fun i j => .int (i.fdiv j)) := opI fun _ _ _ _ _ _ _ hc q => floordiv_int hc.1 q (.inl hc.py)
theorem mulOkL {a b : Int} (h1 : -(2 ^ 64) < a) (h2 : a < 2 ^ 64) : CMulO a b := .of_left (intBits_le_64 h1 h2)
theorem mulOkR {a b : Int} (h1 : -(2 ^ 64) < b) (h2 : b < 2 ^ 64) : CMulO a b := .of_right (intBits_le_64 h1 h2)
def isPlain : V → Bool
  | .non => true
  | .bl _ => true
  | _ => false
theorem RelV.beq_plain {x y : V} {v u : Value} (rx : RelV x v) (ry : RelV y u) (hy : isPlain y = true) : plainIs v u = true ∧ (v == u) = decide (x = y) := by
  cases y with
  | non =>
    cases ry
    cases x <;> first | (cases rx; exact ⟨rfl, rfl⟩) | (obtain ⟨t, rfl⟩ := rx; exact ⟨rfl, rfl⟩)
  | bl b =>
    cases ry
    cases x with
    | bl c =>
      cases rx
      refine ⟨rfl, ?_⟩
      cases b <;> cases c <;> rfl
    | non => cases rx; exact ⟨rfl, rfl⟩
    | ref a => cases rx; exact ⟨rfl, rfl⟩
    | ty n => cases rx; exact ⟨rfl, rfl⟩
    | int _ => obtain ⟨t, rfl⟩ := rx; exact ⟨rfl, rfl⟩
    | str _ => obtain ⟨t, rfl⟩ := rx; exact ⟨rfl, rfl⟩
    | byt _ => obtain ⟨t, rfl⟩ := rx; exact ⟨rfl, rfl⟩
    | flt _ => obtain ⟨t, rfl⟩ := rx; exact ⟨rfl, rfl⟩
  | _ => exact absurd (show false = true from hy) Bool.false_ne_true
theorem op_is : OpR X (compareOp .Is) (fun x y H Q => isPlain y = true ∧ Q (.bl (decide (x = y))) H) := by
  intro pins s σ H x y v u Q I rx ry h
  obtain ⟨hy, q⟩ := h
  obtain ⟨p, e⟩ := rx.beq_plain ry hy
  exact wpAny_is_plain p (fin_bl I q e.symm)
theorem op_isnot : OpR X (compareOp .IsNot) (fun x y H Q => isPlain y = true ∧ Q (.bl (!decide (x = y))) H) := by
  intro pins s σ H x y v u Q I rx ry h
  obtain ⟨hy, q⟩ := h
  obtain ⟨p, e⟩ := rx.beq_plain ry hy
  exact wpAny_isNot_plain p (fin_bl I q (congrArg not e.symm))
inductive TyB (K : PySem.W.Frag) (H : Hp) : V → String → Prop where
  | non : TyB K H .non "NoneType"
  | bl (x : Bool) : TyB K H (.bl x) "bool"
  | int (i : Int) : TyB K H (.int i) "int"
  | str (x : Str) : TyB K H (.str x) "str"
  | lst {a : Addr} {xs : List V} (e : SqL K H a xs) : TyB K H (.ref a) "list"
  | tup {a : Addr} {xs : List V} (e : SqT K H a xs) : TyB K H (.ref a) "tuple"
theorem call_isinst : CallR X (.builtin "isinstance") (fun xs H Q => ∃ x T T' b, xs = [x, .ty T'] ∧ TyB X.K H x T ∧ PySem.W.kitOne X.K (.type T) (.type T') = some b ∧ Q (.bl b) H) := by
  intro pins s σ H xs us Q I rv h
  obtain ⟨x, T, T', b, rfl, ty, e, q⟩ := h
  obtain ⟨u, w', rfl, rx, rt⟩ := vals2 rv
  obtain rfl : w' = Value.type T' := rt
  have fin : ∀ tk, EP X pins σ Q (.bool b) { s with toks := tk } := fun tk => ⟨.bl b, H, I.tok tk, rfl, q⟩
  cases ty with
  | non => cases (show u = Value.none from rx); exact PySem.W.kia_one PySem.W.kitx_none I.kIn True.intro e (fun z => nomatch z) fin
  | bl y => cases (show u = Value.bool y from rx); exact PySem.W.kia_one PySem.W.kitx_bool I.kIn True.intro e (fun z => nomatch z) fin
  | int i => obtain ⟨t, q'⟩ := (show ∃ t, u = Value.int i t from rx); cases q'; exact PySem.W.kia_one PySem.W.kitx_int I.kIn True.intro e (fun z => nomatch z) fin
  | str y => obtain ⟨t, q'⟩ := (show ∃ t, u = Value.str y t from rx); cases q'; exact PySem.W.kia_one PySem.W.kitx_str I.kIn True.intro e (fun z => nomatch z) fin
  | @lst a ys ea =>
    cases (show u = Value.ref a from rx)
    obtain ⟨its, _, ⟨o, n, h1, h2, _⟩, _⟩ := I.list ea
    exact PySem.W.kia_one PySem.W.kitx_list I.kIn ⟨o, h1, h2⟩ e (fun z => nomatch z) fin
  | @tup a ys ea =>
    cases (show u = Value.ref a from rx)
    obtain ⟨its, _, ⟨o, h1, h2, _⟩, _⟩ := I.tuple ea
    exact PySem.W.kia_one PySem.W.kitx_tuple I.kIn ⟨o, h1, h2⟩ e (fun z => nomatch z) fin
inductive Den (K : PySem.W.Frag) (H : Hp) : V → PyData → Prop where
  | non : Den K H .non .none
  | bl (b : Bool) : Den K H (.bl b) (.bool b)
  | int (i : Int) : Den K H (.int i) (.int i)
  | str (x : Str) : Den K H (.str x) (.str x)
  | lst {a : Addr} {xs : List V} {ds : List PyData} : SqL K H a xs → xs.length = ds.length → (∀ (i : Nat) x d, xs[i]? = some x → ds[i]? = some d → Den K H x d) → Den K H (.ref a) (.list ds)
  | tup {a : Addr} {xs : List V} {ds : List PyData} : SqT K H a xs → xs.length = ds.length → (∀ (i : Nat) x d, xs[i]? = some x → ds[i]? = some d → Den K H x d) → Den K H (.ref a) (.tuple ds)
theorem readsAll_of {h : Heap} : ∀ {us : List Value} {ds : List PyData}, us.length = ds.length → (∀ (i : Nat) u d, us[i]? = some u → ds[i]? = some d → ∃ as, Reads h u d as) → ∃ as, ReadsAll h us ds as
  | [], [], _, _ => ⟨[], .nil⟩
  | [], _ :: _, e, _ => by simp at e
  | _ :: _, [], e, _ => by simp at e
  | u :: us, d :: ds, e, f => by
    obtain ⟨as, r⟩ := f 0 u d rfl rfl
    obtain ⟨bs, rs⟩ := readsAll_of (us := us) (ds := ds) (by simpa using e) fun i u d h1 h2 => f (i + 1) u d (by simpa using h1) (by simpa using h2)
    exact ⟨as ++ bs, .cons r rs⟩
theorem Vals.back {xs : List V} {us : List Value} (r : Vals xs us) {i : Nat} {u : Value} (h : us[i]? = some u) : ∃ x, xs[i]? = some x ∧ RelV x u := by
  have hi : i < us.length := (List.getElem?_eq_some_iff.mp h).1
  have hx : i < xs.length := by rw [r.length]; exact hi
  obtain ⟨u', h', rel⟩ := r.get (List.getElem?_eq_getElem hx)
  rw [h] at h'; cases h'
  exact ⟨_, List.getElem?_eq_getElem hx, rel⟩
theorem Den.reads {pins : List (Addr × Obj)} {σ : St} {H : Hp} {s : Shared} (I : Inv X pins σ H s) {v : V} {d : PyData} (D : Den X.K H v d) : ∀ {u : Value}, RelV v u → ∃ as, Reads s.heap u d as := by
  induction D with
  | non => intro u r; cases (show u = Value.none from r); exact ⟨_, .none⟩
  | bl b => intro u r; cases (show u = Value.bool b from r); exact ⟨_, .bool b⟩
  | int i => intro u r; obtain ⟨t, rfl⟩ := (show ∃ t, u = Value.int i t from r); exact ⟨_, .int i t⟩
  | str x => intro u r; obtain ⟨t, rfl⟩ := (show ∃ t, u = Value.str x t from r); exact ⟨_, .str x t⟩
  | @lst a xs ds q hl _ ih =>
    intro u r
    cases (show u = Value.ref a from r)
    obtain ⟨its, rv, ⟨o, n, h1, h2, h3, h4⟩, _⟩ := I.list q
    obtain ⟨as, ra⟩ := readsAll_of (h := s.heap) (us := its) (ds := ds) (by rw [← rv.length]; exact hl) fun i u d e1 e2 => by
      obtain ⟨x, ex, rel⟩ := rv.back e1
      exact ih i x d ex e2 rel
    exact ⟨_, .list h1 h2 h4 (by simpa using ra)⟩
  | @tup a xs ds q hl _ ih =>
    intro u r
    cases (show u = Value.ref a from r)
    obtain ⟨its, rv, ⟨o, h1, h2, n, h4⟩, _⟩ := I.tuple q
    obtain ⟨as, ra⟩ := readsAll_of (h := s.heap) (us := its) (ds := ds) (by rw [← rv.length]; exact hl) fun i u d e1 e2 => by
      obtain ⟨x, ex, rel⟩ := rv.back e1
      exact ih i x d ex e2 rel
    exact ⟨_, .tuple h1 h2 h4 (by simpa using ra)⟩
def rEqD (K : PySem.W.Frag) (neg : Bool) : R2 := fun x y H Q => ∃ d e, Den K H x d ∧ Den K H y e ∧ SeqAt.shaped d = true ∧ SeqAt.shaped e = true ∧ Q (.bl (if neg then !PyData.eqv d e else PyData.eqv d e)) H
theorem op_eqD (hu : X.A.units + 64 < cLine) : OpR X (compareOp .Eq) (rEqD X.K false) := by
  intro pins s σ H x y v u Q I rx ry h
  obtain ⟨d, e, Dx, Dy, sd, se, q⟩ := h
  obtain ⟨as, ra⟩ := Dx.reads I rx
  obtain ⟨bs, rb⟩ := Dy.reads I ry
  exact SeqAt.compareEq_shaped ra rb sd se hu (fin_bl I q rfl)
theorem op_neD (hu : X.A.units + 64 < cLine) : OpR X (compareOp .NotEq) (rEqD X.K true) := by
  intro pins s σ H x y v u Q I rx ry h
  obtain ⟨d, e, Dx, Dy, sd, se, q⟩ := h
  obtain ⟨as, ra⟩ := Dx.reads I rx
  obtain ⟨bs, rb⟩ := Dy.reads I ry
  exact SeqAt.compareNe_shaped ra rb sd se hu (fin_bl I q rfl)
def scalD : V → Option PyData
  | .non => some .none
  | .bl b => some (.bool b)
  | .int i => some (.int i)
  | .str x => some (.str x)
  | _ => none
theorem den_scal {K : PySem.W.Frag} {H : Hp} {v : V} {d : PyData} (h : scalD v = some d) : Den K H v d := by
  cases v <;> first | (cases h; constructor) | cases h
def scalDs : List V → Option (List PyData)
  | [] => some []
  | v :: r => match scalD v, scalDs r with
    | some d, some ds => some (d :: ds)
    | _, _ => none
theorem scalDs_ok : ∀ {xs : List V} {ds : List PyData}, scalDs xs = some ds → xs.length = ds.length ∧ ∀ (i : Nat) x d, xs[i]? = some x → ds[i]? = some d → scalD x = some d
  | [], ds, h => by cases h; exact ⟨rfl, fun i x d h => by simp at h⟩
  | v :: r, ds, h => by
    unfold scalDs at h
    cases e1 : scalD v with
    | none => rw [e1] at h; cases h
    | some d0 =>
      cases e2 : scalDs r with
      | none => rw [e1, e2] at h; cases h
      | some dr =>
        rw [e1, e2] at h
        cases h
        obtain ⟨hl, hx⟩ := scalDs_ok e2
        refine ⟨by simp [hl], fun i x d h1 h2 => ?_⟩
        cases i with
        | zero => simp at h1 h2; rw [← h1, ← h2]; exact e1
        | succ i => exact hx i x d (by simpa using h1) (by simpa using h2)
theorem den_lst {K : PySem.W.Frag} {H : Hp} {a : Addr} {xs : List V} {ds : List PyData} (q : SqL K H a xs) (h : scalDs xs = some ds) : Den K H (.ref a) (.list ds) :=
  .lst q (scalDs_ok h).1 fun i x d h1 h2 => den_scal ((scalDs_ok h).2 i x d h1 h2)
theorem scalDs_ints : ∀ (ns : List Int), scalDs (ns.map V.int) = some (ns.map PyData.int)
  | [] => rfl
  | n :: ns => by
    show (match scalD (.int n), scalDs (ns.map V.int) with | some d, some ds => some (d :: ds) | _, _ => none) = _
    rw [scalDs_ints ns]
    rfl
theorem boolsAre_of : ∀ {bs : List Bool} {us : List Value}, Vals (bs.map V.bl) us → LSm.BoolsAre us bs
  | [], _, .nil => .nil
  | b :: bs, _, .cons r t => by
    cases (show _ = Value.bool b from r)
    exact .cons b (boolsAre_of t)
theorem call_all (hc : X.calm = true) : CallR X (.builtin "all") (fun xs H Q => ∃ p, ∃ bs : List Bool, xs = [.ref p] ∧ SqL X.K H p (bs.map V.bl) ∧ Q (.bl (bs.all id)) H) := by
  intro pins s σ H xs us Q I rv h
  obtain ⟨p, bs, rfl, hq, q⟩ := h
  obtain ⟨u, rfl, ru⟩ := vals1 rv
  cases (show u = Value.ref p from ru)
  obtain ⟨its, r, hp, _⟩ := I.list hq
  have hb := boolsAre_of r
  have hl := hp.isList
  have hlt : p < s.heap.objs.size := by obtain ⟨_, e, _⟩ := hl; exact Heap.lt_size e
  refine call_all_walk (wpAny_pyIter_list hl ?_)
  refine ⟨s.heap.objs.size, [s.heap.objs.size, p], [s.heap.objs.size], its.toArray.size, _, _, fun i => (bs[i]?).getD true, rfl, Walks.list (A := X.A.in1) (I.ok.hd hc) _ p (Nat.ne_of_lt hlt) its.toArray,
    ⟨⟨_, Heap.get?_push_size _ rfl, rfl, rfl⟩, hl.push _⟩, fun i v s' Q' E' hP hQ => ?_, fun h' tk hk => ?_⟩
  · obtain ⟨b, e, rfl⟩ := hb.get i v (by simpa using hP)
    simp only [e, Option.getD_some] at hQ
    exact wpAny_truthy_bool hQ
  · have e : ((List.range its.toArray.size).all fun i => (bs[i]?).getD true) = bs.all id := by
      rw [List.size_toArray, hb.length]; exact LSm.range_all bs
    rw [e]
    exact ⟨.bl _, H, I.kept (h' := h') (t' := tk) (LSm.kept_iter hk), rfl, q⟩
end
structure Src (K : PySem.W.Frag) (mg : Str → Option Value) (x : Str) (st : Stmt) (ps : List Str) : Prop where
  ex : ∃ f fd, Fun K x x st f fd ∧ Binds K fd ps [] ∧ mg x = some (.ref f)
structure Dfn (P : Program) (w : World) (K : PySem.W.Frag) (mg : Str → Option Value) (base : Heap) (k : Nat) (x : Str) (ps : List Str) (sp : Sp) : Prop where
  ex : ∃ f fd, FnOk P w K mg base CX0 k f fd ps sp ∧ Binds K fd ps [] ∧ PySem.W.keepIn K (.ref f) = true ∧ mg x = some (.ref f)
section
variable {P : Program} {w : World} {K : PySem.W.Frag} {mg : Str → Option Value} {base : Heap}
theorem Src.ok {x : Str} {st : Stmt} {N ps : List Str} {k : Nat} {sp : Sp} (F : Src K mg x st ps) (S : FnScope N ps (defScope st)) (len : ∀ vs H Q E, sp vs H Q E → vs.length = ps.length)
    (hbody : ∀ (f : Addr) (cdv : Value) (A : Around) (outer : List Env) (s : Shared) (H : Hp) (vs : List V) (Q : VK) (E : XK), Room k (A.deeper (envOfC x (defScope st) s.heap.objs.size f cdv)) → sp vs H Q E →
      ∃ t, PSs (cxOf CX0 P w K mg base N x (defScope st) f cdv A outer s H E).nox (defBody st) t ∧ t { nx := fun _ H' => Q .non H', rt := Q } (start N vs) H) : Dfn P w K mg base (k + 1) x ps sp := by
  obtain ⟨f, fd, F, B, M⟩ := F.ex
  exact ⟨f, fd, F.ok S len (hbody f), B, F.kp, M⟩
theorem src_mk {x : Str} {st : Stmt} {ps : List Str} {f : Addr} {oc : Value} {od an : Option Addr} {osl : Array (Option Value)} {kV doc pm cdv ct : Value} {h : Heap} (X : K.In h) (G : h.Ns mainGlobals mg)
    (a : PySem.W.nsIn K mainGlobals x = some (some (.ref f))) (l : K.lookup f = some ⟨oc, od, .func (PySem.W.fnOf x x (defArgs st) (defBody st) (defScope st) .none kV doc pm an cdv ct), osl⟩) (c : PySem.W.codeIn K cdv x = true) (k : PySem.W.keepIn K (.ref f) = true)
    (hb : ∀ (kV doc pm : Value) (an : Option Addr) (cdv ct : Value) (us : List Value), us.length = ps.length → bindArgs (PySem.W.fnOf x x (defArgs st) (defBody st) (defScope st) .none kV doc pm an cdv ct) ⟨us, []⟩ = pure (ps.zip us)) : Src K mg x st ps :=
  ⟨f, _, fun_mk l c k, (fun_mk l c k).binds hb, PySem.W.mg_of X G a⟩
end
theorem pe_def {X : Cx} {k n : Nat} {x : Str} {ps : List Str} {sp : Sp} {e : Expr} {es : List Expr} {t : TA} {p pos : Pos} (D : Dfn X.prog X.w X.K X.mg X.base k x ps sp) (hr : Room n X.A) (ha : PA X (e :: es) t) (hle : k ≤ n := by decide) (hg : Gl X x := by rfl)
    (hdb : (x == ("__debug__" : Str)) = false := by decide) (he : starEach (e :: es) X.env = (false, eval e X.env) :: starEach es X.env := by rfl) (hpl : (backTo pos (starEach es X.env)).any (·.1) = false := by rfl) :
    PE X (.Call (.Name x p) (e :: es) [] pos) (tCall sp [] E0 t) := by
  obtain ⟨f, fd, F, B, kp, M⟩ := D.ex
  exact pe_call F (hr.mono hle) hg M kp B .nil pass0 ha hdb he hpl
theorem same_new {H : Hp} {p : Addr} (h : H p = none) (o : HO) : Same H (upd H p o) := fun b u q => by rw [upd_ne (ne_of_none q h)]; exact q
end L2
namespace L2
open PySem PySem.Spec PyProof.Rows
def compOk (osc : Scope) (ON N : List Str) (sl : List (Option Nat)) (scope : Scope) : Bool :=
  decide (scope.kind = .function) && scope.names.all (fun y => decide (y.2 ≠ .cell)) && scope.names.all (fun y => decide (y.2 = .local → scope.names.lookup y.1 = some .local)) &&
  scope.names.all (fun y => decide (y.2 = .free → osc.names.lookup y.1 = some .cell ∨ osc.names.lookup y.1 = some .free)) && decide (sl.length = N.length) &&
  (List.range N.length).all fun j => match N[j]?, sl[j]? with
    | some x, some (some i) => decide (ON[i]? = some x ∧ scope.names.lookup x = some .free)
    | _, _ => true
theorem compScope_mk {X : Cx} {N : List Str} {sl : List (Option Nat)} {scope : Scope} (osc : Scope) (ON : List Str) (h1 : X.env.scope = osc) (h2 : X.N = ON) (hb : compOk osc ON N sl scope = true) : CompScope X N sl scope := by
  unfold compOk at hb
  simp only [Bool.and_eq_true, decide_eq_true_eq, List.all_eq_true] at hb
  obtain ⟨⟨⟨⟨⟨b1, b2⟩, b3⟩, b4⟩, b5⟩, b6⟩ := hb
  refine ⟨b1, b2, b3, fun y hy hf => ?_, b5, fun j i x e1 e2 => ?_⟩
  · have := b4 y hy hf
    show X.env.scope.names.lookup y.1 = _ ∨ X.env.scope.names.lookup y.1 = _
    rw [h1]
    exact this
  · have hj : j < N.length := (List.getElem?_eq_some_iff.mp e1).1
    have := b6 j (List.mem_range.mpr hj)
    rw [e1, e2] at this
    have q := of_decide_eq_true this
    rw [h2]
    exact q
theorem bt_len : bootBuiltins "len" = some (.builtin "len") := by decide +kernel
theorem bt_abs : bootBuiltins "abs" = some (.builtin "abs") := by decide +kernel
theorem bt_isinstance : bootBuiltins "isinstance" = some (.builtin "isinstance") := by decide +kernel
theorem bt_all : bootBuiltins "all" = some (.builtin "all") := by decide +kernel
theorem bt_min : bootBuiltins "min" = some (.builtin "min") := by decide +kernel
theorem bt_max : bootBuiltins "max" = some (.builtin "max") := by decide +kernel
theorem bt_int : bootBuiltins "int" = some (.type "int") := by decide +kernel
theorem bt_str : bootBuiltins "str" = some (.type "str") := by decide +kernel
end L2
namespace L2
open PySem PySem.Spec PyProof.Rows
def rIsi (K : PySem.W.Frag) : List V → Hp → VK → Prop := fun xs H Q => ∃ x T T' b, xs = [x, .ty T'] ∧ TyB K H x T ∧ PySem.W.kitOne K (.type T) (.type T') = some b ∧ Q (.bl b) H
def rAllB (K : PySem.W.Frag) : List V → Hp → VK → Prop := fun xs H Q => ∃ p, ∃ bs : List Bool, xs = [.ref p] ∧ SqL K H p (bs.map V.bl) ∧ Q (.bl (bs.all id)) H
def rLenS (K : PySem.W.Frag) : List V → Hp → VK → Prop := fun xs H Q => ∃ p ys, xs = [.ref p] ∧ (SqL K H p ys ∨ SqT K H p ys) ∧ Q (.int ys.length) H
section
variable {X : Cx} {K : PySem.W.Frag}
theorem callK_isinst (h : X.K = K) : CallR X (.builtin "isinstance") (rIsi K) := by subst h; exact call_isinst
theorem callK_all (h : X.K = K) (hc : X.calm = true) : CallR X (.builtin "all") (rAllB K) := by subst h; exact call_all hc
theorem callK_len (h : X.K = K) : CallR X (.builtin "len") (rLenS K) := by subst h; exact call_len_seq
theorem ixK_list (h : X.K = K) : IxR X (rIxL K) := by subst h; exact ix_list
theorem ixK_tup (h : X.K = K) : IxR X (rIxT K) := by subst h; exact ix_tup
theorem slK_list (h : X.K = K) : SlR X (rSlL K) := by subst h; exact sl_list
theorem opK_notIn (h : X.K = K) : OpR X (compareOp .NotIn) (rIn K true) := by subst h; exact op_notIn_seq
theorem opK_eqD (h : X.K = K) (hu : X.A.units + 64 < cLine) : OpR X (compareOp .Eq) (rEqD K false) := by subst h; exact op_eqD hu
theorem opK_neD (h : X.K = K) (hu : X.A.units + 64 < cLine) : OpR X (compareOp .NotEq) (rEqD K true) := by subst h; exact op_neD hu
theorem piK_list {tg l : Expr} {tl : TE} (h : X.K = K) (hl : PE X l tl) : PI X tg l (iList K tl) := by subst h; exact pi_list hl
theorem pgK_tup {es : List Expr} {k : Nat} {t : TGs} {n : Nat} {pos : Pos} (hK : X.K = K) (hc : X.calm = true) (h : PGs X es t)
    (hn : (assignEach es X.env).length = n := by rfl) (hst : (assignEach es X.env).findIdx? (·.1) = none := by rfl) : PG X (.Tuple es k pos) (gTup K n t) := by subst hK; exact pg_tup hc h hn hst
end
end L2
set_option Elab.async false
set_option linter.all false
set_option maxRecDepth 100000
namespace L2
open PySem PySem.Spec PyProof.Rows
def Bd (m : Nat) (x : Int) : Prop := x.natAbs < 2 ^ m
theorem Bd.mono {m n : Nat} {x : Int} (h : Bd m x) (hmn : m ≤ n) : Bd n x := Nat.lt_of_lt_of_le h (Nat.pow_le_pow_right (by decide) hmn)
theorem Bd.dv {m : Nat} {i j : Int} (h : Bd m j) (h0 : j ≠ 0) (hm : m ≤ 9000 := by decide) : CDivW i j := ⟨h0, h.mono hm⟩
theorem Bd.small {x : Int} (h1 : -(2 ^ 64) < x) (h2 : x < 2 ^ 64) : Bd 64 x := by unfold Bd; omega
theorem atI_get_nat {α : Type} {xs : List α} {i : Int} (h0 : 0 ≤ i) (h1 : i.toNat < xs.length) : atI xs i = some xs[i.toNat] := by
  have e : i = ((i.toNat : Nat) : Int) := by omega
  have q : atI xs ((i.toNat : Nat) : Int) = some xs[i.toNat] := atI_nat (List.getElem?_eq_getElem h1)
  rw [← e] at q
  exact q
theorem atI_mem {α : Type} {xs : List α} {i : Int} (h0 : 0 ≤ i) (h1 : i < xs.length) : ∃ v, atI xs i = some v ∧ v ∈ xs := by
  have hi : i.toNat < xs.length := by omega
  exact ⟨xs[i.toNat], atI_get_nat h0 hi, List.getElem_mem hi⟩
theorem fmod_range (x : Int) {y : Int} (hy : 0 < y) : 0 ≤ x.fmod y ∧ x.fmod y < y := ⟨Int.fmod_nonneg_of_pos x hy, Int.fmod_lt_of_pos x hy⟩
theorem len_ok {α : Type} {xs : List α} (h : decide (xs.length ≤ 1000) = true) : xs.length ≤ sizeLine := Nat.le_trans (of_decide_eq_true h) (by decide)
structure FrSpec (t b t' b' d : Int) : Prop where
  d0 : d ≠ 0
  ht : t = d * t'
  hb : b = d * b'
  pos : 0 < b'
  cop : Int.gcd t' b' = 1
end L2
namespace L2
open PySem PySem.Spec PyProof.Rows
theorem pick {xs : List V} {i : Int} {P : Int → Prop} (h0 : 0 ≤ i) (h1 : i < xs.length) (hP : ∀ v ∈ xs, ∃ n, v = .int n ∧ P n) : ∃ n, atI xs i = some (.int n) ∧ P n := by
  obtain ⟨v, e, hm⟩ := atI_mem h0 h1
  obtain ⟨n, rfl, p⟩ := hP v hm
  exact ⟨n, e, p⟩
theorem iteN {c A B : Prop} [Decidable c] (h : ¬ c) (hB : B) : if decide c = true then A else B := by
  rw [decide_eq_false h]
  exact iteF hB
theorem iteY {c A B : Prop} [Decidable c] (h : c) (hA : A) : if decide c = true then A else B := by
  rw [decide_eq_true h]
  exact iteT hA
def CW (n : Nat) (D : Addr) (Pv : Nat → List V → Hp → Prop) : Nat → Nat → Hp → Prop := fun i m H2 => m = n - i ∧ i ≤ n ∧ ∃ ys, H2 D = some (.lst ys) ∧ ys.length ≤ i ∧ Pv i ys H2
theorem CW.emit {n : Nat} {D : Addr} {Pv : Nat → List V → Hp → Prop} {i m : Nat} {ys : List V} {y : V} {H5 : Hp} (hm : m = n - i) (hi : i < n) (hn : n ≤ sizeLine) (hy : H5 D = some (.lst ys)) (hl : ys.length ≤ i)
    (p : Pv (i + 1) (ys ++ [y]) (upd H5 D (.lst (ys ++ [y])))) : ∃ ys, H5 D = some (.lst ys) ∧ ys.length < sizeLine ∧ ∃ m', m' < m ∧ CW n D Pv (i + 1) m' (upd H5 D (.lst (ys ++ [y]))) :=
  ⟨ys, hy, by omega, n - (i + 1), by omega, rfl, hi, ys ++ [y], upd_same, by simp; omega, p⟩
theorem CW.skip {n : Nat} {D : Addr} {Pv : Nat → List V → Hp → Prop} {i m : Nat} {ys : List V} {H4 : Hp} (hm : m = n - i) (hi : i < n) (hy : H4 D = some (.lst ys)) (hl : ys.length ≤ i) (p : Pv (i + 1) ys H4) :
    ∃ m', m' < m ∧ CW n D Pv (i + 1) m' H4 := ⟨n - (i + 1), by omega, rfl, hi, ys, hy, by omega, p⟩
theorem comp_list {K : PySem.W.Frag} {a D : Addr} {xs : List V} {st : St} {g : TG} {tif : TT} {te : TE} {H1 : Hp} {Q : VK} (Pv : Nat → List V → Hp → Prop) (h0 : Pv 0 [] (upd H1 D (.lst [])))
    (hl : ∀ i ys H2, H2 D = some (.lst ys) → Pv i ys H2 → SqL K H2 a xs)
    (hs : ∀ i m x ys H2, m = xs.length - i → i < xs.length → xs[i]? = some x → H2 D = some (.lst ys) → ys.length ≤ i → Pv i ys H2 → g x st H2 fun σ3 H3 => tif σ3 H3 fun b H4 =>
      if b = true then te σ3 H4 fun y H5 => ∃ ys, H5 D = some (.lst ys) ∧ ys.length < sizeLine ∧ ∃ m', m' < m ∧ CW xs.length D Pv (i + 1) m' (upd H5 D (.lst (ys ++ [y]))) else ∃ m', m' < m ∧ CW xs.length D Pv (i + 1) m' H4)
    (hd : ∀ ys H2, H2 D = some (.lst ys) → Pv xs.length ys H2 → Q (.ref D) H2) :
    compW (Itl K a) D st g tif te Q H1 := by
  refine ⟨CW xs.length D Pv, ⟨xs.length, by simp, Nat.zero_le _, [], upd_same, Nat.le_refl _, h0⟩, ?_⟩
  rintro i m H2 ⟨hm, hi, ys, hy, hlen, p⟩
  have q := hl i ys H2 hy p
  by_cases hlt : i < xs.length
  · refine .inr ⟨⟨xs, xs[i], q, by simp [hlt]⟩, fun x H' y => ?_⟩
    obtain ⟨e, y⟩ := y
    subst e
    exact hs i m x ys _ hm hlt (y xs q) hy hlen p
  · have e : i = xs.length := by omega
    subst e
    exact .inl ⟨⟨xs, q, Nat.le_refl _⟩, hd ys H2 hy p⟩
theorem comp_range {lo : Int} {n : Nat} {D : Addr} {st : St} {g : TG} {tif : TT} {te : TE} {H1 : Hp} {Q : VK} (Pv : Nat → List V → Hp → Prop) (h0 : Pv 0 [] (upd H1 D (.lst [])))
    (hs : ∀ i m ys H2, m = n - i → i < n → H2 D = some (.lst ys) → ys.length ≤ i → Pv i ys H2 → g (.int (lo + i)) st H2 fun σ3 H3 => tif σ3 H3 fun b H4 =>
      if b = true then te σ3 H4 fun y H5 => ∃ ys, H5 D = some (.lst ys) ∧ ys.length < sizeLine ∧ ∃ m', m' < m ∧ CW n D Pv (i + 1) m' (upd H5 D (.lst (ys ++ [y]))) else ∃ m', m' < m ∧ CW n D Pv (i + 1) m' H4)
    (hd : ∀ ys H2, H2 D = some (.lst ys) → Pv n ys H2 → Q (.ref D) H2) :
    compW (Itr lo n) D st g tif te Q H1 := by
  refine ⟨CW n D Pv, ⟨n, by simp, Nat.zero_le _, [], upd_same, Nat.le_refl _, h0⟩, ?_⟩
  rintro i m H2 ⟨hm, hi, ys, hy, hlen, p⟩
  by_cases hlt : i < n
  · refine .inr ⟨hlt, fun x H' y => ?_⟩
    obtain ⟨e, y⟩ := y
    subst e y
    exact hs i m ys _ hm hlt hy hlen p
  · have e : i = n := by omega
    subst e
    exact .inl ⟨Nat.le_refl _, hd ys H2 hy p⟩
end L2
set_option Elab.async false
set_option linter.all false
set_option maxRecDepth 100000
namespace L2
open PySem PySem.Spec PyProof.Rows
structure IsVal (p n : Int) (v : Nat) : Prop where
  dv : p ^ v ∣ n
  no : ¬ p ^ (v + 1) ∣ n
end L2
namespace L2
theorem Same.free_upd {H H' : Hp} {D : PySem.Addr} (g : Same H H') (hD : H D = none) (o : HO) : Same H (upd H' D o) := fun b u q => by rw [upd_ne (ne_of_none q hD)]; exact g b u q
theorem iteS {c A B : Prop} [Decidable c] (h : ¬ c) (hA : A) : if (!decide c) = true then A else B := by
  rw [decide_eq_false h]
  exact iteT hA
end L2
namespace L2
open PySem PySem.Spec PyProof.Rows
end L2
set_option Elab.async false
set_option linter.all false
set_option maxRecDepth 100000
namespace L2
open PySem PySem.Spec PyProof.Rows
inductive Fl : Nat → PyData → Prop where
  | non {n : Nat} : Fl n .none
  | int {n : Nat} (i : Int) : Fl n (.int i)
  | lst {n : Nat} {ds : List PyData} : (∀ d ∈ ds, Fl n d) → Fl (n + 1) (.list ds)
  | tup {n : Nat} {ds : List PyData} : (∀ d ∈ ds, Fl n d) → Fl (n + 1) (.tuple ds)
theorem canLayAll_of : ∀ {ds : List PyData}, (∀ d ∈ ds, PyData.canLay0 d = true) → PyData.canLayAll0 ds = true
  | [], _ => by simp [PyData.canLayAll0]
  | d :: ds, h => by
    simp only [PyData.canLayAll0, Bool.and_eq_true]
    exact ⟨h d List.mem_cons_self, canLayAll_of fun e he => h e (List.mem_cons_of_mem _ he)⟩
theorem depthAll_of {n : Nat} : ∀ {ds : List PyData}, (∀ d ∈ ds, PyData.depth d ≤ n) → PyData.depthAll ds ≤ n
  | [], _ => by simp [PyData.depthAll]
  | d :: ds, h => by
    simp only [PyData.depthAll]
    exact Nat.max_le.mpr ⟨h d List.mem_cons_self, depthAll_of fun e he => h e (List.mem_cons_of_mem _ he)⟩
theorem Fl.both {n : Nat} {d : PyData} (h : Fl n d) : PyData.canLay0 d = true ∧ PyData.depth d ≤ n := by
  induction h with
  | non => exact ⟨by simp [PyData.canLay0], by simp [PyData.depth]⟩
  | int i => exact ⟨by simp [PyData.canLay0], by simp [PyData.depth]⟩
  | lst _ ih => exact ⟨by simp only [PyData.canLay0]; exact canLayAll_of fun d hd => (ih d hd).1, by simp only [PyData.depth]; exact Nat.succ_le_succ (depthAll_of fun d hd => (ih d hd).2)⟩
  | tup _ ih => exact ⟨by simp only [PyData.canLay0]; exact canLayAll_of fun d hd => (ih d hd).1, by simp only [PyData.depth]; exact Nat.succ_le_succ (depthAll_of fun d hd => (ih d hd).2)⟩
theorem Fl.shaped {n : Nat} {d : PyData} (h : Fl n d) (hn : n ≤ 64) : SeqAt.shaped d = true := by
  unfold SeqAt.shaped
  rw [Bool.and_eq_true]
  exact ⟨h.both.1, decide_eq_true (Nat.le_trans h.both.2 hn)⟩
theorem Fl.self {n : Nat} {d : PyData} (h : Fl n d) : PyData.eqv d d = true := SeqAt.eqv_refl d h.both.1
mutual
theorem eqv_eq : ∀ {n m : Nat} {d e : PyData}, Fl n d → Fl m e → PyData.eqv d e = true → d = e
  | _, _, _, _, .non, .non, _ => rfl
  | _, _, _, _, .non, .int _, h => by simp [PyData.eqv] at h
  | _, _, _, _, .non, .lst _, h => by simp [PyData.eqv] at h
  | _, _, _, _, .non, .tup _, h => by simp [PyData.eqv] at h
  | _, _, _, _, .int _, .non, h => by simp [PyData.eqv] at h
  | _, _, _, _, .int i, .int j, h => by
    simp only [PyData.eqv, beq_iff_eq] at h
    rw [h]
  | _, _, _, _, .int _, .lst _, h => by simp [PyData.eqv] at h
  | _, _, _, _, .int _, .tup _, h => by simp [PyData.eqv] at h
  | _, _, _, _, .lst _, .non, h => by simp [PyData.eqv] at h
  | _, _, _, _, .lst _, .int _, h => by simp [PyData.eqv] at h
  | _, _, .list ds, .list es, .lst a, .lst b, h => by
    simp only [PyData.eqv] at h
    rw [eqvAll_eq a b h]
  | _, _, _, _, .lst _, .tup _, h => by simp [PyData.eqv] at h
  | _, _, _, _, .tup _, .non, h => by simp [PyData.eqv] at h
  | _, _, _, _, .tup _, .int _, h => by simp [PyData.eqv] at h
  | _, _, _, _, .tup _, .lst _, h => by simp [PyData.eqv] at h
  | _, _, .tuple ds, .tuple es, .tup a, .tup b, h => by
    simp only [PyData.eqv] at h
    rw [eqvAll_eq a b h]
theorem eqvAll_eq : ∀ {n m : Nat} {ds es : List PyData}, (∀ d ∈ ds, Fl n d) → (∀ d ∈ es, Fl m d) → PyData.eqvAll ds es = true → ds = es
  | _, _, [], [], _, _, _ => rfl
  | _, _, [], _ :: _, _, _, h => by simp [PyData.eqvAll] at h
  | _, _, _ :: _, [], _, _, h => by simp [PyData.eqvAll] at h
  | _, _, d :: ds, e :: es, a, b, h => by
    simp only [PyData.eqvAll, Bool.and_eq_true] at h
    rw [eqv_eq (a d List.mem_cons_self) (b e List.mem_cons_self) h.1, eqvAll_eq (fun x hx => a x (List.mem_cons_of_mem _ hx)) (fun x hx => b x (List.mem_cons_of_mem _ hx)) h.2]
end
noncomputable instance : DecidableEq PyData := fun a b => Classical.propDecidable _
theorem eqv_dec {n m : Nat} {d e : PyData} (a : Fl n d) (b : Fl m e) : PyData.eqv d e = decide (d = e) := by
  cases h : PyData.eqv d e with
  | true => exact (decide_eq_true (eqv_eq a b h)).symm
  | false =>
    refine (decide_eq_false fun z => ?_).symm
    subst z
    rw [a.self] at h
    cases h
abbrev dI (ns : List Int) : PyData := .list (ns.map .int)
theorem fl_ints (ns : List Int) : Fl 1 (dI ns) := .lst fun d hd => by
  obtain ⟨i, _, rfl⟩ := List.mem_map.mp hd
  exact .int i
theorem dI_inj {a b : List Int} (h : dI a = dI b) : a = b := by
  have h' : a.map PyData.int = b.map PyData.int := PyData.list.inj h
  induction a generalizing b with
  | nil =>
    cases b with
    | nil => rfl
    | cons _ _ => simp at h'
  | cons x a ih =>
    cases b with
    | nil => simp at h'
    | cons y b =>
      simp only [List.map_cons, List.cons.injEq, PyData.int.injEq] at h'
      rw [h'.1, ih (congrArg PyData.list h'.2) h'.2]
theorem eqv_ints (a b : List Int) : PyData.eqv (dI a) (dI b) = decide (a = b) := by
  rw [eqv_dec (fl_ints a) (fl_ints b)]
  by_cases h : a = b
  · rw [decide_eq_true h, decide_eq_true (congrArg dI h)]
  · rw [decide_eq_false h, decide_eq_false fun z => h (dI_inj z)]
theorem eqL {K : PySem.W.Frag} {H : Hp} {a b : Addr} {xs ys : List Int} {Q : VK} (ha : SqL K H a (xs.map V.int)) (hb : SqL K H b (ys.map V.int)) (q : Q (.bl (decide (xs = ys))) H) : rEqD K false (.ref a) (.ref b) H Q :=
  ⟨dI xs, dI ys, den_lst ha (scalDs_ints _), den_lst hb (scalDs_ints _), (fl_ints _).shaped (by decide), (fl_ints _).shaped (by decide), by
    show Q (.bl (PyData.eqv (dI xs) (dI ys))) H
    rw [eqv_ints]; exact q⟩
theorem neL {K : PySem.W.Frag} {H : Hp} {a b : Addr} {xs ys : List Int} {Q : VK} (ha : SqL K H a (xs.map V.int)) (hb : SqL K H b (ys.map V.int)) (q : Q (.bl (!decide (xs = ys))) H) : rEqD K true (.ref a) (.ref b) H Q :=
  ⟨dI xs, dI ys, den_lst ha (scalDs_ints _), den_lst hb (scalDs_ints _), (fl_ints _).shaped (by decide), (fl_ints _).shaped (by decide), by
    show Q (.bl (!PyData.eqv (dI xs) (dI ys))) H
    rw [eqv_ints]; exact q⟩
theorem neSame {K : PySem.W.Frag} {H : Hp} {x y : V} {d : PyData} {n : Nat} {Q : VK} (ha : Den K H x d) (hb : Den K H y d) (f : Fl n d) (hn : n ≤ 64) (q : Q (.bl false) H) : rEqD K true x y H Q :=
  ⟨d, d, ha, hb, f.shaped hn, f.shaped hn, by show Q (.bl (!PyData.eqv d d)) H; rw [f.self]; exact q⟩
end L2
set_option Elab.async false
set_option linter.all false
set_option maxRecDepth 100000
namespace L2
open PySem PySem.Spec PySem.W PyProof.Rows
section
variable {X : Cx}
def sNo : TS := fun _ _ _ => False
theorem ps_no {st : Stmt} : PS X st sNo := ⟨fun _ _ _ _ _ _ h => h.elim⟩
theorem call_intT : CallR X (.type "int") (fun xs H Q => ∃ x n, xs = [.str x] ∧ PySem.intText? x = some n ∧ x.length ≤ 640 ∧ Q (.int n) H) := by
  intro pins s σ H xs us Q I r h
  obtain ⟨x, n, rfl, hn, hl, q⟩ := h
  obtain ⟨u, rfl, rx⟩ := vals1 r
  obtain ⟨t, rfl⟩ := rx
  exact KIN.call_text hn hl ⟨.int n, H, I.tok _, ⟨_, rfl⟩, q⟩
theorem call_lenT : CallR X (.builtin "len") (fun xs H Q => ∃ x, xs = [.str x] ∧ x.length ≤ sizeLine ∧ Q (.int (x.length : Nat)) H) := by
  intro pins s σ H xs us Q I r h
  obtain ⟨x, rfl, hl, q⟩ := h
  exact call_len pins s σ H _ us Q I r ⟨.str x, x.length, rfl, ⟨hl, rfl⟩, q⟩
theorem mt_starts : MtR X "str.startswith" (fun x xs H Q => ∃ a b, x = .str a ∧ xs = [.str b] ∧ Q (.bl (Txt.startswith a b)) H) := by
  intro pins s σ H x xs v us Q I rx rs h
  obtain ⟨a, b, rfl, rfl, q⟩ := h
  obtain ⟨t, rfl⟩ := rx
  obtain ⟨u, rfl, ru⟩ := vals1 rs
  obtain ⟨t', rfl⟩ := ru
  exact SC.startswith ⟨.bl (Txt.startswith a b), H, I, rfl, q⟩
theorem vals_strs : ∀ l : List (Str × Tok), Vals ((l.map (·.1)).map V.str) (strValues l)
  | [] => .nil
  | (x, t) :: l => .cons ⟨t, rfl⟩ (vals_strs l)
theorem split_raw {prog : Program} {w : World} {A : Around} {E : Value → Shared → Prop} {s : Shared} {x y : Str} {t u : Tok} {Q : Value → Shared → Prop} (hy : (y.length == 0) = false)
    (hq : ∀ (l : List (Str × Tok)) (k : Nat), l.map (·.1) = Txt.split x y → Q (.ref s.heap.objs.size) { s with toks := k, heap := s.heap.push { cls := .type "list", data := .seq (strValues l).toArray } })
    (hsz : x.length ≤ sizeLine) (hsz2 : (Builtin.Str.partsBetween x (Builtin.Str.occurrences x y 0 x.length (x.length + 1)) y.length).length ≤ sizeLine) :
    wpAny (model prog w) A (call (.builtin "str.split") [.str x t, .str y u]) Q E s := by
  cases h1 : (decide (x.length < y.length) || decide (Builtin.Str.strKind x < Builtin.Str.strKind y))
  · cases hf : (Builtin.Str.occurrences x y 0 x.length (x.length + 1)).isEmpty
    · refine call_meets F.slot_str_split (typeIs_str _ _ _) F.entry_str_split (F.args_str_split_2 _ _) (meets_str_split_sep x y t u h1 hy hf hsz hsz2) ?_
      show wants Q E _ { s with toks := _, heap := s.heap.push { cls := .type "list", data := .seq (strsFrom s.toks (Builtin.Str.partsBetween x (Builtin.Str.occurrences x y 0 x.length (x.length + 1)) y.length)).toArray } }
      rw [strsFrom_eq]
      exact hq (numbered s.toks _) _ ((numbered_texts _ _).trans ((if_neg (ne_true_of_eq_false h1)).trans (if_neg (ne_true_of_eq_false hf))).symm)
    · exact call_meets F.slot_str_split (typeIs_str _ _ _) F.entry_str_split (F.args_str_split_2 _ _) (meets_str_split_not_found x y t u h1 hy hf)
        (hq [(x, t)] _ ((if_neg (ne_true_of_eq_false h1)).trans (if_pos hf)).symm)
  · exact call_meets F.slot_str_split (typeIs_str _ _ _) F.entry_str_split (F.args_str_split_2 _ _) (meets_str_split_cannot_occur x y t u h1)
      (hq [(x, t)] _ (if_pos h1).symm)
theorem split_few (x y : Str) (hx : x.length ≤ 100000) : (Builtin.Str.partsBetween x (Builtin.Str.occurrences x y 0 x.length (x.length + 1)) y.length).length ≤ sizeLine := by
  rw [PySem.length_partsBetween, sizeLine_eq]
  have := StrLaws.occ_length_le x y 0 x.length (x.length + 1)
  omega
theorem split_len (x y : Str) (hx : x.length ≤ 100000) : (Txt.split x y).length ≤ sizeLine := by
  unfold Txt.split
  split
  · show 1 ≤ sizeLine; decide
  · split
    · show 1 ≤ sizeLine; decide
    · exact split_few x y hx
def rSplit : V → List V → Hp → VK → Prop := fun x xs H Q => ∃ a b, x = .str a ∧ xs = [.str b] ∧ (b.length == 0) = false ∧ a.length ≤ 100000 ∧ ∀ p, H p = none → Q (.ref p) (upd H p (.lst ((Txt.split a b).map V.str)))
theorem mt_split : MtR X "str.split" rSplit := by
  intro pins s σ H x xs v us Q I rx rs h
  obtain ⟨a, b, rfl, rfl, hb, ha, q⟩ := h
  obtain ⟨t, rfl⟩ := rx
  obtain ⟨u, rfl, ru⟩ := vals1 rs
  obtain ⟨t', rfl⟩ := ru
  refine split_raw hb (fun l k hl => ?_) (by rw [sizeLine_eq]; omega) (split_few a b ha)
  refine ⟨.ref s.heap.objs.size, _, I.laid (t' := k) (o := .lst ((Txt.split a b).map V.str)) (fun b ob q => Heap.get?_push_of_some _ q) (Nat.le_refl _) ?_, rfl, q _ (I.hok.fresh (Nat.le_refl _))⟩
  refine ⟨by rw [List.length_map]; exact split_len a b ha, strValues l, 0, ?_, Heap.get?_push_size _ rfl⟩
  rw [← hl]
  exact vals_strs l
def rPart : V → List V → Hp → VK → Prop := fun x xs H Q => ∃ a b, x = .str a ∧ xs = [.str b] ∧ (b.length == 0) = false ∧ a.length ≤ 100000 ∧ ∀ p, H p = none → Q (.ref p) (upd H p (.tup [.str (Txt.partition a b).1, .str (Txt.partition a b).2.1, .str (Txt.partition a b).2.2]))
theorem part_raw {prog : Program} {w : World} {A : Around} {E : Value → Shared → Prop} {s : Shared} {x y : Str} {t u : Tok} {Q : Value → Shared → Prop} (hy : (y.length == 0) = false)
    (h : ∀ ta tb tc k, Q (.ref s.heap.objs.size) { s with heap := s.heap.push { cls := .type "tuple", data := .seq [.str (Txt.partition x y).1 ta, .str (Txt.partition x y).2.1 tb, .str (Txt.partition x y).2.2 tc].toArray }, toks := k }) (hsz : x.length ≤ sizeLine) :
    wpAny (model prog w) A (call (.builtin "str.partition") [.str x t, .str y u]) Q E s := by
  refine call_meets F.slot_str_partition (typeIs_str _ _ _) F.entry_str_partition (F.args_str_partition_2 _ _) (meets_str_partition x y t u hy hsz) ?_
  have h' := h
  unfold Txt.partition at h'
  revert h'
  cases Builtin.Str.occurrences x y 0 x.length 1 with
  | nil => intro h'; exact h' _ _ _ _
  | cons i r => intro h'; exact h' _ _ _ _
theorem mt_part : MtR X "str.partition" rPart := by
  intro pins s σ H x xs v us Q I rx rs h
  obtain ⟨a, b, rfl, rfl, hb, ha, q⟩ := h
  obtain ⟨t, rfl⟩ := rx
  obtain ⟨u, rfl, ru⟩ := vals1 rs
  obtain ⟨t', rfl⟩ := ru
  refine part_raw hb (fun ta tb tc k => ?_) (by rw [sizeLine_eq]; omega)
  refine ⟨.ref s.heap.objs.size, _, I.laid (t' := k) (o := .tup [.str (Txt.partition a b).1, .str (Txt.partition a b).2.1, .str (Txt.partition a b).2.2]) (fun b ob q => Heap.get?_push_of_some _ q) (Nat.le_refl _) ?_, rfl, q _ (I.hok.fresh (Nat.le_refl _))⟩
  exact ⟨by show 3 ≤ sizeLine; decide, _, .cons ⟨ta, rfl⟩ (.cons ⟨tb, rfl⟩ (.cons ⟨tc, rfl⟩ .nil)), IsTup.new _ _⟩
def rJoin (K : PySem.W.Frag) : V → List V → Hp → VK → Prop := fun x xs H Q => ∃ a p ts, x = .str a ∧ xs = [.ref p] ∧ SqL K H p (ts.map V.str) ∧ JoinOk a ts = true ∧ Q (.str (Txt.join a ts)) H
theorem strs_of {ts : List Str} {us : List Value} (r : Vals (ts.map V.str) us) : ∃ l : List (Str × Tok), us = strValues l ∧ l.map (·.1) = ts := by
  induction ts generalizing us with
  | nil => cases r; exact ⟨[], rfl, rfl⟩
  | cons x ts ih =>
    cases r with
    | cons r1 r2 =>
      obtain ⟨t, rfl⟩ := r1
      obtain ⟨l, rfl, rfl⟩ := ih r2
      exact ⟨(x, t) :: l, rfl, rfl⟩
theorem mt_join : MtR X "str.join" (rJoin X.K) := by
  intro pins s σ H x xs v us Q I rx rs h
  obtain ⟨a, p, ts, rfl, rfl, hp, hj, q⟩ := h
  obtain ⟨t, rfl⟩ := rx
  obtain ⟨u, rfl, ru⟩ := vals1 rs
  cases ru
  obtain ⟨its, r', pl, hz⟩ := I.list hp
  obtain ⟨l, rfl, hl⟩ := strs_of r'
  exact SC.join pl.isList hl hj fun t' k => ⟨.str (Txt.join a ts), H, I.kept (t' := k) fun _ _ q => q, ⟨_, rfl⟩, q⟩
theorem mtK_join {K : PySem.W.Frag} (h : X.K = K) : MtR X "str.join" (rJoin K) := by subst h; exact mt_join
def tFmt (te : TE) : TE := fun σ H Q => te σ H fun x H1 => (∃ i, x = .int i ∧ i.natAbs.log2 < 1920 ∧ Q (.str (toString i)) H1) ∨ ∃ y, x = .str y ∧ y.length ≤ sizeLine ∧ Q (.str y) H1
theorem pe_fval {e : Expr} {te : TE} {pos : Pos} (h : PE X e te) : PE X (.FormattedValue e (-1) none pos) (tFmt te) := by
  refine ⟨?_⟩
  intro pins s σ H Q I hw
  refine wpAny_FormattedValue_plain (thn (h pins s σ H _ I hw) fun v s1 ⟨x, H1, I1, r1, q1⟩ => ?_)
  rcases q1 with ⟨i, rfl, hi, q⟩ | ⟨y, rfl, hy, q⟩
  · obtain ⟨t, rfl⟩ := r1
    exact wpAny_formatField_int hi ⟨.str (toString i), H1, (I1.kept (t' := s1.toks + 1 + 1) fun _ _ q => q), ⟨_, rfl⟩, q⟩
  · obtain ⟨t, rfl⟩ := r1
    exact wpAny_formatField_str ⟨.str y, H1, I1, ⟨_, rfl⟩, q⟩ ⟨.str y, H1, I1.tok _, ⟨_, rfl⟩, q⟩ hy
def tFs : List TE → Str → TE
  | [], acc => fun _ H Q => acc.length ≤ sizeLine ∧ Q (.str acc) H
  | t :: ts, acc => fun σ H Q => t σ H fun x H1 => ∃ y, x = .str y ∧ (acc ++ y).length ≤ sizeLine ∧ tFs ts (acc ++ y) σ H1 Q
inductive PEs (X : Cx) : List Expr → List TE → Prop
  | nil : PEs X [] []
  | cons {e : Expr} {es : List Expr} {t : TE} {ts : List TE} : PE X e t → PEs X es ts → PEs X (e :: es) (t :: ts)
theorem joins_of {pins : List (Addr × Obj)} {σ : St} {Q : VK} : ∀ {es : List Expr} {ts : List TE} (h : PEs X es ts) (acc : Str) (s : Shared) (H : Hp), Inv X pins σ H s → tFs ts acc σ H Q →
    Joins (model X.prog X.w) X.A X.xe (evalEach es X.env) acc (fun out s1 => out.length ≤ sizeLine ∧ EP X pins σ Q (.str out s1.toks) { s1 with toks := s1.toks + 1 }) s
  | _, _, .nil, acc, s, H, I, q => by
    rw [show evalEach [] X.env = [] from rfl]
    exact ⟨q.1, .str acc, H, I.tok _, ⟨_, rfl⟩, q.2⟩
  | _, _, .cons he hes, acc, s, H, I, q => by
    rename_i e es t ts
    rw [show evalEach (e :: es) X.env = eval e X.env :: evalEach es X.env from rfl]
    refine thn (he pins s σ H _ I q) fun v s1 ⟨x, H1, I1, r1, q1⟩ => ?_
    obtain ⟨y, rfl, hy, q2⟩ := q1
    obtain ⟨tk, rfl⟩ := r1
    exact ⟨y, tk, rfl, hy, joins_of hes (acc ++ y) s1 H1 I1 q2⟩
theorem pe_fstr {e1 e2 : Expr} {es : List Expr} {ts : List TE} {pos : Pos} (h : PEs X (e1 :: e2 :: es) ts) : PE X (.JoinedStr (e1 :: e2 :: es) pos) (tFs ts Str.empty) := by
  refine ⟨?_⟩
  intro pins s σ H Q I hw
  exact wpAny_JoinedStr (joins_of h Str.empty s H I hw)
def rSlS : V → Option Int → Option Int → Hp → VK → Prop := fun x lo hi H Q => ∃ a, x = .str a ∧ a.length ≤ 100000 ∧ Q (.str (Txt.slice a lo hi)) H
theorem sl_str : SlR X rSlS := by
  intro pins s σ H x v vl vu lo hi sl Q I rx hs pl pu h
  obtain ⟨a, rfl, ha, q⟩ := h
  obtain ⟨t, rfl⟩ := rx
  refine ⟨"str", _, F.slot_str_getitem.lookup, typeIs_str _ _ _, ?_⟩
  have hz : a.length ≤ sizeLine := by rw [sizeLine_eq]; omega
  have key : ∀ l u : Option (Int × Tok), l.map (·.1) = lo → u.map (·.1) = hi → s.heap.IsSlice sl l u none → wpAny (model X.prog X.w) X.A (getItem (.str a t) (.ref sl)) (EP X pins σ Q) X.xe s := by
    intro l u el eu hsl
    refine wpAny_getItem_str_slice hsl rfl ?_
    subst el eu
    unfold sliceMade
    have e : (((none : Option (Int × Tok)).map (·.1)).getD (1 : Int) == 1 && (slicePicked a l u none).length == a.length) = ((1 : Int) == 1 && (Builtin.Str.strSliceIndices (l.map (·.1)) (u.map (·.1)) 1 a.length).length == a.length) := rfl
    by_cases c : (((none : Option (Int × Tok)).map (·.1)).getD (1 : Int) == 1 && (slicePicked a l u none).length == a.length) = true
    · rw [if_pos c]
      have e2 : Txt.slice a (l.map (·.1)) (u.map (·.1)) = a := by unfold Txt.slice; rw [if_pos (by rw [← e]; exact c)]
      rw [e2] at q
      exact ⟨.str a, H, I, ⟨_, rfl⟩, q⟩
    · rw [if_neg c]
      have e2 : Txt.slice a (l.map (·.1)) (u.map (·.1)) = ⟨((slicePicked a l u none).filterMap (a.cps[·]?)).toArray⟩ := by unfold Txt.slice; rw [if_neg (by rw [← e]; exact c)]; rfl
      rw [e2] at q
      refine ⟨?_, .str _, H, I.tok _, ⟨_, rfl⟩, q⟩
      refine Nat.le_trans (m := a.length) ?_ hz
      show (((slicePicked a l u none).filterMap (a.cps[·]?)).toArray).size ≤ a.length
      rw [List.size_toArray]
      exact Nat.le_trans (List.length_filterMap_le _ _) (PySem.sliceIndices_le _ _ _)
  cases pl with
  | none =>
    cases pu with
    | none => exact key none none rfl rfl hs
    | int j u => exact key none (some (j, u)) rfl rfl hs
  | int i u =>
    cases pu with
    | none => exact key (some (i, u)) none rfl rfl hs
    | int j u' => exact key (some (i, u)) (some (j, u')) rfl rfl hs
def ItT (x : Str) : It := ⟨fun i _ => i < x.length, fun i H v H' => H' = H ∧ ∃ c, x.cps[i]? = some c ∧ v = .str ⟨#[c]⟩, fun i _ => x.length ≤ i⟩
theorem turn_str {P : Program} {w : World} {K : PySem.W.Frag} {tg : Expr} (x : Str) (t : Tok) (it : Addr) : Turn P w K tg (ItT x) [it] it (fun i h => h.IsStrIter it "str_ascii_iterator" x t i) where
  mem := by simp
  obj := fun i h st b hb => by
    have e : b = it := by simpa using hb
    subst e
    obtain ⟨o, e, c, d⟩ := st
    exact ⟨o, e, fun v z => by rw [d] at z; cases z⟩
  keep := fun i h h' st k => by
    obtain ⟨o, e, c, d⟩ := st
    exact ⟨o, k it (by simp) o e, c, d⟩
  item := by
    intro X hP hw hK hc i pins s σ H E I hf st hg
    subst hP hw hK
    have hi : i < x.cps.size := hg
    obtain ⟨f0, f1, f2, f3, f4, f5⟩ := hf it (by simp)
    refine wpAny_pyNext_ascii_item st (c := x.cps[i]) (by simp [hi]) fun h' st' sb => ?_
    have I1 : Inv X pins σ H { s with heap := h', toks := s.toks + 1 } := I.turned (t' := s.toks + 1) (fun b o hb e => (sb.2 b hb).trans e) f0 f1 f3 f4 f5
    obtain ⟨o, e, c, d⟩ := id st'
    exact ⟨_, rfl, go_of (s := { s with heap := h', toks := s.toks + 1 }) e c d (by decide) ⟨.str ⟨#[x.cps[i]]⟩, H, I1, ⟨_, rfl⟩, ⟨rfl, _, by simp [hi], rfl⟩, st', fun b hb => (hf b hb).1⟩⟩
  done := by
    intro X hP hw hK hc i pins s σ H E I hf st hg
    subst hP hw hK
    have hi : x.cps.size ≤ i := hg
    obtain ⟨f0, f1, f2, f3, f4, f5⟩ := hf it (by simp)
    exact wpAny_pyNext_ascii_end (I.ok.hd hc) st (by simp; omega) fun h' eb => ⟨rfl, I.turned (t' := s.toks) (fun b o hb e => eb b o hb e) f0 f1 f3 f4 f5⟩
  self := fun _ _ _ _ _ st h => wpAny_pyIter_striter_ascii st h
def iStr (tl : TE) : TI := fun σ H R => tl σ H fun x H1 => ∃ y, x = .str y ∧ y.cps.all (· < 128) = true ∧ R (ItT y) H1
theorem pi_str {tg l : Expr} {tl : TE} (hl : PE X l tl) : PI X tg l (iStr tl) := by
  intro pins s σ H R I h
  refine thn (hl pins s σ H _ I h) fun v s1 ⟨x, H1, I1, r1, q1⟩ => ?_
  obtain ⟨y, rfl, ha, q⟩ := q1
  obtain ⟨t, rfl⟩ := r1
  refine wpAny_pyIter_ascii ha ?_
  refine ⟨s1.heap.objs.size, [s1.heap.objs.size], _, _, H1, rfl, I1.kept (t' := s1.toks) fun b o e => Heap.get?_push_of_some _ e, turn_str y t _, ⟨_, Heap.get?_push_size _ rfl, rfl, rfl⟩, fun b hb => ?_, q⟩
  have e : b = s1.heap.objs.size := by simpa using hb
  subst e
  exact I1.fpOk (Nat.le_refl _) (I1.hok.fresh (Nat.le_refl _))
end
theorem comp_str {x : Str} {D : Addr} {st : St} {g : TG} {tif : TT} {te : TE} {H1 : Hp} {Q : VK} (Pv : Nat → List V → Hp → Prop) (h0 : Pv 0 [] (upd H1 D (.lst [])))
    (hs : ∀ i m c ys H2, m = x.length - i → i < x.length → x.cps[i]? = some c → H2 D = some (.lst ys) → ys.length ≤ i → Pv i ys H2 → g (.str ⟨#[c]⟩) st H2 fun σ3 H3 => tif σ3 H3 fun b H4 =>
      if b = true then te σ3 H4 fun y H5 => ∃ ys, H5 D = some (.lst ys) ∧ ys.length < sizeLine ∧ ∃ m', m' < m ∧ CW x.length D Pv (i + 1) m' (upd H5 D (.lst (ys ++ [y]))) else ∃ m', m' < m ∧ CW x.length D Pv (i + 1) m' H4)
    (hd : ∀ ys H2, H2 D = some (.lst ys) → Pv x.length ys H2 → Q (.ref D) H2) :
    compW (ItT x) D st g tif te Q H1 := by
  refine ⟨CW x.length D Pv, ⟨x.length, by simp, Nat.zero_le _, [], upd_same, Nat.le_refl _, h0⟩, ?_⟩
  rintro i m H2 ⟨hm, hi, ys, hy, hlen, p⟩
  by_cases hlt : i < x.length
  · refine .inr ⟨hlt, fun v H' y => ?_⟩
    obtain ⟨e, c, hc, rfl⟩ := y
    subst e
    exact hs i m c ys _ hm hlt hc hy hlen p
  · have e : i = x.length := by omega
    subst e
    exact .inl ⟨Nat.le_refl _, hd ys H2 hy p⟩
end L2
set_option Elab.async false
set_option linter.all false
set_option maxRecDepth 100000
namespace L2
open PySem PySem.Spec PySem.W PyProof.Rows
abbrev cs (x : Str) : List Nat := x.cps.toList
theorem cs_app (a b : Str) : cs (a ++ b) = cs a ++ cs b := KT.app_list a b
theorem cs_len (x : Str) : (cs x).length = x.length := Array.length_toList
theorem cs_ext {a b : Str} (h : cs a = cs b) : a = b := ext_toList h
def num (n : Nat) : Str := Str.ofString (toString (n : Int))
theorem num_cs (n : Nat) : cs (num n) = (Nat.toDigits 10 n).map Char.toNat := KIN.signs_num n
theorem num_fig (n : Nat) : ∀ c ∈ cs (num n), 48 ≤ c ∧ c ≤ 57 := by
  intro c hc
  rw [num_cs] at hc
  obtain ⟨ch, hch, e⟩ := List.mem_map.mp hc
  have r := digit_range (Nat.isDigit_of_mem_toDigits (by decide) (by decide) hch)
  rw [← e]
  exact r
theorem num_ne (n : Nat) : cs (num n) ≠ [] := by
  rw [num_cs]
  intro e
  have h := toDigits_len_ge 10 n
  rw [List.map_eq_nil_iff.mp e] at h
  exact absurd h (by decide)
theorem num_len {n : Nat} (h : n < 10 ^ 60) : (num n).length ≤ 60 := toString_length_le (by omega) (by decide) (by
  have : ((10 ^ 60 : Nat) : Int) = (10 : Int) ^ 60 := by norm_cast
  omega)
theorem num_len1 (n : Nat) : 1 ≤ (num n).length := by
  rw [← cs_len]
  exact List.length_pos_iff.mpr (num_ne n)
theorem fig_ascii {x : Str} (h : ∀ c ∈ cs x, c < 128) : x.cps.all (· < 128) = true := by
  rw [Array.all_eq_true_iff_forall_mem]
  intro c hc
  exact decide_eq_true (h c (by simpa using hc))
theorem tw_app {c : Nat} {a r : List Nat} (ha : c ∉ a) (hr : r = [] ∨ ∃ r', r = c :: r') : (a ++ r).takeWhile (· != c) = a := by
  induction a with
  | nil =>
    rcases hr with rfl | ⟨r', rfl⟩
    · rfl
    · simp
  | cons x a ih =>
    have hx : x ≠ c := fun z => ha (by rw [z]; exact List.mem_cons_self)
    have : (x != c) = true := by simpa using hx
    rw [List.cons_append, List.takeWhile_cons, if_pos this, ih fun z => ha (List.mem_cons_of_mem _ z)]
theorem head_eq {c : Nat} {a b r s : List Nat} (ha : c ∉ a) (hb : c ∉ b) (hr : r = [] ∨ ∃ r', r = c :: r') (hs : s = [] ∨ ∃ s', s = c :: s') (h : a ++ r = b ++ s) : a = b ∧ r = s := by
  have e : a = b := by rw [← tw_app ha hr, h, tw_app hb hs]
  subst e
  exact ⟨rfl, List.append_cancel_left h⟩
theorem join_cs (c : Nat) (w : Str) (r : List Str) : cs (Str.join ⟨#[c]⟩ (w :: r)) = cs w ++ (if r = [] then [] else c :: cs (Str.join ⟨#[c]⟩ r)) := by
  cases r with
  | nil => show cs w = _; rw [if_pos rfl, List.append_nil]
  | cons v r =>
    show cs (w ++ ⟨#[c]⟩ ++ Str.join ⟨#[c]⟩ (v :: r)) = _
    rw [if_neg (by simp), cs_app, cs_app, List.append_assoc]
    rfl
theorem join_inj (c : Nat) : ∀ ws vs : List Str, ws ≠ [] → vs ≠ [] → (∀ w ∈ ws, c ∉ cs w) → (∀ v ∈ vs, c ∉ cs v) → Str.join ⟨#[c]⟩ ws = Str.join ⟨#[c]⟩ vs → ws = vs
  | [], _, h, _, _, _, _ => absurd rfl h
  | _ :: _, [], _, h, _, _, _ => absurd rfl h
  | w :: ws, v :: vs, _, _, hw, hv, e => by
    have e1 := congrArg cs e
    rw [join_cs, join_cs] at e1
    have sh : ∀ r : List Str, (if r = [] then [] else c :: cs (Str.join ⟨#[c]⟩ r)) = [] ∨ ∃ r', (if r = [] then [] else c :: cs (Str.join ⟨#[c]⟩ r)) = c :: r' := fun r => by
      by_cases z : r = []
      · exact .inl (if_pos z)
      · exact .inr ⟨_, if_neg z⟩
    obtain ⟨e2, e3⟩ := head_eq (hw w List.mem_cons_self) (hv v List.mem_cons_self) (sh ws) (sh vs) e1
    rw [cs_ext e2]
    congr 1
    by_cases z : ws = []
    · rw [if_pos z] at e3
      by_cases y : vs = []
      · rw [z, y]
      · rw [if_neg y] at e3; cases e3
    · rw [if_neg z] at e3
      by_cases y : vs = []
      · rw [if_pos y] at e3; cases e3
      · rw [if_neg y] at e3
        exact join_inj c ws vs z y (fun w h => hw w (List.mem_cons_of_mem _ h)) (fun v h => hv v (List.mem_cons_of_mem _ h)) (cs_ext (List.cons.inj e3).2)
theorem split_ne (x y : Str) : Txt.split x y ≠ [] := by
  unfold Txt.split
  split
  · simp
  · split
    · simp
    · intro z
      have := congrArg List.length z
      rw [PySem.length_partsBetween] at this
      cases this
theorem split_join (c : Nat) {ws : List Str} (h : ws ≠ []) (hw : ∀ w ∈ ws, c ∉ cs w) : Txt.split (Str.join ⟨#[c]⟩ ws) ⟨#[c]⟩ = ws :=
  join_inj c _ _ (split_ne _ _) h (StrLaws.split_free _ c) hw (StrLaws.join_split _ _)
theorem join_snoc (sep : Str) : ∀ (ws : List Str) (v : Str), ws ≠ [] → Str.join sep (ws ++ [v]) = Str.join sep ws ++ sep ++ v
  | [], _, h => absurd rfl h
  | [w], v, _ => rfl
  | w :: u :: ws, v, _ => by
    show w ++ sep ++ Str.join sep (u :: ws ++ [v]) = w ++ sep ++ Str.join sep (u :: ws) ++ sep ++ v
    rw [join_snoc sep (u :: ws) v (by simp)]
    refine cs_ext ?_
    simp only [cs_app, List.append_assoc]
theorem at_one {x : Str} {c i : Nat} : StrLaws.At x ⟨#[c]⟩ x.length i ↔ (cs x)[i]? = some c := StrLaws.subAt_one x c i
theorem part_none {x : Str} {c : Nat} (h : c ∉ cs x) : Txt.partition x ⟨#[c]⟩ = (x, Str.empty, Str.empty) := by
  unfold Txt.partition
  rcases StrLaws.occ_head x ⟨#[c]⟩ 1 (Nat.le_refl 1) with ⟨e, _⟩ | ⟨i, r, e, ha, _⟩
  · rw [e]
  · exact absurd (List.mem_of_getElem? (at_one.mp ha)) h
theorem part_at {a b : Str} {c : Nat} (h : c ∉ cs a) : Txt.partition (a ++ ⟨#[c]⟩ ++ b) ⟨#[c]⟩ = (a, ⟨#[c]⟩, b) := by
  have hx : cs (a ++ ⟨#[c]⟩ ++ b) = cs a ++ c :: cs b := by rw [cs_app, cs_app, List.append_assoc]; rfl
  have hat : (cs (a ++ ⟨#[c]⟩ ++ b))[(cs a).length]? = some c := by rw [hx]; simp
  have hlow : ∀ k, k < (cs a).length → (cs (a ++ ⟨#[c]⟩ ++ b))[k]? ≠ some c := fun k hk z => by
    rw [hx, List.getElem?_append_left hk] at z
    exact h (List.mem_of_getElem? z)
  unfold Txt.partition
  rcases StrLaws.occ_head (a ++ ⟨#[c]⟩ ++ b) ⟨#[c]⟩ 1 (Nat.le_refl 1) with ⟨e, hn⟩ | ⟨i, r, e, ha, hf⟩
  · exact absurd (at_one.mpr hat) (hn _)
  · rw [e]
    have hi : i = (cs a).length := by
      rcases Nat.lt_trichotomy i (cs a).length with y | y | y
      · exact absurd (at_one.mp ha) (hlow i y)
      · exact y
      · exact absurd (at_one.mpr hat) (hf _ y)
    subst hi
    have e1 : Builtin.Str.strSub (a ++ ⟨#[c]⟩ ++ b) 0 (cs a).length = a := cs_ext (by refine (StrLaws.strSub_toList _ _ _).trans ?_; show List.take ((cs a).length - 0) (List.drop 0 (cs _)) = _; rw [hx, List.drop_zero, Nat.sub_zero, List.take_left])
    have e2 : Builtin.Str.strSub (a ++ ⟨#[c]⟩ ++ b) ((cs a).length + (⟨#[c]⟩ : Str).length) (a ++ ⟨#[c]⟩ ++ b).length = b := cs_ext (by
      refine (StrLaws.strSub_toList _ _ _).trans ?_
      show List.take _ (List.drop ((cs a).length + 1) (cs _)) = _
      have l1 : (a ++ ⟨#[c]⟩ ++ b).length = (cs a).length + 1 + (cs b).length := by rw [← cs_len, hx]; simp; omega
      rw [hx, l1, List.drop_append, List.drop_of_length_le (by omega), List.nil_append, show (cs a).length + 1 - (cs a).length = 1 by omega]
      show List.take _ (cs b) = cs b
      exact List.take_of_length_le (by show (cs b).length ≤ (cs a).length + 1 + (cs b).length - ((cs a).length + 1); omega))
    show (Builtin.Str.strSub _ 0 (cs a).length, _, Builtin.Str.strSub _ ((cs a).length + (⟨#[c]⟩ : Str).length) _) = _
    rw [e1, e2]
theorem slice_tail {c : Nat} {b : Str} : Txt.slice (⟨#[c]⟩ ++ b) (some 1) none = b := by
  have hl : (⟨#[c]⟩ ++ b : Str).length = 1 + b.length := by rw [Str.length_append]; rfl
  rw [slice_from_eq (b := ((⟨#[c]⟩ ++ b : Str).length : Int)) (by decide) (by omega) rfl]
  refine cs_ext ?_
  show (List.take _ (List.drop (1 : Int).toNat (cs (⟨#[c]⟩ ++ b)))) = cs b
  rw [cs_app]
  show List.take _ (cs b) = cs b
  exact List.take_of_length_le (by rw [hl, cs_len]; omega)
theorem slice_init {c : Nat} {a : Str} : Txt.slice (a ++ ⟨#[c]⟩) none (some (-1)) = a := by
  have hl : (a ++ ⟨#[c]⟩ : Str).length = a.length + 1 := by rw [Str.length_append]; rfl
  have e : Txt.slice (a ++ ⟨#[c]⟩) none (some (-1)) = Txt.slice (a ++ ⟨#[c]⟩) none (some (a.length : Int)) := by
    unfold Txt.slice
    have : Builtin.Str.strSliceIndices none (some (-1)) 1 (a ++ ⟨#[c]⟩ : Str).length = Builtin.Str.strSliceIndices none (some (a.length : Int)) 1 (a ++ ⟨#[c]⟩ : Str).length := by
      unfold Builtin.Str.strSliceIndices
      have h1 : ¬ ((a.length : Int) < 0) := by omega
      simp only [show ((-1 : Int) < 0) from by decide, h1, if_true, if_false, show (1 : Int) > 0 by decide]
      rw [show (-1 : Int) + ((a ++ ⟨#[c]⟩ : Str).length : Int) = (a.length : Int) by omega]
    rw [this]
  rw [e]
  have := beq_iff_eq.mp (slice_closes_toL (x := a ++ ⟨#[c]⟩) (j := (a.length : Int)) (by omega) (by omega))
  rw [this]
  refine cs_ext ?_
  show List.take _ (List.drop (0 : Int).toNat (cs (a ++ ⟨#[c]⟩))) = cs a
  rw [cs_app]
  show List.take ((a.length : Int) - 0).toNat (cs a ++ [c]) = cs a
  rw [show ((a.length : Int) - 0).toNat = (cs a).length by rw [cs_len]; omega, List.take_left]
theorem fig_in {c : Nat} (h : 48 ≤ c ∧ c ≤ 57) : (!(Builtin.Str.occurrences (Str.ofString "0123456789") ⟨#[c]⟩ 0 (Str.ofString "0123456789").length 1).isEmpty) = true := by
  rw [StrLaws.found_one]
  refine decide_eq_true ?_
  have : (Str.ofString "0123456789").cps.toList = [48, 49, 50, 51, 52, 53, 54, 55, 56, 57] := by decide +kernel
  rw [this]
  simp only [List.mem_cons, List.not_mem_nil, or_false]
  omega
theorem starts_one {c : Nat} (x : Str) : Txt.startswith x ⟨#[c]⟩ = decide ((cs x)[0]? = some c) := by
  unfold Txt.startswith
  rw [StrLaws.subAt_eq]
  show (decide (0 + 1 ≤ x.length) && (List.take 1 (List.drop 0 (cs x)) == [c])) = _
  rw [← cs_len, List.drop_zero]
  cases cs x with
  | nil => rfl
  | cons a r =>
    show (true && ([a] == [c])) = decide (some a = some c)
    by_cases h : a = c
    · rw [h]; simp
    · simp [h]
end L2
set_option Elab.async false
set_option linter.all false
set_option maxRecDepth 100000
namespace L2
open PySem PySem.Spec PyProof.Rows
section
variable {X : Cx} {pins : List (Addr × Obj)} {σ : St} {H : Hp} {s : Shared} {h' : Heap}
end
section
variable {X : Cx} {elts : List Expr} {k : Nat} {tpos : Pos}
end
section
variable {X : Cx} {tg : Expr}
end
def Itd (top : Int) (n : Nat) : It := ⟨fun i _ => i < n, fun i H x H' => H' = H ∧ x = .int (top - i), fun i _ => n ≤ i⟩
theorem turn_down {P : Program} {w : World} {K : PySem.W.Frag} {tg : Expr} (it : Addr) (top : Int) (n : Nat) : Turn P w K tg (Itd top n) [it] it (fun i h => IsRangeIter h it (top + (i : Nat) * (-1)) ((n : Int) - (i : Nat)) (-1)) where
  mem := by simp
  obj := fun i h st b hb => by
    have e : b = it := by simpa using hb
    subst e
    exact ⟨_, st, fun v z => by
      have z' : Data.fields _ = Data.cell v := z
      cases z'⟩
  keep := fun i h h' st k => k it (by simp) _ st
  item := by
    intro X hP hw hK hc i pins s σ H E I hf st hg
    subst hP hw hK
    obtain ⟨f0, f1, f2, f3, f4, f5⟩ := hf it (by simp)
    have W := Walks.range (prog := X.prog) (w := X.w) (I.ok.hd hc) it top (-1) n
    refine W.item i s _ _ hg st fun v h' tk hv st' kk => ?_
    obtain ⟨t, rfl⟩ := hv
    have I1 : Inv X pins σ H { s with heap := h', toks := tk } := I.turned (fun b o hb e => kk b o (by simpa using hb) e) f0 f1 f3 f4 f5
    refine ⟨_, rfl, go_of (s := { s with heap := h', toks := tk }) (n := "range_iterator") st' rfl rfl (by decide) ⟨.int (top - i), H, I1, ⟨t, ?_⟩, ⟨rfl, rfl⟩, st', fun b hb => (hf b hb).1⟩⟩
    have e : top + (i : Int) * (-1) = top - (i : Int) := by omega
    rw [e]
  done := by
    intro X hP hw hK hc i pins s σ H E I hf st hg
    subst hP hw hK
    obtain ⟨f0, f1, f2, f3, f4, f5⟩ := hf it (by simp)
    exact wpAny_pyNext_range_end (I.ok.hd hc) st (by have : n ≤ i := hg; omega) fun h' eb => ⟨rfl, I.turned (t' := s.toks) (fun b o hb e => eb b o hb e) f0 f1 f3 f4 f5⟩
  self := fun _ _ _ _ _ st h => wpAny_pyIter_rangeiter st h
theorem rsize0 (hi : Int) : Builtin.Range.rangeSize 0 hi 1 = if 0 < hi then hi else 0 := by
  rw [rangeSize_one]
  by_cases h : 0 < hi
  · rw [if_pos h, if_pos h]; omega
  · rw [if_neg h, if_neg h]
theorem sub_ri_reversed : isSubtype (.type "range_iterator") (.type "reversed") = pure false := by rw [isSubtype_type]; kernel_rfl
theorem range_rev_meets (r : Addr) (a b c : Int) (t u v : Tok) (hc0 : ¬ (!(Builtin.Range.rangeFitsLong a && Builtin.Range.rangeFitsLong b && Builtin.Range.rangeFitsLong c && Builtin.Range.rangeFitsLong (-c) && Builtin.Range.rangeFitsLong (a - c) && Builtin.Range.rangeFitsLong (Builtin.Range.rangeSize a b c))) = true) :
    Meets (Builtin.«range.__reversed__» ⟨[.ref r], []⟩) (fun _ R s => s.heap.get? r = some { cls := .type "range", dict := none, data := .fields #[.int a t, .int b u, .int c v], slots := #[] } ∧
      R (.ok (.ret (Value.ref s.heap.objs.size))) { s with heap := s.heap.push { cls := Value.type (if (Builtin.Range.rangeFitsLong a && Builtin.Range.rangeFitsLong b && Builtin.Range.rangeFitsLong c && Builtin.Range.rangeFitsLong (-c) && Builtin.Range.rangeFitsLong (a - c) && Builtin.Range.rangeFitsLong (Builtin.Range.rangeSize a b c)) = true then "range_iterator" else "longrange_iterator"), data := Data.fields #[rawInt (a + (Builtin.Range.rangeSize a b c - 1) * c), rawInt (Builtin.Range.rangeSize a b c), rawInt (-c)] }, toks := s.toks }) :=
  .of_wp fun prog w A R s h => by obtain ⟨hp, g, d, tk, os⟩ := s; obtain ⟨hl, h⟩ := h; wp_walk; exact ⟨_, rfl, h⟩
section
variable {prog : Program} {w : World} {A : Around} {E : Value → Shared → Prop} {s : Shared}
theorem fits62 {x : Int} (h1 : -(2 ^ 62) - 2 ≤ x) (h2 : x ≤ 2 ^ 62 + 2) : Builtin.Range.rangeFitsLong x = true := by
  unfold Builtin.Range.rangeFitsLong
  simp only [Bool.and_eq_true, decide_eq_true_eq]
  omega
theorem call_range_rev {r : Addr} {hi : Int} {t u v : Tok} {Q : Value → Shared → Prop} (hr : IsRange s.heap r 0 hi 1 t u v) (h3 : -(2 ^ 62) ≤ hi) (h4 : hi < 2 ^ 62)
    (h : Q (.ref s.heap.objs.size) { s with heap := s.heap.push { cls := .type "range_iterator", data := .fields #[rawInt (0 + ((if 0 < hi then hi else 0) - 1) * 1), rawInt (if 0 < hi then hi else 0), rawInt (-1)] } }) :
    wpAny (model prog w) A (call (.builtin "range.__reversed__") [.ref r]) Q E s := by
  have hs : (Builtin.Range.rangeFitsLong 0 && Builtin.Range.rangeFitsLong hi && Builtin.Range.rangeFitsLong 1 && Builtin.Range.rangeFitsLong (-1) && Builtin.Range.rangeFitsLong (0 - 1) && Builtin.Range.rangeFitsLong (Builtin.Range.rangeSize 0 hi 1)) = true := by
    rw [rsize0]
    simp only [Bool.and_eq_true]
    refine ⟨⟨⟨⟨⟨fits62 (by decide) (by decide), fits62 (by omega) (by omega)⟩, fits62 (by decide) (by decide)⟩, fits62 (by decide) (by decide)⟩, fits62 (by decide) (by decide)⟩, ?_⟩
    split
    · exact fits62 (by omega) (by omega)
    · exact fits62 (by decide) (by decide)
  refine call_meets PySem.F.slot_range_reversed ⟨_, hr, rfl⟩ PySem.F.entry_range_reversed (PySem.F.args_range_reversed_1 _) (range_rev_meets r 0 hi 1 t u v (by rw [hs]; simp)) ⟨hr, ?_⟩
  rw [hs, rsize0]
  simp only [if_true]
  exact h
theorem code_revrange_new {r : Addr} {hi : Int} {t u v : Tok} {Q1 : Value → Shared → Prop} (hr : IsRange s.heap r 0 hi 1 t u v) (h3 : -(2 ^ 62) ≤ hi) (h4 : hi < 2 ^ 62)
    (h : Q1 (.ref s.heap.objs.size) { s with heap := s.heap.push { cls := .type "range_iterator", data := .fields #[rawInt (0 + ((if 0 < hi then hi else 0) - 1) * 1), rawInt (if 0 < hi then hi else 0), rawInt (-1)] } }) :
    codeAny (model prog w) A (.call (.builtin "reversed.__new__") ⟨[.type "reversed", .ref r], []⟩) (wants Q1 E) s := by
  have hT : s.TypeIs (.ref r) "range" := ⟨_, hr, rfl⟩
  refine codeAny_of_tree ?_
  show wpAny _ A.in1 (do checkBuiltinCall "reversed.__new__" ⟨[.type "reversed", .ref r], []⟩; again (.builtin "reversed.__new__" ⟨[.type "reversed", .ref r], []⟩)) _ _ s
  refine wpAny_bind (wpAny_of_eq (PySem.F.newCall_reversed_1 _) (wpAny_pure ⟨plainId_quiet PySem.F.plain_reversed_new _, codeAny_builtin PySem.F.entry_reversed_new ?_⟩))
  rw [Around.under_plainId PySem.F.plain_reversed_new _]
  unfold Builtin.«reversed.__new__»
  refine wpAny_bind (wpAny_of_eq (newClass_reversed _) ?_)
  try dsimp only
  refine wpAny_bind (wpAny_of_eq (a := ()) (by first | rfl | kernel_rfl) ?_)
  refine wpAny_bind (wpAny_of_eq (a := ()) (by first | rfl | kernel_rfl) ?_)
  try dsimp only
  refine wpAny_bind (wpAny_specialOf hT PySem.F.slot_range_reversed.lookup ?_)
  try dsimp only
  refine wpAny_bind (wpAny_of_eq (PySem.F.slot_range_reversed.bind _) ?_)
  try dsimp only
  have nn : ¬ ((Value.builtin "range.__reversed__" == Value.none) = true) := Bool.false_ne_true
  rw [if_neg nn]
  refine wpAny_bind (wpAny_rule ?_)
  refine wpAny_bind (m := runValue (.call (.builtin "range.__reversed__") ⟨[.ref r], []⟩)) (show wpAny _ _ (call (.builtin "range.__reversed__") [.ref r]) _ _ _ from call_range_rev hr h3 h4 ?_)
  first
  | exact wpAny_pure h
  | exact wpAny_bind (wpAny_pure (wpAny_pure h))
theorem call_reversed_range {r : Addr} {hi : Int} {t u v : Tok} {Q : Value → Shared → Prop} (hr : IsRange s.heap r 0 hi 1 t u v) (h3 : -(2 ^ 62) ≤ hi) (h4 : hi < 2 ^ 62)
    (h : Q (.ref s.heap.objs.size) { s with heap := s.heap.push { cls := .type "range_iterator", data := .fields #[rawInt (0 + ((if 0 < hi then hi else 0) - 1) * 1), rawInt (if 0 < hi then hi else 0), rawInt (-1)] } }) :
    wpAny (model prog w) A (call (.type "reversed") [.ref r]) Q E s := by
  refine callType_other (U := "range_iterator") (Q₁ := fun obj s₁ => obj = .ref s.heap.objs.size ∧ s₁ = { s with heap := s.heap.push { cls := .type "range_iterator", data := .fields #[rawInt (0 + ((if 0 < hi then hi else 0) - 1) * 1), rawInt (if 0 < hi then hi else 0), rawInt (-1)] } })
    (by decide +kernel) PySem.F.create_reversed ⟨_, _, PySem.F.mro_reversed⟩ PySem.F.made_reversed sub_ri_reversed (PySem.F.typeCall_reversed_1 _) (code_revrange_new hr h3 h4 ⟨rfl, rfl⟩) ?_
  rintro obj s1 ⟨rfl, rfl⟩
  exact ⟨⟨_, Heap.get?_push_size _ rfl, rfl⟩, h⟩
end
section
variable {X : Cx} {tg : Expr}
def tRng (ta : TA) : TE := fun σ H Q => ta σ H fun vs H1 => ∃ j : Int, vs = [.int j] ∧ ∀ p, H1 p = none → Q (.ref p) (upd H1 p (.rng 0 j))
theorem pe_range {a : Expr} {ta : TA} {p pos : Pos} (hg : Gl X "range") (hm : X.mg "range" = none) (ha : PA X [a] ta) (hs : starEach [a] X.env = [(false, eval a X.env)] := by rfl) : PE X (.Call (.Name "range" p) [a] [] pos) (tRng ta) := by
  refine ⟨?_⟩
  intro pins s σ H Q I h
  refine Call_ (ld_blt I hg hm boot_range (PyProof.Rows.callWith_type1 (thn (ha pos pins s σ H _ I h) fun us s1 ⟨vs, H1, I1, r1, q1⟩ => ?_) hs rfl))
  obtain ⟨j, e, q⟩ := q1
  subst e
  obtain ⟨u, rfl, ru⟩ := vals1 r1
  obtain ⟨t, rfl⟩ := (show ∃ t, u = Value.int j t from ru)
  refine call_range_1 ?_
  exact ⟨.ref s1.heap.objs.size, _, I1.laid (o := .rng 0 j) (fun b o e => Heap.get?_push_of_some _ e) (Nat.le_refl _) ⟨_, _, _, Heap.get?_push_size _ rfl⟩, rfl, q _ I1.fresh⟩
def iRevR (ta : TA) : TI := fun σ H R => ta σ H fun vs H1 => ∃ a, ∃ n : Int, vs = [.ref a] ∧ H1 a = some (.rng 0 n) ∧ -(2 ^ 62) ≤ n ∧ n < 2 ^ 62 ∧ R (Itd (n - 1) n.toNat) H1
theorem pi_revR {l : Expr} {ta : TA} {p pos : Pos} (hg : Gl X "reversed") (hm : X.mg "reversed" = none) (ha : PA X [l] ta) (hs : starEach [l] X.env = [(false, eval l X.env)] := by rfl) :
    PI X tg (.Call (.Name "reversed" p) [l] [] pos) (iRevR ta) := by
  intro pins s σ H R I h
  refine Call_ (ld_blt I hg hm boot_reversed (PyProof.Rows.callWith_type1 (thn (ha pos pins s σ H _ I h) fun us s1 ⟨vs, H1, I1, r1, q1⟩ => ?_) hs rfl))
  obtain ⟨a, n, e, hq, h1, h2, q⟩ := q1
  subst e
  obtain ⟨u, rfl, ru⟩ := vals1 r1
  cases (show u = Value.ref a from ru)
  obtain ⟨t, u, v, hr⟩ := I1.hok a _ hq
  refine call_reversed_range hr h1 h2 ?_
  have en : ((n.toNat : Nat) : Int) = if 0 < n then n else 0 := by split <;> omega
  have hit : IsRangeIter (s1.heap.push { cls := .type "range_iterator", data := .fields #[rawInt (0 + ((if 0 < n then n else 0) - 1) * 1), rawInt (if 0 < n then n else 0), rawInt (-1)] }) s1.heap.objs.size (0 + ((if 0 < n then n else 0) - 1) * 1) (if 0 < n then n else 0) (-1) := Heap.get?_push_size _ rfl
  refine wpAny_pyIter_rangeiter (s := { s1 with heap := _ }) hit ?_
  by_cases hn : 0 < n
  · rw [if_pos hn] at en hit ⊢
    refine ⟨_, [s1.heap.objs.size], _, _, H1, rfl, I1.kept (t' := s1.toks) fun b o e => Heap.get?_push_of_some _ e, turn_down s1.heap.objs.size (n - 1) n.toNat, ?_, fun b hb => ?_, q⟩
    · have e1 : n - 1 + ((0 : Nat) : Int) * (-1) = 0 + (n - 1) * 1 := by omega
      have e2 : ((n.toNat : Nat) : Int) - ((0 : Nat) : Int) = n := by omega
      show IsRangeIter _ _ (n - 1 + ((0 : Nat) : Int) * (-1)) (((n.toNat : Nat) : Int) - ((0 : Nat) : Int)) (-1)
      rw [e1, e2]
      exact hit
    · have e : b = s1.heap.objs.size := by simpa using hb
      subst e
      exact I1.fpOk (Nat.le_refl _) (I1.hok.fresh (Nat.le_refl _))
  · rw [if_neg hn] at en hit ⊢
    have e0 : n.toNat = 0 := by omega
    rw [e0] at q
    have tr : Turn X.prog X.w X.K tg (Itd (n - 1) 0) [s1.heap.objs.size] s1.heap.objs.size (fun i h => IsRangeIter h s1.heap.objs.size (-1 + (i : Nat) * (-1)) (((0 : Nat) : Int) - (i : Nat)) (-1)) := by
      have T := turn_down (P := X.prog) (w := X.w) (K := X.K) (tg := tg) s1.heap.objs.size (-1) 0
      exact ⟨T.mem, T.obj, T.keep, fun X a b c d i pins s σ H E I hf st hg => absurd (show i < 0 from hg) (Nat.not_lt_zero _), T.done, T.self⟩
    refine ⟨_, [s1.heap.objs.size], _, _, H1, rfl, I1.kept (t' := s1.toks) fun b o e => Heap.get?_push_of_some _ e, tr, hit, fun b hb => ?_, q⟩
    have e : b = s1.heap.objs.size := by simpa using hb
    subst e
    exact I1.fpOk (Nat.le_refl _) (I1.hok.fresh (Nat.le_refl _))
end
theorem for_down {top : Int} {n : Nat} {g : TG} {tb : TS} {D : Ends} {σ : St} {H : Hp} (Pv : Nat → St → Hp → Prop) (h0 : Pv 0 σ H)
    (hs : ∀ i σ H, i < n → Pv i σ H → g (.int (top - i)) σ H fun σ2 H2 => tb { D with nx := Pv (i + 1), ct := Pv (i + 1), bk := D.nx } σ2 H2) (hd : ∀ σ H, Pv n σ H → D.nx σ H) :
    ∃ W : Nat → Nat → St → Hp → Prop, (∃ m, W 0 m σ H) ∧ ∀ i m σ H, W i m σ H →
      ((Itd top n).stop i H ∧ D.nx σ H) ∨ ((Itd top n).go i H ∧ ∃ N : St → Hp → Prop, (∀ σ' H', N σ' H' → ∃ m', m' < m ∧ W (i + 1) m' σ' H') ∧ ∀ x H', (Itd top n).yld i H x H' → g x σ H' fun σ2 H2 => tb { D with nx := N, ct := N, bk := D.nx } σ2 H2) := by
  refine ⟨fun i m σ H => m = n - i ∧ i ≤ n ∧ Pv i σ H, ⟨n, by simp, Nat.zero_le _, h0⟩, ?_⟩
  rintro i m σ H ⟨rfl, hi, p⟩
  by_cases hlt : i < n
  · refine .inr ⟨hlt, Pv (i + 1), fun σ' H' p' => ⟨n - (i + 1), by omega, rfl, hlt, p'⟩, fun x H' y => ?_⟩
    obtain ⟨e, y⟩ := y
    subst e y
    exact hs i σ _ hlt p
  · have e : i = n := by omega
    subst e
    exact .inl ⟨Nat.le_refl _, hd σ H p⟩
def WIn (tb : TS) (D : Ends) (Pv : St → Hp → Prop) (μ : St → Hp → Nat) (m : Nat) (σ : St) (H1 : Hp) : Prop :=
  ∃ N : St → Hp → Prop, (∀ σ' H', N σ' H' → ∃ m', m' < m ∧ (m' = μ σ' H' ∧ Pv σ' H')) ∧ tb { D with nx := N, ct := N, bk := D.nx } σ H1
theorem win {tb : TS} {D : Ends} {Pv : St → Hp → Prop} {μ : St → Hp → Nat} {m : Nat} {σ : St} {H1 : Hp} (h : tb { D with nx := fun σ' H' => Pv σ' H' ∧ μ σ' H' < m, ct := fun σ' H' => Pv σ' H' ∧ μ σ' H' < m, bk := D.nx } σ H1) : WIn tb D Pv μ m σ H1 :=
  ⟨_, fun σ' H' ⟨p, l⟩ => ⟨_, l, rfl, p⟩, h⟩
theorem while_in {c : TT} {tb : TS} {D : Ends} {σ : St} {H : Hp} (Pv : St → Hp → Prop) (μ : St → Hp → Nat) (h0 : Pv σ H)
    (hs : ∀ σ H, Pv σ H → c σ H fun b H1 => if b = true then WIn tb D Pv μ (μ σ H) σ H1 else D.nx σ H1) : tWhile c tb D σ H := by
  refine ⟨fun m σ H => m = μ σ H ∧ Pv σ H, ⟨_, rfl, h0⟩, ?_⟩
  rintro m σ H ⟨rfl, p⟩
  exact hs σ H p
theorem merge {C : St → Hp → Prop} {G : Prop} (M : St → Hp → Prop) (h1 : (∀ σ H, M σ H → C σ H) → G) (h2 : ∀ σ H, M σ H → C σ H) : G := h1 h2
end L2
set_option Elab.async false
set_option linter.all false
set_option maxRecDepth 100000
namespace L2
open PySem PySem.Spec PyProof.Rows
def coef (f : List Int) (i : Nat) : Int := f.getD i 0
theorem coef_nil (i : Nat) : coef [] i = 0 := by simp [coef]
theorem coef_ge {f : List Int} {i : Nat} (h : f.length ≤ i) : coef f i = 0 := by
  unfold coef
  rw [List.getD_eq_getElem?_getD, List.getElem?_eq_none h]
  rfl
theorem coef_lt {f : List Int} {i : Nat} (h : i < f.length) : coef f i = f[i] := by
  unfold coef
  rw [List.getD_eq_getElem?_getD, List.getElem?_eq_getElem h]
  rfl
theorem ext_coef {f g : List Int} (hl : f.length = g.length) (h : ∀ i, i < f.length → coef f i = coef g i) : f = g := by
  refine List.ext_getElem hl fun i h1 h2 => ?_
  rw [← coef_lt h1, ← coef_lt h2]
  exact h i h1
theorem coef_map_range {n : Nat} {c : Nat → Int} {i : Nat} (h : i < n) : coef ((List.range n).map c) i = c i := by
  rw [coef_lt (by simpa using h)]
  simp
theorem coef_set {f : List Int} {k : Nat} {v : Int} (hk : k < f.length) (i : Nat) : coef (f.set k v) i = if i = k then v else coef f i := by
  unfold coef
  rw [List.getD_eq_getElem?_getD, List.getElem?_set]
  by_cases h : k = i
  · subst h
    simp [hk]
  · rw [if_neg h, if_neg (Ne.symm h), List.getD_eq_getElem?_getD]
theorem coef_take {f : List Int} {n i : Nat} (h : i < n) : coef (f.take n) i = coef f i := by
  unfold coef
  rw [List.getD_eq_getElem?_getD, List.getElem?_take, if_pos h, List.getD_eq_getElem?_getD]
theorem coef_take_ge {f : List Int} {n i : Nat} (h : n ≤ i) : coef (f.take n) i = 0 := coef_ge (by rw [List.length_take]; omega)
theorem coef_replicate (n i : Nat) : coef (List.replicate n 0) i = 0 := by
  by_cases h : i < n
  · rw [coef_lt (by simpa using h)]; simp
  · exact coef_ge (by simp; omega)
def tlen (f : List Int) : Nat → Nat
  | 0 => 0
  | n + 1 => if coef f n = 0 then tlen f n else n + 1
def trim (f : List Int) : List Int := f.take (tlen f f.length)
def Norm (f : List Int) : Prop := f = [] ∨ coef f (f.length - 1) ≠ 0
theorem tlen_le (f : List Int) : ∀ n, tlen f n ≤ n
  | 0 => Nat.le_refl _
  | n + 1 => by
    unfold tlen
    split
    · exact Nat.le_succ_of_le (tlen_le f n)
    · exact Nat.le_refl _
theorem tlen_top (f : List Int) : ∀ n, tlen f n = 0 ∨ coef f (tlen f n - 1) ≠ 0
  | 0 => .inl rfl
  | n + 1 => by
    unfold tlen
    split
    · exact tlen_top f n
    · rename_i h; exact .inr h
theorem tlen_zero (f : List Int) : ∀ n i, tlen f n ≤ i → i < n → coef f i = 0
  | 0, i, _, h => absurd h (Nat.not_lt_zero _)
  | n + 1, i, h1, h2 => by
    unfold tlen at h1
    split at h1
    · rename_i h
      by_cases e : i = n
      · rw [e]; exact h
      · exact tlen_zero f n i h1 (by omega)
    · omega
theorem trim_length (f : List Int) : (trim f).length = tlen f f.length := by
  unfold trim
  rw [List.length_take, Nat.min_eq_left (tlen_le f _)]
theorem coef_trim (f : List Int) (i : Nat) : coef (trim f) i = coef f i := by
  unfold trim
  by_cases h : i < tlen f f.length
  · exact coef_take h
  · rw [coef_take_ge (by omega)]
    by_cases h2 : i < f.length
    · exact (tlen_zero f _ i (by omega) h2).symm
    · exact (coef_ge (by omega)).symm
theorem norm_trim (f : List Int) : Norm (trim f) := by
  rcases tlen_top f f.length with h | h
  · left
    have : (trim f).length = 0 := by rw [trim_length]; exact h
    exact List.length_eq_zero_iff.mp this
  · right
    rw [coef_trim, trim_length]
    exact h
theorem norm_ext {f g : List Int} (hf : Norm f) (hg : Norm g) (h : ∀ i, coef f i = coef g i) : f = g := by
  have key : ∀ {f g : List Int}, Norm f → (∀ i, coef f i = coef g i) → f.length ≤ g.length := by
    intro f g hf h
    rcases hf with rfl | hf
    · exact Nat.zero_le _
    · refine Classical.byContradiction fun hn => hf ?_
      rw [h]
      exact coef_ge (by omega)
  have hl : f.length = g.length := Nat.le_antisymm (key hf h) (key hg fun i => (h i).symm)
  exact ext_coef hl fun i _ => h i
theorem trim_ext {f g : List Int} (h : ∀ i, coef f i = coef g i) : trim f = trim g := norm_ext (norm_trim f) (norm_trim g) fun i => by rw [coef_trim, coef_trim, h]
theorem Norm.last {f : List Int} (h : Norm f) (hne : f ≠ []) : coef f (f.length - 1) ≠ 0 := by
  rcases h with h | h
  · exact absurd h hne
  · exact h
def addc (f g : List Int) : List Int := (List.range (max f.length g.length)).map fun i => coef f i + coef g i
def padd (f g : List Int) : List Int := trim (addc f g)
def rowS (f g : List Int) : Nat → Nat → Int
  | 0, _ => 0
  | i + 1, m => rowS f g i m + (if i ≤ m then coef f i * coef g (m - i) else 0)
def conv (f g : List Int) (m : Nat) : Int := rowS f g f.length m
def pmul (f g : List Int) : List Int := if f = [] ∨ g = [] then [] else (List.range (f.length + g.length - 1)).map (conv f g)
def Bds (m : Nat) (f : List Int) : Prop := ∀ x ∈ f, Bd m x
def New (H : Hp) (Q : VK) (ns : List Int) : Prop := ∀ p H', Same H H' → H p = none → H' p = some (.lst (ns.map V.int)) → Q (.ref p) H'
theorem cutV_take (ns : List Int) (k : Nat) (h : k ≤ ns.length) : cutV (ns.map V.int) none (some (k : Int)) = (ns.take k).map V.int := by
  unfold cutV
  have e1 : HT.sIx (ns.map V.int).length 0 none = 0 := rfl
  have e2 : HT.sIx (ns.map V.int).length (ns.map V.int).length (some (k : Int)) = k := by
    rw [HT.sIx_nat, List.length_map]; omega
  rw [e1, e2]
  simp
theorem map_int_at {ns : List Int} {i : Nat} (h : i < ns.length) : (ns.map V.int)[i]? = some (.int (coef ns i)) := by
  rw [List.getElem?_map, List.getElem?_eq_getElem h, coef_lt h]
  rfl
theorem atI_int {ns : List Int} {i : Int} (h0 : 0 ≤ i) (h1 : i < (ns.length : Int)) : atI (ns.map V.int) i = some (.int (coef ns i.toNat)) := by
  have hi : i.toNat < (ns.map V.int).length := by rw [List.length_map]; omega
  rw [atI_get_nat h0 hi]
  rw [coef_lt (by rw [List.length_map] at hi; exact hi)]
  simp
theorem map_int_set (ns : List Int) (i : Nat) (v : Int) : (ns.map V.int).set i (.int v) = (ns.set i v).map V.int := by rw [List.map_set]
theorem ixN_nat {n : Nat} {k : Int} (h0 : 0 ≤ k) (h1 : k < (n : Int)) : ixN n k = some k.toNat := by
  unfold ixN
  rw [if_pos h0]
  first
    | rw [if_pos h1]
    | rw [if_pos (by omega)]
def rGetL (K : PySem.W.Frag) : V → V → Hp → VK → Prop := fun x y H Q => ∃ p xs i v, x = .ref p ∧ y = .int i ∧ SqL K H p xs ∧ 0 ≤ i ∧ xs[i.toNat]? = some v ∧ Q v H
theorem get_list {X : Cx} : PGet X (rGetL X.K) := by
  intro pins s σ H o i ov iv Q I ro ri h
  obtain ⟨p, xs, k, v, rfl, rfl, hq, h0, hx, q⟩ := h
  cases ro
  obtain ⟨t, rfl⟩ := ri
  obtain ⟨its, r, pl, hz⟩ := I.list hq
  obtain ⟨u, hu, ru⟩ := r.get hx
  have hl := r.length
  have hi : k.toNat < its.length := (List.getElem?_eq_some_iff.mp hu).1
  have hn := line63
  exact wpAny_getItem_list pl.isList h0 (by omega) (by simpa using hu) ⟨v, H, I, ru, q⟩
theorem getK_list {X : Cx} {K : PySem.W.Frag} (h : X.K = K) : PGet X (rGetL K) := by subst h; exact get_list
theorem atI_neg1 {ns : List Int} (h : ns ≠ []) : atI (ns.map V.int) (-1) = some (.int (coef ns (ns.length - 1))) := by
  have hl : 0 < ns.length := List.length_pos_iff.mpr h
  unfold atI ixN
  rw [if_neg (by decide), if_pos (by rw [List.length_map]; omega), List.length_map]
  have e : (-1 + (ns.length : Int)).toNat = ns.length - 1 := by omega
  show (ns.map V.int)[(-1 + (ns.length : Int)).toNat]? = _
  rw [e]
  exact map_int_at (by omega)
end L2
set_option Elab.async false
set_option linter.all false
set_option maxRecDepth 100000
namespace L2
open PySem PySem.Spec PySem.W PyProof.Rows
def letter (p : Nat) : Str := if p = 1 then Str.ofString "x" else Str.ofString "x^" ++ num p
def term (k p : Nat) : Str := if p = 0 then num k else if k = 1 then letter p else num k ++ Str.ofString "*" ++ letter p
def sgs (a : Int) : Str := if a < 0 then Str.ofString "-" else Str.ofString "+"
abbrev Tm := Int × Nat
def words : List Tm → List Str
  | [] => []
  | t :: r => sgs t.1 :: term t.1.natAbs t.2 :: words r
def text : List Tm → Str
  | [] => Str.empty
  | t :: r => (if t.1 < 0 then Str.ofString "-" else Str.empty) ++ Str.join ⟨#[32]⟩ (term t.1.natAbs t.2 :: words r)
theorem cs_x : cs (Str.ofString "x") = [120] := by decide +kernel
theorem cs_xh : cs (Str.ofString "x^") = [120, 94] := by decide +kernel
theorem cs_st : cs (Str.ofString "*") = [42] := by decide +kernel
theorem cs_mi : cs (Str.ofString "-") = [45] := by decide +kernel
theorem cs_pl : cs (Str.ofString "+") = [43] := by decide +kernel
theorem cs_mid : cs (Str.ofString " - ") = [32, 45, 32] := by decide +kernel
theorem cs_pld : cs (Str.ofString " + ") = [32, 43, 32] := by decide +kernel
theorem cs_em : cs Str.empty = [] := rfl
theorem s_sp : Str.ofString " " = ⟨#[32]⟩ := by decide +kernel
theorem s_mi : Str.ofString "-" = ⟨#[45]⟩ := by decide +kernel
theorem s_x : Str.ofString "x" = ⟨#[120]⟩ := by decide +kernel
theorem s_st : Str.ofString "*" = ⟨#[42]⟩ := by decide +kernel
theorem s_em : Str.ofString "" = Str.empty := by decide +kernel
theorem s_0 : Str.ofString "0" = num 0 := by decide +kernel
theorem s_1 : Str.ofString "1" = num 1 := by decide +kernel
theorem letter_cs (p : Nat) : ∃ r, cs (letter p) = 120 :: r ∧ ∀ c ∈ r, c = 94 ∨ (48 ≤ c ∧ c ≤ 57) := by
  unfold letter
  by_cases h : p = 1
  · rw [if_pos h, cs_x]; exact ⟨[], rfl, fun c hc => by simp at hc⟩
  · rw [if_neg h, cs_app, cs_xh]
    refine ⟨94 :: cs (num p), rfl, fun c hc => ?_⟩
    rcases List.mem_cons.mp hc with y | y
    · exact .inl y
    · exact .inr (num_fig p c y)
theorem term_sg (k p : Nat) : ∀ c ∈ cs (term k p), c = 120 ∨ c = 94 ∨ c = 42 ∨ (48 ≤ c ∧ c ≤ 57) := by
  intro c hc
  unfold term at hc
  by_cases h : p = 0
  · rw [if_pos h] at hc; exact .inr (.inr (.inr (num_fig k c hc)))
  · rw [if_neg h] at hc
    obtain ⟨r, e, hr⟩ := letter_cs p
    have hl : ∀ c ∈ cs (letter p), c = 120 ∨ c = 94 ∨ c = 42 ∨ (48 ≤ c ∧ c ≤ 57) := fun c hc => by
      rw [e] at hc
      rcases List.mem_cons.mp hc with y | y
      · exact .inl y
      · rcases hr c y with z | z
        · exact .inr (.inl z)
        · exact .inr (.inr (.inr z))
    by_cases h1 : k = 1
    · rw [if_pos h1] at hc; exact hl c hc
    · rw [if_neg h1, cs_app, cs_app] at hc
      rcases List.mem_append.mp hc with y | y
      · rcases List.mem_append.mp y with z | z
        · exact .inr (.inr (.inr (num_fig k c z)))
        · rw [cs_st] at z; exact .inr (.inr (.inl (List.mem_singleton.mp z)))
      · exact hl c y
theorem term_ne (k p : Nat) : cs (term k p) ≠ [] := by
  unfold term
  by_cases h : p = 0
  · rw [if_pos h]; exact num_ne k
  · rw [if_neg h]
    obtain ⟨r, e, _⟩ := letter_cs p
    by_cases h1 : k = 1
    · rw [if_pos h1, e]; simp
    · rw [if_neg h1, cs_app, cs_app, e]; simp
theorem letter_len {p : Nat} (h : p ≤ 12) : (letter p).length ≤ 62 := by
  unfold letter
  by_cases c : p = 1
  · rw [if_pos c, ← cs_len, cs_x]; decide
  · rw [if_neg c, ← cs_len, cs_app, List.length_append, cs_xh, cs_len]
    have := num_len (n := p) (Nat.lt_of_le_of_lt h (by decide))
    show 2 + _ ≤ 62
    omega
structure GT (T : List Tm) : Prop where
  ne : T ≠ []
  few : T.length ≤ 13
  each : ∀ t ∈ T, t.1.natAbs < 10 ^ 60 ∧ t.2 ≤ 12
theorem words_free : ∀ (T : List Tm), ∀ w ∈ words T, 32 ∉ cs w
  | [], w, h => by simp [words] at h
  | t :: r, w, h => by
    rcases List.mem_cons.mp h with rfl | h
    · unfold sgs; split
      · rw [cs_mi]; decide
      · rw [cs_pl]; decide
    · rcases List.mem_cons.mp h with rfl | h
      · intro z
        have := term_sg _ _ _ z
        omega
      · exact words_free r w h
theorem words_len : ∀ T : List Tm, (words T).length = 2 * T.length
  | [] => rfl
  | t :: r => by
    show (words r).length + 1 + 1 = 2 * (r.length + 1)
    rw [words_len r]; omega
theorem words_app : ∀ T U : List Tm, words (T ++ U) = words T ++ words U
  | [], _ => rfl
  | t :: r, U => by show _ :: _ :: words (r ++ U) = _ :: _ :: (words r ++ words U); rw [words_app r U]
theorem words_at : ∀ (T : List Tm) (k : Nat) (t : Tm), T[k]? = some t → (words T)[2 * k]? = some (sgs t.1) ∧ (words T)[2 * k + 1]? = some (term t.1.natAbs t.2)
  | [], k, t, h => by simp at h
  | u :: r, 0, t, h => by
    have : u = t := by simpa using h
    subst this
    exact ⟨rfl, rfl⟩
  | u :: r, k + 1, t, h => by
    have ih := words_at r k t (by simpa using h)
    rw [show 2 * (k + 1) = 2 * k + 1 + 1 by omega]
    exact ih
def tail0 (T : List Tm) : Str := match T with
  | [] => Str.empty
  | t :: r => Str.join ⟨#[32]⟩ (term t.1.natAbs t.2 :: words r)
theorem split_tail {t : Tm} {r : List Tm} : Txt.split (tail0 (t :: r)) ⟨#[32]⟩ = term t.1.natAbs t.2 :: words r := by
  refine split_join 32 (by simp) fun w h => ?_
  rcases List.mem_cons.mp h with rfl | h
  · intro z
    have := term_sg _ _ _ z
    omega
  · exact words_free r w h
theorem text_tail0 (t : Tm) (r : List Tm) : text (t :: r) = (if t.1 < 0 then Str.ofString "-" else Str.empty) ++ tail0 (t :: r) := rfl
theorem tail_head (t : Tm) (r : List Tm) : ∃ c s, cs (tail0 (t :: r)) = c :: s ∧ c ≠ 45 := by
  show ∃ c s, cs (Str.join ⟨#[32]⟩ (term t.1.natAbs t.2 :: words r)) = c :: s ∧ c ≠ 45
  rw [join_cs]
  cases h : cs (term t.1.natAbs t.2) with
  | nil => exact absurd h (term_ne _ _)
  | cons c s =>
    refine ⟨c, _, rfl, fun z => ?_⟩
    have := term_sg t.1.natAbs t.2 c (by rw [h]; exact List.mem_cons_self)
    omega
theorem text_starts (t : Tm) (r : List Tm) : Txt.startswith (text (t :: r)) ⟨#[45]⟩ = decide (t.1 < 0) := by
  rw [starts_one, text_tail0]
  obtain ⟨c, s, e, hc⟩ := tail_head t r
  by_cases h : t.1 < 0
  · rw [if_pos h, cs_app, cs_mi, e, decide_eq_true h]; rfl
  · rw [if_neg h, cs_app, e, decide_eq_false h]
    show decide (some c = some 45) = false
    exact decide_eq_false fun z => hc (Option.some.inj z)
theorem text_tail {t : Tm} {r : List Tm} (h : t.1 < 0) : Txt.slice (text (t :: r)) (some 1) none = tail0 (t :: r) := by
  rw [text_tail0, if_pos h, s_mi, slice_tail]
theorem text_all {t : Tm} {r : List Tm} (h : ¬ t.1 < 0) : text (t :: r) = tail0 (t :: r) := by
  rw [text_tail0, if_neg h]
  exact cs_ext (by rw [cs_app]; rfl)
theorem text_snoc {T : List Tm} (h : T ≠ []) (t : Tm) : text (T ++ [t]) = text T ++ (if t.1 < 0 then Str.ofString " - " else Str.ofString " + ") ++ term t.1.natAbs t.2 := by
  cases T with
  | nil => exact absurd rfl h
  | cons u r =>
    show (if u.1 < 0 then _ else _) ++ Str.join ⟨#[32]⟩ (term u.1.natAbs u.2 :: words (r ++ [t])) = (if u.1 < 0 then _ else _) ++ Str.join ⟨#[32]⟩ (term u.1.natAbs u.2 :: words r) ++ _ ++ _
    rw [words_app]
    have e1 : term u.1.natAbs u.2 :: (words r ++ words [t]) = ((term u.1.natAbs u.2 :: words r) ++ [sgs t.1]) ++ [term t.1.natAbs t.2] := by simp [words]
    rw [e1, join_snoc _ _ _ (by simp), join_snoc _ _ _ (by simp)]
    refine cs_ext ?_
    unfold sgs
    simp only [cs_app, List.append_assoc]
    by_cases c : t.1 < 0
    · rw [if_pos c, if_pos c, cs_mi, cs_mid]; rfl
    · rw [if_neg c, if_neg c, cs_pl, cs_pld]; rfl
theorem text_one (t : Tm) : text [t] = (if t.1 < 0 then Str.ofString "-" else Str.empty) ++ term t.1.natAbs t.2 := rfl
theorem text_ne {T : List Tm} (h : T ≠ []) : text T ≠ Str.empty := by
  cases T with
  | nil => exact absurd rfl h
  | cons t r =>
    obtain ⟨c, s, e, _⟩ := tail_head t r
    intro z
    have := congrArg cs z
    rw [text_tail0, cs_app, e] at this
    exact absurd (List.append_eq_nil_iff.mp this).2 (by simp)
theorem join_len (sep : Str) (B : Nat) : ∀ ws : List Str, (∀ w ∈ ws, w.length ≤ B) → (Str.join sep ws).length ≤ ws.length * (B + sep.length) := by
  intro ws h
  have h1 := StrLaws.join_length_le sep ws
  have h2 := StrLaws.sumLen_le ws h
  rw [Nat.mul_add]
  omega
def tl (f : List Int) : Nat → List Tm
  | 0 => []
  | j + 1 => tl f j ++ (if coef f (f.length - 1 - j) = 0 then [] else [(coef f (f.length - 1 - j), f.length - 1 - j)])
def tms (f : List Int) : List Tm := if f = [] then [(0, 0)] else tl f f.length
def wr (f : List Int) : Str := text (tms f)
theorem tl_one {f : List Int} (h : f ≠ []) (hn : Norm f) : tl f 1 = [(coef f (f.length - 1), f.length - 1)] := by
  show [] ++ (if coef f (f.length - 1 - 0) = 0 then [] else _) = _
  rw [Nat.sub_zero, if_neg (hn.last h)]; rfl
theorem tl_ne {f : List Int} (h : f ≠ []) (hn : Norm f) : ∀ j, tl f (j + 1) ≠ []
  | 0 => by rw [tl_one h hn]; simp
  | j + 1 => by
    show tl f (j + 1) ++ _ ≠ []
    intro z
    exact tl_ne h hn j (List.append_eq_nil_iff.mp z).1
theorem tl_each {f : List Int} (hb : ∀ i, (coef f i).natAbs < 10 ^ 60) (hl : f.length ≤ 13) : ∀ j, (tl f j).length ≤ j ∧ ∀ t ∈ tl f j, t.1.natAbs < 10 ^ 60 ∧ t.2 ≤ 12
  | 0 => ⟨Nat.le_refl _, fun t h => by simp [tl] at h⟩
  | j + 1 => by
    obtain ⟨h1, h2⟩ := tl_each hb hl j
    show (tl f j ++ _).length ≤ j + 1 ∧ ∀ t ∈ tl f j ++ _, _
    by_cases c : coef f (f.length - 1 - j) = 0
    · rw [if_pos c, List.append_nil]; exact ⟨by omega, h2⟩
    · rw [if_neg c, List.length_append]
      refine ⟨by show _ + 1 ≤ _; omega, fun t h => ?_⟩
      rcases List.mem_append.mp h with y | y
      · exact h2 t y
      · rw [List.mem_singleton.mp y]; exact ⟨hb _, by show f.length - 1 - j ≤ 12; omega⟩
theorem tms_good {f : List Int} (hn : Norm f) (hb : ∀ i, (coef f i).natAbs < 10 ^ 60) (hl : f.length ≤ 13) : GT (tms f) := by
  unfold tms
  by_cases c : f = []
  · rw [if_pos c]; exact ⟨by simp, by decide, fun t h => by rw [List.mem_singleton.mp h]; decide⟩
  · rw [if_neg c]
    obtain ⟨h1, h2⟩ := tl_each hb hl f.length
    refine ⟨?_, by omega, h2⟩
    obtain ⟨k, hk⟩ : ∃ k, f.length = k + 1 := ⟨f.length - 1, by have := List.length_pos_iff.mpr c; omega⟩
    rw [hk]
    exact tl_ne c hn k
def acc : List Tm → Nat → Int
  | [], _ => 0
  | t :: r, q => (if t.2 = q then t.1 else 0) + acc r q
theorem acc_app : ∀ (T U : List Tm) (q : Nat), acc (T ++ U) q = acc T q + acc U q
  | [], U, q => by show _ = 0 + _; rw [Int.zero_add]; rfl
  | t :: r, U, q => by
    show _ + acc (r ++ U) q = _ + acc r q + acc U q
    rw [acc_app r U q]; omega
theorem acc_tl (f : List Int) : ∀ j q, j ≤ f.length → acc (tl f j) q = if f.length ≤ q + j ∧ q < f.length then coef f q else 0
  | 0, q, _ => by show (0 : Int) = _; rw [if_neg (by omega)]
  | j + 1, q, hj => by
    show acc (tl f j ++ _) q = _
    rw [acc_app, acc_tl f j q (by omega)]
    have e : acc (if coef f (f.length - 1 - j) = 0 then [] else [(coef f (f.length - 1 - j), f.length - 1 - j)]) q = if f.length - 1 - j = q then coef f q else 0 := by
      by_cases c : coef f (f.length - 1 - j) = 0
      · rw [if_pos c]
        show (0 : Int) = _
        split
        · rename_i h; rw [← h, c]
        · rfl
      · rw [if_neg c]
        show (if f.length - 1 - j = q then coef f (f.length - 1 - j) else 0) + 0 = _
        split
        · rename_i h; rw [h]; omega
        · rfl
    rw [e]
    by_cases h1 : f.length ≤ q + j ∧ q < f.length
    · rw [if_pos h1, if_neg (by omega), if_pos (by omega)]; omega
    · rw [if_neg h1]
      by_cases h2 : f.length - 1 - j = q
      · rw [if_pos h2, if_pos (by omega)]; omega
      · rw [if_neg h2, if_neg (by omega)]; rfl
theorem acc_tms {f : List Int} (q : Nat) : acc (tms f) q = coef f q := by
  unfold tms
  by_cases c : f = []
  · rw [if_pos c, c, coef_nil]
    show (if 0 = q then (0 : Int) else 0) + 0 = 0
    split <;> rfl
  · rw [if_neg c, acc_tl f f.length q (Nat.le_refl _)]
    by_cases h : q < f.length
    · rw [if_pos (by omega)]
    · rw [if_neg (by omega), coef_ge (by omega)]
end L2
set_option Elab.async false
set_option linter.all false
set_option maxRecDepth 100000
namespace L2
open PySem PySem.Spec PySem.W PyProof.Rows
def AllF (l : List Nat) : Prop := ∀ c ∈ l, 48 ≤ c ∧ c ≤ 57
instance (l : List Nat) : Decidable (AllF l) := inferInstanceAs (Decidable (∀ c ∈ l, 48 ≤ c ∧ c ≤ 57))
def IsF (x : Str) : Prop := 1 ≤ x.length ∧ x.length ≤ 60 ∧ AllF (cs x)
instance (x : Str) : Decidable (IsF x) := inferInstanceAs (Decidable (_ ∧ _ ∧ _))
def fv (x : Str) : Nat := NumText.digitsVal (cs x)
theorem dv_lt : ∀ (n : Nat) (l : List Nat), l.length = n → AllF l → NumText.digitsVal l < 10 ^ n
  | 0, l, h, _ => by rw [List.length_eq_zero_iff.mp h]; decide
  | n + 1, l, h, a => by
    obtain ⟨r, c, e⟩ : ∃ r c, l = r ++ [c] := by
      rcases List.eq_nil_or_concat l with z | ⟨r, c, z⟩
      · rw [z] at h; cases h
      · exact ⟨r, c, by rw [z]; simp⟩
    subst e
    have h1 : r.length = n := by simpa using h
    have ih := dv_lt n r h1 fun c hc => a c (List.mem_append_left _ hc)
    have hc := a c (List.mem_append_right _ (List.mem_singleton.mpr rfl))
    rw [NumText.digitsVal_snoc, Nat.pow_succ]
    omega
theorem fv_lt {x : Str} (h : IsF x) : fv x < 10 ^ 60 := by
  have := dv_lt (cs x).length (cs x) rfl h.2.2
  refine Nat.lt_of_lt_of_le this (Nat.pow_le_pow_right (by decide) ?_)
  rw [cs_len]; exact h.2.1
theorem fv_num (n : Nat) : fv (num n) = n := (congrArg NumText.digitsVal (num_cs n)).trans (KIN.val_back n)
theorem fv_read {x : Str} (h : IsF x) : PySem.intText? x = some ((fv x : Nat) : Int) :=
  PySem.intText_digits (x := x) h.2.2 (fun z => by have := h.1; rw [← cs_len] at this; show False; rw [show cs x = [] from z] at this; exact absurd this (by decide)) (Nat.le_trans h.2.1 (by decide))
theorem num_lenk {n k : Nat} (hk : 0 < k) (h : n < 10 ^ k) : (num n).length ≤ k := toString_length_le (by omega) hk (by
  have : ((10 ^ k : Nat) : Int) = (10 : Int) ^ k := by norm_cast
  omega)
theorem isF_num (n : Nat) : IsF (num n) ↔ n < 10 ^ 60 := by
  constructor
  · intro h
    have := fv_lt h
    rw [fv_num] at this
    exact this
  · intro h
    exact ⟨num_len1 n, num_len h, num_fig n⟩
theorem num_head {n : Nat} {r : List Nat} (h : cs (num n) = 48 :: r) : n = 0 := by
  by_cases c : r = []
  · have := fv_num n
    unfold fv at this
    rw [h, c] at this
    exact this.symm
  · exfalso
    have l0 : 0 < r.length := List.length_pos_iff.mpr c
    have e := fv_num n
    unfold fv at e
    rw [h, NumText.digitsVal_zero] at e
    have := dv_lt r.length r rfl fun c hc => num_fig n c (by rw [h]; exact List.mem_cons_of_mem _ hc)
    rw [e] at this
    have := num_lenk l0 this
    rw [← cs_len, h] at this
    have : r.length + 1 ≤ r.length := this
    omega
def rf (x : Str) : Option Nat := if IsF x then some (fv x) else none
theorem rf_num (n : Nat) : rf (num n) = if n < 10 ^ 60 then some n else none := by
  unfold rf
  by_cases h : n < 10 ^ 60
  · rw [if_pos h, if_pos ((isF_num n).mpr h), fv_num]
  · rw [if_neg h, if_neg fun z => h ((isF_num n).mp z)]
theorem rf_lt {x : Str} {n : Nat} (h : rf x = some n) : n < 10 ^ 60 := by
  unfold rf at h
  split at h
  · rename_i z; cases h; exact fv_lt z
  · cases h
def rt (w : Str) : Option (Nat × Nat) :=
  if (Txt.partition w ⟨#[120]⟩).2.1 = Str.empty then (rf w).map fun k => (k, 0)
  else ((if (Txt.partition w ⟨#[120]⟩).1 = Str.empty then some 1 else rf (Txt.slice (Txt.partition w ⟨#[120]⟩).1 none (some (-1))))).bind fun k =>
    ((if (Txt.partition w ⟨#[120]⟩).2.2 = Str.empty then some 1 else rf (Txt.slice (Txt.partition w ⟨#[120]⟩).2.2 (some 1) none))).bind fun q => if q ≤ 12 then some (k, q) else none
def pre (k : Nat) : Str := if k = 1 then Str.empty else num k ++ ⟨#[42]⟩
def suf (p : Nat) : Str := if p = 1 then Str.empty else ⟨#[94]⟩ ++ num p
theorem term_parts {k p : Nat} (hp : p ≠ 0) : term k p = pre k ++ ⟨#[120]⟩ ++ suf p := by
  unfold term letter pre suf
  rw [if_neg hp]
  refine cs_ext ?_
  by_cases h1 : k = 1
  · rw [if_pos h1, if_pos h1]
    by_cases h2 : p = 1
    · rw [if_pos h2, if_pos h2, cs_x]; rfl
    · rw [if_neg h2, if_neg h2]
      simp only [cs_app, cs_xh, cs_em, List.append_assoc]
      rfl
  · rw [if_neg h1, if_neg h1]
    by_cases h2 : p = 1
    · rw [if_pos h2, if_pos h2]
      simp only [cs_app, cs_x, cs_st, cs_em, List.append_assoc]
      rfl
    · rw [if_neg h2, if_neg h2]
      simp only [cs_app, cs_xh, cs_st, List.append_assoc]
      rfl
theorem pre_free (k : Nat) : 120 ∉ cs (pre k) := by
  unfold pre
  by_cases h1 : k = 1
  · rw [if_pos h1]; decide
  · rw [if_neg h1, cs_app]
    intro z
    rcases List.mem_append.mp z with y | y
    · have := num_fig k _ y; omega
    · exact absurd (List.mem_singleton.mp y) (by decide)
theorem app_ne {a b : Str} (h : cs a ≠ []) : a ++ b ≠ Str.empty := fun z => by
  have := congrArg cs z
  rw [cs_app, cs_em] at this
  exact h (List.append_eq_nil_iff.mp this).1
theorem app_ne2 {a b : Str} (h : cs b ≠ []) : a ++ b ≠ Str.empty := fun z => by
  have := congrArg cs z
  rw [cs_app, cs_em] at this
  exact h (List.append_eq_nil_iff.mp this).2
theorem small12 {p : Nat} (h : p ≤ 12) : p < 10 ^ 60 := Nat.lt_of_le_of_lt h (by decide)
theorem rt_term {k p : Nat} (hp : p ≤ 12) : rt (term k p) = if k < 10 ^ 60 then some (k, p) else none := by
  by_cases c0 : p = 0
  · have ew : term k p = num k := by unfold term; rw [if_pos c0]
    unfold rt
    rw [ew, part_none fun z => by have := num_fig k _ z; omega, if_pos rfl, rf_num, c0]
    split <;> rfl
  · unfold rt
    rw [term_parts c0, part_at (pre_free k), if_neg (show ¬ (⟨#[120]⟩ : Str) = Str.empty by decide)]
    have e1 : (if pre k = Str.empty then some 1 else rf (Txt.slice (pre k) none (some (-1)))) = if k < 10 ^ 60 then some k else none := by
      by_cases c1 : k = 1
      · have : pre k = Str.empty := by unfold pre; rw [if_pos c1]
        rw [if_pos this, c1, if_pos (by decide)]
      · have e : pre k = num k ++ ⟨#[42]⟩ := by unfold pre; rw [if_neg c1]
        rw [e, if_neg (app_ne (num_ne k)), slice_init, rf_num]
    have e2 : (if suf p = Str.empty then some 1 else rf (Txt.slice (suf p) (some 1) none)) = some p := by
      by_cases c1 : p = 1
      · have : suf p = Str.empty := by unfold suf; rw [if_pos c1]
        rw [if_pos this, c1]
      · have e : suf p = ⟨#[94]⟩ ++ num p := by unfold suf; rw [if_neg c1]
        rw [e, if_neg (app_ne2 (num_ne p)), slice_tail, rf_num, if_pos (small12 hp)]
    show ((if pre k = Str.empty then some 1 else _) : Option Nat).bind _ = _
    rw [e1]
    split
    · show ((if suf p = Str.empty then some 1 else _) : Option Nat).bind _ = _
      rw [e2]
      show (if p ≤ 12 then some (k, p) else none) = _
      rw [if_pos hp]
    · rfl
theorem rt_small {w : Str} {k p : Nat} (h : rt w = some (k, p)) : k < 10 ^ 60 ∧ p ≤ 12 := by
  unfold rt at h
  split at h
  · cases e : rf w with
    | none => rw [e] at h; cases h
    | some n => rw [e] at h; cases h; exact ⟨rf_lt e, by decide⟩
  · obtain ⟨k', h1, h2⟩ := Option.bind_eq_some_iff.mp h
    obtain ⟨q, h3, h4⟩ := Option.bind_eq_some_iff.mp h2
    split at h4
    · rename_i hq
      cases h4
      refine ⟨?_, hq⟩
      split at h1
      · cases h1; decide
      · exact rf_lt h1
    · cases h4
def lv (x : Str) : Option Nat := if IsF x ∧ ((cs x)[0]? = some 48 → x = num 0) then some (fv x) else none
theorem lv_num (n : Nat) : lv (num n) = if n < 10 ^ 60 then some n else none := by
  unfold lv
  have h0 : (cs (num n))[0]? = some 48 → num n = num 0 := fun z => by
    cases e : cs (num n) with
    | nil => exact absurd e (num_ne n)
    | cons c r =>
      rw [e] at z
      have : c = 48 := by simpa using z
      rw [this] at e
      rw [num_head e]
  by_cases h : n < 10 ^ 60
  · rw [if_pos h, if_pos ⟨(isF_num n).mpr h, h0⟩, fv_num]
  · rw [if_neg h, if_neg fun z => h ((isF_num n).mp z.1)]
theorem lv_lt {x : Str} {n : Nat} (h : lv x = some n) : n < 10 ^ 60 := by
  unfold lv at h
  split at h
  · rename_i z; cases h; exact fv_lt z.1
  · cases h
def lparts (w : Str) : Str × Str := if (Txt.partition w ⟨#[42]⟩).2.1 = Str.empty then (num 1, w) else ((Txt.partition w ⟨#[42]⟩).1, (Txt.partition w ⟨#[42]⟩).2.2)
def lpow (l : Str) : Option Nat := if l = Str.ofString "x" then some 1 else if Txt.slice l none (some 2) ≠ Str.ofString "x^" then none else lv (Txt.slice l (some 2) none)
def lt (w : Str) : Option (Nat × Nat) :=
  if (Txt.partition w ⟨#[42]⟩).2.1 = Str.empty ∧ 120 ∉ cs w then (lv w).map fun k => (k, 0)
  else (lv (lparts w).1).bind fun k => (lpow (lparts w).2).bind fun q => if q ≤ 12 then some (k, q) else none
theorem slice_two {a b : Nat} {r : Str} : Txt.slice (⟨#[a, b]⟩ ++ r) (some 2) none = r := by
  have hl : (⟨#[a, b]⟩ ++ r : Str).length = 2 + r.length := by rw [Str.length_append]; rfl
  rw [slice_from_eq (b := ((⟨#[a, b]⟩ ++ r : Str).length : Int)) (by decide) (by omega) rfl]
  refine cs_ext ?_
  show (List.take _ (List.drop (2 : Int).toNat (cs (⟨#[a, b]⟩ ++ r)))) = cs r
  rw [cs_app]
  show List.take _ (cs r) = cs r
  exact List.take_of_length_le (by rw [hl, cs_len]; omega)
theorem slice_to2 {a b : Nat} {r : Str} : Txt.slice (⟨#[a, b]⟩ ++ r) none (some 2) = ⟨#[a, b]⟩ := by
  have hl : (⟨#[a, b]⟩ ++ r : Str).length = 2 + r.length := by rw [Str.length_append]; rfl
  have := beq_iff_eq.mp (slice_closes_toL (x := ⟨#[a, b]⟩ ++ r) (j := 2) (by omega) (by omega))
  rw [this]
  refine cs_ext ?_
  show List.take _ (List.drop (0 : Int).toNat (cs (⟨#[a, b]⟩ ++ r))) = [a, b]
  rw [cs_app]
  rfl
theorem s_xh : Str.ofString "x^" = ⟨#[120, 94]⟩ := by decide +kernel
theorem lpow_letter {p : Nat} (h0 : p ≠ 0) (hp : p ≤ 12) : lpow (letter p) = some p := by
  unfold lpow letter
  by_cases h1 : p = 1
  · rw [if_pos h1, if_pos rfl, h1]
  · rw [if_neg h1]
    have ne : Str.ofString "x^" ++ num p ≠ Str.ofString "x" := fun z => by
      have := congrArg cs z
      rw [cs_app, cs_xh, cs_x] at this
      cases this
    rw [if_neg ne, s_xh, slice_to2, if_neg (by simp), slice_two, lv_num, if_pos (small12 hp)]
theorem lt_term {k p : Nat} (hp : p ≤ 12) : lt (term k p) = if k < 10 ^ 60 then some (k, p) else none := by
  by_cases c0 : p = 0
  · have ew : term k p = num k := by unfold term; rw [if_pos c0]
    unfold lt
    rw [ew, part_none fun z => by have := num_fig k _ z; omega, if_pos ⟨rfl, fun z => by have := num_fig k _ z; omega⟩, lv_num, c0]
    split <;> rfl
  · obtain ⟨r, el, hr⟩ := letter_cs p
    by_cases c1 : k = 1
    · have ew : term k p = letter p := by unfold term; rw [if_neg c0, if_pos c1]
      have hp' : Txt.partition (letter p) ⟨#[42]⟩ = (letter p, Str.empty, Str.empty) := part_none fun z => by
        rw [el] at z
        rcases List.mem_cons.mp z with y | y
        · cases y
        · have := hr _ y; omega
      unfold lt lparts
      rw [ew, hp', if_neg (fun z => z.2 (by rw [el]; exact List.mem_cons_self)), if_pos rfl]
      show (lv (num 1)).bind _ = _
      rw [lv_num, if_pos (by decide), c1, if_pos (by decide)]
      show (lpow (letter p)).bind _ = _
      rw [lpow_letter c0 hp]
      show (if p ≤ 12 then some (1, p) else none) = _
      rw [if_pos hp]
    · have ew : term k p = num k ++ ⟨#[42]⟩ ++ letter p := by unfold term; rw [if_neg c0, if_neg c1, s_st]
      have hp' : Txt.partition (term k p) ⟨#[42]⟩ = (num k, ⟨#[42]⟩, letter p) := by
        rw [ew]
        exact part_at fun z => by have := num_fig k _ z; omega
      unfold lt lparts
      rw [hp', if_neg (fun z => absurd (show (⟨#[42]⟩ : Str) = Str.empty from z.1) (by decide)), if_neg (show ¬ (⟨#[42]⟩ : Str) = Str.empty by decide)]
      show (lv (num k)).bind _ = _
      rw [lv_num]
      split
      · show (lpow (letter p)).bind _ = _
        rw [lpow_letter c0 hp]
        show (if p ≤ 12 then some (k, p) else none) = _
        rw [if_pos hp]
      · rfl
theorem lt_small {w : Str} {k p : Nat} (h : lt w = some (k, p)) : k < 10 ^ 60 ∧ p ≤ 12 := by
  unfold lt at h
  split at h
  · cases e : lv w with
    | none => rw [e] at h; cases h
    | some n => rw [e] at h; cases h; exact ⟨lv_lt e, by decide⟩
  · obtain ⟨k', h1, h2⟩ := Option.bind_eq_some_iff.mp h
    obtain ⟨q, h3, h4⟩ := Option.bind_eq_some_iff.mp h2
    split at h4
    · rename_i hq
      cases h4
      exact ⟨lv_lt h1, hq⟩
    · cases h4
abbrev Rdr := Str → Str → Option Tm
def rdP : Rdr := fun s w => (rt w).map fun q => (if s = Str.ofString "-" then -(q.1 : Int) else (q.1 : Int), q.2)
def rdL : Rdr := fun s w => if s = Str.ofString "+" ∨ s = Str.ofString "-" then (lt w).map fun q => ((q.1 : Int) * (if s = Str.ofString "+" then 1 else -1), q.2) else none
structure Good (rd : Rdr) : Prop where
  term : ∀ (t : Tm), t.2 ≤ 12 → rd (sgs t.1) (term t.1.natAbs t.2) = if t.1.natAbs < 10 ^ 60 then some t else none
  small : ∀ s w t, rd s w = some t → t.1.natAbs < 10 ^ 60 ∧ t.2 ≤ 12
theorem good_P : Good rdP := by
  constructor
  · intro t ht
    unfold rdP
    rw [rt_term ht]
    by_cases c : t.1.natAbs < 10 ^ 60
    · rw [if_pos c, if_pos c]
      show some ((if sgs t.1 = Str.ofString "-" then -(t.1.natAbs : Int) else (t.1.natAbs : Int)), t.2) = some t
      unfold sgs
      by_cases v : t.1 < 0
      · rw [if_pos v, if_pos rfl]
        congr 2; omega
      · rw [if_neg v, if_neg (by decide +kernel)]
        congr 2; omega
    · rw [if_neg c, if_neg c]; rfl
  · intro s w t h
    unfold rdP at h
    cases e : rt w with
    | none => rw [e] at h; cases h
    | some q =>
      obtain ⟨k, p⟩ := q
      rw [e] at h
      cases h
      have := rt_small e
      refine ⟨?_, this.2⟩
      show Int.natAbs (if s = Str.ofString "-" then -(k : Int) else (k : Int)) < _
      split <;> omega
theorem good_L : Good rdL := by
  constructor
  · intro t ht
    unfold rdL
    rw [lt_term ht]
    unfold sgs
    by_cases v : t.1 < 0
    · rw [if_pos v, if_pos (.inr rfl), if_neg (by decide +kernel)]
      split
      · show some ((t.1.natAbs : Int) * -1, t.2) = some t
        congr 2; omega
      · rfl
    · rw [if_neg v, if_pos (.inl rfl), if_pos rfl]
      split
      · show some ((t.1.natAbs : Int) * 1, t.2) = some t
        congr 2; omega
      · rfl
  · intro s w t h
    unfold rdL at h
    split at h
    · cases e : lt w with
      | none => rw [e] at h; cases h
      | some q =>
        obtain ⟨k, p⟩ := q
        rw [e] at h
        cases h
        have := lt_small e
        refine ⟨?_, this.2⟩
        show Int.natAbs ((k : Int) * (if s = Str.ofString "+" then 1 else -1)) < _
        split <;> omega
    · cases h
def tmAt (rd : Rdr) (ws : List Str) (k : Nat) : Option Tm := (ws[2 * k]?).bind fun s => (ws[2 * k + 1]?).bind fun w => rd s w
def rdK (rd : Rdr) (ws : List Str) : Nat → Option (List Tm)
  | 0 => some []
  | k + 1 => (rdK rd ws k).bind fun T => (tmAt rd ws k).bind fun t => some (T ++ [t])
theorem rdK_none {rd : Rdr} {ws : List Str} {k : Nat} (h : rdK rd ws k = none) : ∀ n, k ≤ n → rdK rd ws n = none
  | 0, hn => by have : k = 0 := by omega
                rw [this] at h; exact h
  | n + 1, hn => by
    by_cases c : k = n + 1
    · rw [← c]; exact h
    · show (rdK rd ws n).bind _ = none
      rw [rdK_none h n (by omega)]; rfl
theorem rdK_len {rd : Rdr} {ws : List Str} (g : Good rd) : ∀ {k : Nat} {T : List Tm}, rdK rd ws k = some T → T.length = k ∧ ∀ t ∈ T, t.1.natAbs < 10 ^ 60 ∧ t.2 ≤ 12
  | 0, T, h => by cases h; exact ⟨rfl, fun t h => by simp at h⟩
  | k + 1, T, h => by
    obtain ⟨T', h1, h2⟩ := Option.bind_eq_some_iff.mp h
    obtain ⟨t, h3, h4⟩ := Option.bind_eq_some_iff.mp h2
    cases h4
    obtain ⟨l, e⟩ := rdK_len g h1
    refine ⟨by rw [List.length_append, l]; rfl, fun u hu => ?_⟩
    rcases List.mem_append.mp hu with y | y
    · exact e u y
    · rw [List.mem_singleton.mp y]
      unfold tmAt at h3
      obtain ⟨s, h5, h6⟩ := Option.bind_eq_some_iff.mp h3
      obtain ⟨w, h7, h8⟩ := Option.bind_eq_some_iff.mp h6
      exact g.small s w t h8
theorem rdK_words {rd : Rdr} (g : Good rd) {U : List Tm} (hU : ∀ t ∈ U, t.2 ≤ 12) : ∀ k, k ≤ U.length → rdK rd (words U) k = if ∀ t ∈ U.take k, t.1.natAbs < 10 ^ 60 then some (U.take k) else none
  | 0, _ => by rw [if_pos (fun t h => by simp at h)]; rfl
  | k + 1, hk => by
    have hk' : k < U.length := by omega
    obtain ⟨t, ht⟩ : ∃ t, U[k]? = some t := ⟨U[k], by simp [hk']⟩
    obtain ⟨w1, w2⟩ := words_at U k t ht
    have e : tmAt rd (words U) k = if t.1.natAbs < 10 ^ 60 then some t else none := by
      unfold tmAt
      rw [w1, w2]
      exact g.term t (hU t (List.mem_of_getElem? ht))
    have et : U.take (k + 1) = U.take k ++ [t] := by rw [List.take_succ, ht]; rfl
    show (rdK rd (words U) k).bind _ = _
    rw [rdK_words g hU k (by omega), et]
    by_cases c : ∀ t ∈ U.take k, t.1.natAbs < 10 ^ 60
    · rw [if_pos c]
      show (tmAt rd (words U) k).bind _ = _
      rw [e]
      by_cases d : t.1.natAbs < 10 ^ 60
      · rw [if_pos d, if_pos (fun u hu => by
          rcases List.mem_append.mp hu with y | y
          · exact c u y
          · rw [List.mem_singleton.mp y]; exact d)]
        rfl
      · rw [if_neg d, if_neg (fun z => d (z t (List.mem_append_right _ (List.mem_singleton.mpr rfl))))]
        rfl
    · rw [if_neg c, if_neg (fun z => c fun u hu => z u (List.mem_append_left _ hu))]
      rfl
def wds (x : Str) : List Str := if (cs x)[0]? = some 45 then Str.ofString "-" :: Txt.split (Txt.slice x (some 1) none) ⟨#[32]⟩ else Str.ofString "+" :: Txt.split x ⟨#[32]⟩
def accL (T : List Tm) : List Int := (List.range 13).map (acc T)
def rd (R : Rdr) (x : Str) : Option (List Int) := if (wds x).length % 2 = 1 then none else (rdK R (wds x) ((wds x).length / 2)).bind fun T => if wr (trim (accL T)) = x then some (trim (accL T)) else none
theorem accL_len (T : List Tm) : (accL T).length = 13 := by unfold accL; rw [List.length_map, List.length_range]
theorem trim_le {f : List Int} : (trim f).length ≤ f.length := by rw [trim_length]; exact tlen_le _ _
theorem rd_some {R : Rdr} {x : Str} {f : List Int} (h : rd R x = some f) : wr f = x ∧ Norm f ∧ f.length ≤ 13 := by
  unfold rd at h
  split at h
  · cases h
  · obtain ⟨T, _, h2⟩ := Option.bind_eq_some_iff.mp h
    split at h2
    · rename_i e
      cases h2
      exact ⟨e, norm_trim _, by have := trim_le (f := accL T); rw [accL_len] at this; exact this⟩
    · cases h2
theorem tl_pow {f : List Int} (hl : f.length ≤ 13) : ∀ j, ∀ t ∈ tl f j, t.2 ≤ 12
  | 0, t, h => by simp [tl] at h
  | j + 1, t, h => by
    have h : t ∈ tl f j ++ (if coef f (f.length - 1 - j) = 0 then [] else [(coef f (f.length - 1 - j), f.length - 1 - j)]) := h
    rcases List.mem_append.mp h with y | y
    · exact tl_pow hl j t y
    · split at y
      · simp at y
      · rw [List.mem_singleton.mp y]; show f.length - 1 - j ≤ 12; omega
theorem tms_pow {f : List Int} (hl : f.length ≤ 13) : ∀ t ∈ tms f, t.2 ≤ 12 := by
  unfold tms
  split
  · intro t h; rw [List.mem_singleton.mp h]; decide
  · exact tl_pow hl _
theorem tms_ne {f : List Int} (hn : Norm f) : tms f ≠ [] := by
  unfold tms
  by_cases c : f = []
  · rw [if_pos c]; simp
  · rw [if_neg c]
    obtain ⟨k, hk⟩ : ∃ k, f.length = k + 1 := ⟨f.length - 1, by have := List.length_pos_iff.mpr c; omega⟩
    rw [hk]
    exact tl_ne c hn k
theorem trim_tms {f : List Int} (hn : Norm f) (hl : f.length ≤ 13) : trim (accL (tms f)) = f := by
  refine norm_ext (norm_trim _) hn fun i => ?_
  rw [coef_trim]
  unfold accL
  by_cases h : i < 13
  · rw [coef_map_range h, acc_tms]
  · rw [coef_ge (by rw [List.length_map, List.length_range]; omega), coef_ge (by omega)]
theorem wds_text {T : List Tm} (h : T ≠ []) : wds (text T) = words T := by
  cases T with
  | nil => exact absurd rfl h
  | cons t r =>
    have st := text_starts t r
    rw [starts_one] at st
    unfold wds
    by_cases v : t.1 < 0
    · rw [decide_eq_true v] at st
      rw [if_pos (of_decide_eq_true st), text_tail v, split_tail]
      show _ = sgs t.1 :: _
      unfold sgs; rw [if_pos v]
    · rw [decide_eq_false v] at st
      rw [if_neg (of_decide_eq_false st), text_all v, split_tail]
      show _ = sgs t.1 :: _
      unfold sgs; rw [if_neg v]
theorem rd_wr {R : Rdr} (g : Good R) {f : List Int} (hn : Norm f) (hl : f.length ≤ 13) : rd R (wr f) = if ∀ t ∈ tms f, t.1.natAbs < 10 ^ 60 then some f else none := by
  unfold rd
  have e : wds (wr f) = words (tms f) := wds_text (tms_ne hn)
  rw [e, words_len, if_neg (by omega), show 2 * (tms f).length / 2 = (tms f).length by omega, rdK_words g (tms_pow hl) _ (Nat.le_refl _), List.take_length]
  by_cases c : ∀ t ∈ tms f, t.1.natAbs < 10 ^ 60
  · rw [if_pos c, if_pos c]
    show (if wr (trim (accL (tms f))) = wr f then some (trim (accL (tms f))) else none) = some f
    rw [trim_tms hn hl, if_pos rfl]
  · rw [if_neg c, if_neg c]; rfl
theorem rd_same {R S : Rdr} (g : Good R) (g' : Good S) (x : Str) : rd R x = rd S x := by
  cases e : rd R x with
  | some f =>
    obtain ⟨h1, h2, h3⟩ := rd_some e
    rw [← h1] at e ⊢
    rw [rd_wr g h2 h3] at e
    rw [rd_wr g' h2 h3, e]
  | none =>
    cases e' : rd S x with
    | none => rfl
    | some f =>
      obtain ⟨h1, h2, h3⟩ := rd_some e'
      rw [← h1, rd_wr g h2 h3] at e
      rw [← h1, rd_wr g' h2 h3, e] at e'
      cases e'
end L2
set_option Elab.async false
set_option linter.all false
set_option maxRecDepth 100000
namespace L2
open PySem PySem.Spec PySem.W PyProof.Rows
section
variable {X : Cx}
def rInsert : V → List V → Hp → VK → Prop := fun x vs H Q => ∃ (l : Addr) (xs : List V) (k : Nat) (y : V), x = .ref l ∧ vs = [.int (k : Int), y] ∧ H l = some (.lst xs) ∧ k ≤ xs.length ∧ xs.length < 100000 ∧ Q .non (upd H l (.lst (xs.take k ++ y :: xs.drop k)))
theorem mt_insert : MtM X "list.insert" rInsert := by
  intro pins s σ H x vs v us Q I rx rv h
  obtain ⟨l, xs, k, y, rfl, rfl, hH, hk, hz, q⟩ := h
  cases rx
  obtain ⟨u, w', rfl, ru, rw'⟩ := Vals.two rv
  obtain ⟨t, rfl⟩ := ru
  obtain ⟨z, its, n, r, hl, e⟩ := I.lstM hH
  have hs := sizeLine_eq
  obtain ⟨i, hi⟩ : ∃ i : Int, i = (k : Int) := ⟨_, rfl⟩
  rw [← hi]
  have hfit : ¬ (!Builtin.List.listFitsIndex i) = true := by
    have := fitsIndex_both (k := i) (by omega) (by omega)
    rw [this]; decide
  have hsz : its.toArray.size ≤ sizeLine := by rw [List.size_toArray, ← hl]; exact z
  have M := AutoSeq1.list_insert_list_int_val_1 l its.toArray n i t w' hfit hsz
  have hA := F.args_list_insert_3 (.ref l) (.int i t) w'
  refine call_meets F.slot_list_insert ⟨_, e, rfl⟩ F.entry_list_insert hA M ⟨e, ?_⟩
  refine ⟨.non, _, I.lset (its' := its.take k ++ w' :: its.drop k) (ys := xs.take k ++ y :: xs.drop k) hH e ?_ ((r.take k).append (.cons rw' (r.drop k))) ?_, rfl, q⟩
  · have e1 : (if i < 0 then (i + (its.toArray.size : Int)).toNat else min i.toNat its.toArray.size) = k := by
      rw [if_neg (by omega), hi, Int.toNat_natCast, List.size_toArray]
      omega
    show (its.toArray.extract 0 _).push w' ++ its.toArray.extract _ = _
    rw [e1]
    apply Array.toList_inj.mp
    simp
    exact List.take_of_length_le (by rw [List.length_drop]; omega)
  · rw [List.length_append, List.length_cons, List.length_take, List.length_drop, hs]
    omega
def rRepS : R2 := fun x y H Q => ∃ a k, x = .str a ∧ y = .int k ∧ 2 ≤ k ∧ k ≤ 1000 ∧ 1 ≤ a.length ∧ a.length ≤ 100 ∧ Q (.str ⟨(List.replicate k.toNat a.cps).foldl (· ++ ·) #[]⟩) H
theorem fold_len (a : Array Nat) : ∀ (k : Nat) (b : Array Nat), ((List.replicate k a).foldl (· ++ ·) b).size = b.size + k * a.size
  | 0, b => by simp
  | k + 1, b => by
    rw [List.replicate_succ, List.foldl_cons, fold_len a k, Array.size_append, Nat.succ_mul]
    omega
theorem op_repS : OpR X (binaryOp .Mult) rRepS := by
  intro pins s σ H x y v u Q I rx ry h
  obtain ⟨a, k, rfl, rfl, h1, h2, h3, h4, q⟩ := h
  obtain ⟨t, rfl⟩ := rx
  obtain ⟨t', rfl⟩ := ry
  have hs := sizeLine_eq
  have hz : (⟨(List.replicate k.toNat a.cps).foldl (· ++ ·) #[]⟩ : Str).length ≤ sizeLine := by
    show ((List.replicate k.toNat a.cps).foldl (· ++ ·) #[]).size ≤ _
    rw [fold_len, hs]
    have : a.cps.size ≤ 100 := h4
    have : k.toNat * a.cps.size ≤ 1000 * 100 := Nat.mul_le_mul (by omega) this
    show 0 + _ ≤ _
    omega
  refine PySem.P.mul_str ?_ (fun _ _ => ?_) (fun _ _ => ?_) ?_
  · rw [decide_eq_false (by omega), decide_eq_false (by omega)]; rfl
  · have : (2 ^ 63 - 1) / k ≥ (2 ^ 63 - 1) / 1000 := Int.le_ediv_of_mul_le (by omega) (Int.le_trans (Int.mul_le_mul_of_nonneg_left h2 (by decide)) (by decide))
    have : (2 ^ 63 - 1 : Int) / 1000 ≥ 100 := by decide
    omega
  · refine decide_eq_false ?_
    have : a.length * k.toNat ≤ 100 * 1000 := Nat.mul_le_mul h4 (by omega)
    omega
  · rw [if_neg (by omega), if_neg (by
      rw [Bool.or_eq_true]
      rintro (z | z)
      · have := eq_of_beq z; omega
      · have := eq_of_beq z; omega)]
    exact ⟨hz, .str _, H, I.tok _, ⟨_, rfl⟩, q⟩
end
def Asc (x : Str) : Prop := ∀ c ∈ cs x, c < 128
theorem asc_all {x : Str} (h : Asc x) : x.cps.all (· < 128) = true := fig_ascii h
theorem slice_sub (x : Str) (lo hi : Option Int) : (Txt.slice x lo hi).length ≤ x.length ∧ ∀ c ∈ cs (Txt.slice x lo hi), c ∈ cs x := by
  unfold Txt.slice
  split
  · exact ⟨Nat.le_refl _, fun c h => h⟩
  · constructor
    · show (((_ : List Nat).filterMap (x.cps[·]?)).toArray).size ≤ x.length
      rw [List.size_toArray]
      exact Nat.le_trans (List.length_filterMap_le _ _) (PySem.sliceIndices_le _ _ _)
    · intro c h
      have h : c ∈ ((_ : List Nat).filterMap (x.cps[·]?)).toArray.toList := h
      rw [List.toList_toArray] at h
      obtain ⟨i, _, e⟩ := List.mem_filterMap.mp h
      rw [← Array.getElem?_toList] at e
      exact List.mem_of_getElem? e
theorem slice_asc {x : Str} (h : Asc x) (lo hi : Option Int) : Asc (Txt.slice x lo hi) := fun c hc => h c ((slice_sub x lo hi).2 c hc)
theorem part_sub (x y : Str) : (∀ c ∈ cs (Txt.partition x y).1, c ∈ cs x) ∧ (∀ c ∈ cs (Txt.partition x y).2.2, c ∈ cs x) ∧ (Txt.partition x y).1.length ≤ x.length ∧ (Txt.partition x y).2.2.length ≤ x.length := by
  have e := congrArg cs (StrLaws.partition_sum x y)
  rw [cs_app, cs_app] at e
  have l := congrArg List.length e
  rw [List.length_append, List.length_append, cs_len, cs_len, cs_len, cs_len] at l
  refine ⟨fun c h => ?_, fun c h => ?_, by omega, by omega⟩
  · rw [← e]; exact List.mem_append_left _ (List.mem_append_left _ h)
  · rw [← e]; exact List.mem_append_right _ h
theorem join_sub (sep : Str) : ∀ (ws : List Str), ∀ w ∈ ws, (∀ c ∈ cs w, c ∈ cs (Str.join sep ws)) ∧ w.length ≤ (Str.join sep ws).length
  | [], w, h => by simp at h
  | [v], w, h => by
    rw [List.mem_singleton.mp h]
    exact ⟨fun c h => h, Nat.le_refl _⟩
  | v :: u :: r, w, h => by
    have e : Str.join sep (v :: u :: r) = v ++ sep ++ Str.join sep (u :: r) := rfl
    rw [e]
    rcases List.mem_cons.mp h with y | y
    · subst y
      refine ⟨fun c hc => ?_, ?_⟩
      · rw [cs_app, cs_app]; exact List.mem_append_left _ (List.mem_append_left _ hc)
      · rw [Str.length_append, Str.length_append]; omega
    · obtain ⟨h1, h2⟩ := join_sub sep (u :: r) w y
      refine ⟨fun c hc => ?_, ?_⟩
      · rw [cs_app]; exact List.mem_append_right _ (h1 c hc)
      · rw [Str.length_append]; omega
theorem split_sub (x y : Str) : ∀ w ∈ Txt.split x y, (∀ c ∈ cs w, c ∈ cs x) ∧ w.length ≤ x.length := fun w h => by
  have := join_sub y (Txt.split x y) w h
  rw [StrLaws.join_split] at this
  exact this
theorem split_many (x y : Str) : (Txt.split x y).length ≤ x.length + 2 := by
  unfold Txt.split
  split
  · show 1 ≤ _; omega
  · split
    · show 1 ≤ _; omega
    · rw [PySem.length_partsBetween]
      have := StrLaws.occ_length_le x y 0 x.length (x.length + 1)
      omega
theorem join_asc (c : Nat) (hc : c < 128) : ∀ ws : List Str, (∀ w ∈ ws, Asc w) → Asc (Str.join ⟨#[c]⟩ ws)
  | [], _ => fun d h => by simp [cs, Str.join, Str.empty] at h
  | [v], h => h v List.mem_cons_self
  | v :: u :: r, h => by
    have e : Str.join ⟨#[c]⟩ (v :: u :: r) = v ++ ⟨#[c]⟩ ++ Str.join ⟨#[c]⟩ (u :: r) := rfl
    rw [e]
    intro d hd
    rw [cs_app, cs_app] at hd
    rcases List.mem_append.mp hd with y | y
    · rcases List.mem_append.mp y with z | z
      · exact h v List.mem_cons_self d z
      · rw [List.mem_singleton.mp z]; exact hc
    · exact join_asc c hc (u :: r) (fun w hw => h w (List.mem_cons_of_mem _ hw)) d y
theorem app_asc {a b : Str} (h1 : Asc a) (h2 : Asc b) : Asc (a ++ b) := fun d hd => by
  rw [cs_app] at hd
  exact (List.mem_append.mp hd).elim (h1 d) (h2 d)
theorem text_asc (T : List Tm) : Asc (text T) := by
  have ht : ∀ k p, Asc (term k p) := fun k p c hc => by have := term_sg k p c hc; omega
  have hs : ∀ a, Asc (sgs a) := fun a => by
    unfold sgs; split
    · intro c hc; rw [cs_mi] at hc; rw [List.mem_singleton.mp hc]; decide
    · intro c hc; rw [cs_pl] at hc; rw [List.mem_singleton.mp hc]; decide
  have hw : ∀ T : List Tm, ∀ w ∈ words T, Asc w := by
    intro T
    induction T with
    | nil => intro w h; simp [words] at h
    | cons t r ih =>
      intro w h
      rcases List.mem_cons.mp h with rfl | h
      · exact hs _
      · rcases List.mem_cons.mp h with rfl | h
        · exact ht _ _
        · exact ih w h
  cases T with
  | nil => intro c h; simp [text, cs, Str.empty] at h
  | cons t r =>
    refine app_asc ?_ (join_asc 32 (by decide) _ fun w h => ?_)
    · split
      · intro c hc; rw [cs_mi] at hc; rw [List.mem_singleton.mp hc]; decide
      · intro c hc; rw [cs_em] at hc; simp at hc
    · rcases List.mem_cons.mp h with rfl | h
      · exact ht _ _
      · exact hw r w h
theorem wr_asc (f : List Int) : Asc (wr f) := text_asc _
theorem num_lenW {n : Nat} (h : n < 10 ^ 64) : (num n).length ≤ 64 := num_lenk (by decide) h
theorem term_lenW {k p : Nat} (hk : k < 10 ^ 64) (h : p ≤ 12) : (term k p).length ≤ 130 := by
  unfold term
  have h1 := num_lenW hk
  have h2 := letter_len h
  by_cases c : p = 0
  · rw [if_pos c]; omega
  · rw [if_neg c]
    by_cases d : k = 1
    · rw [if_pos d]; omega
    · rw [if_neg d, ← cs_len, cs_app, cs_app, List.length_append, List.length_append, cs_st, cs_len, cs_len]
      show _ + 1 + _ ≤ 130
      omega
structure GW (T : List Tm) : Prop where
  ne : T ≠ []
  few : T.length ≤ 13
  each : ∀ t ∈ T, t.1.natAbs < 10 ^ 64 ∧ t.2 ≤ 12
theorem text_lenW {T : List Tm} (g : GW T) : (text T).length ≤ 4001 := by
  cases T with
  | nil => exact absurd rfl g.ne
  | cons t r =>
    have hw : ∀ (U : List Tm), (∀ u ∈ U, u.1.natAbs < 10 ^ 64 ∧ u.2 ≤ 12) → ∀ w ∈ words U, w.length ≤ 130 := by
      intro U
      induction U with
      | nil => intro _ w h; simp [words] at h
      | cons u U ih =>
        intro hU w h
        rcases List.mem_cons.mp h with rfl | h
        · unfold sgs; split <;> decide +kernel
        · rcases List.mem_cons.mp h with rfl | h
          · exact term_lenW (hU u List.mem_cons_self).1 (hU u List.mem_cons_self).2
          · exact ih (fun v hv => hU v (List.mem_cons_of_mem _ hv)) w h
    have h1 := join_len ⟨#[32]⟩ 130 (term t.1.natAbs t.2 :: words r) fun w h => by
      rcases List.mem_cons.mp h with rfl | h
      · exact term_lenW (g.each t List.mem_cons_self).1 (g.each t List.mem_cons_self).2
      · exact hw r (fun v hv => g.each v (List.mem_cons_of_mem _ hv)) w h
    have h2 : (term t.1.natAbs t.2 :: words r).length ≤ 26 := by
      show (words r).length + 1 ≤ 26
      rw [words_len]
      have := g.few
      have : (t :: r).length = r.length + 1 := rfl
      omega
    have h3 : (⟨#[32]⟩ : Str).length = 1 := rfl
    rw [h3] at h1
    have h4 : (tail0 (t :: r)).length ≤ 4000 := Nat.le_trans h1 (Nat.le_trans (Nat.mul_le_mul_right _ h2) (by decide))
    rw [text_tail0, ← cs_len, cs_app, List.length_append, cs_len (tail0 (t :: r))]
    split
    · rw [cs_mi]; show 1 + _ ≤ _; omega
    · rw [cs_em]; show 0 + _ ≤ _; omega
theorem tl_eachW {f : List Int} (hb : ∀ i, (coef f i).natAbs < 10 ^ 64) (hl : f.length ≤ 13) : ∀ j, (tl f j).length ≤ j ∧ ∀ t ∈ tl f j, t.1.natAbs < 10 ^ 64 ∧ t.2 ≤ 12
  | 0 => ⟨Nat.le_refl _, fun t h => by simp [tl] at h⟩
  | j + 1 => by
    obtain ⟨h1, h2⟩ := tl_eachW hb hl j
    show (tl f j ++ _).length ≤ j + 1 ∧ ∀ t ∈ tl f j ++ _, _
    by_cases c : coef f (f.length - 1 - j) = 0
    · rw [if_pos c, List.append_nil]; exact ⟨by omega, h2⟩
    · rw [if_neg c, List.length_append]
      refine ⟨by show _ + 1 ≤ _; omega, fun t h => ?_⟩
      rcases List.mem_append.mp h with y | y
      · exact h2 t y
      · rw [List.mem_singleton.mp y]; exact ⟨hb _, by show f.length - 1 - j ≤ 12; omega⟩
theorem tms_goodW {f : List Int} (hn : Norm f) (hb : ∀ i, (coef f i).natAbs < 10 ^ 64) (hl : f.length ≤ 13) : GW (tms f) := by
  refine ⟨tms_ne hn, ?_, ?_⟩
  · unfold tms
    by_cases c : f = []
    · rw [if_pos c]; decide
    · rw [if_neg c]; have := (tl_eachW hb hl f.length).1; omega
  · unfold tms
    by_cases c : f = []
    · rw [if_pos c]; intro t h; rw [List.mem_singleton.mp h]; decide
    · rw [if_neg c]; exact (tl_eachW hb hl f.length).2
theorem acc_bd : ∀ (T : List Tm), (∀ t ∈ T, t.1.natAbs < 10 ^ 60 ∧ t.2 ≤ 12) → ∀ q, (acc T q).natAbs ≤ T.length * 10 ^ 60
  | [], _, q => by show (0 : Int).natAbs ≤ _; simp
  | t :: r, h, q => by
    have ih := acc_bd r (fun u hu => h u (List.mem_cons_of_mem _ hu)) q
    have := (h t List.mem_cons_self).1
    show ((if t.2 = q then t.1 else 0) + acc r q).natAbs ≤ (r.length + 1) * 10 ^ 60
    rw [Nat.add_mul]
    have : (if t.2 = q then t.1 else 0).natAbs ≤ 10 ^ 60 := by split <;> omega
    omega
theorem acc_gd {T : List Tm} (h : ∀ t ∈ T, t.1.natAbs < 10 ^ 60 ∧ t.2 ≤ 12) (hl : T.length < 10000) (i : Nat) : (coef (trim (accL T)) i).natAbs < 10 ^ 64 := by
  rw [coef_trim]
  unfold accL
  by_cases c : i < 13
  · rw [coef_map_range c]
    have := acc_bd T h i
    have : T.length * 10 ^ 60 ≤ 9999 * 10 ^ 60 := Nat.mul_le_mul_right _ (by omega)
    have : 9999 * 10 ^ 60 < 10 ^ 64 := by decide
    omega
  · rw [coef_ge (by rw [List.length_map, List.length_range]; omega)]; decide
theorem split_pre {a x : Str} (h : 32 ∉ cs a) : Txt.split (a ++ ⟨#[32]⟩ ++ x) ⟨#[32]⟩ = a :: Txt.split x ⟨#[32]⟩ := by
  have e : a ++ ⟨#[32]⟩ ++ x = Str.join ⟨#[32]⟩ (a :: Txt.split x ⟨#[32]⟩) := by
    refine cs_ext ?_
    rw [join_cs, if_neg (split_ne x _), StrLaws.join_split, cs_app, cs_app, List.append_assoc]
    rfl
  rw [e]
  refine split_join 32 (by simp) fun w hw => ?_
  rcases List.mem_cons.mp hw with y | y
  · rw [y]; exact h
  · exact StrLaws.split_free x 32 w y
theorem slice_1 (x : Str) : Txt.slice x none (some 1) = Str.ofString "-" ↔ (cs x)[0]? = some 45 := by
  rw [s_mi]
  cases e : cs x with
  | nil =>
    have l0 : x.length = 0 := by rw [← cs_len, e]; rfl
    constructor
    · intro h
      have := (slice_sub x none (some 1)).1
      rw [h, l0] at this
      exact absurd this (by decide)
    · intro h; simp at h
  | cons c r =>
    have l1 : 1 ≤ x.length := by rw [← cs_len, e]; simp
    have := beq_iff_eq.mp (slice_closes_toL (x := x) (j := 1) (by omega) (by omega))
    rw [this]
    have e2 : ((x.cps.toList.drop (0 : Int).toNat).take ((1 : Int) - 0).toNat) = [c] := by
      show (List.drop 0 (cs x)).take 1 = [c]
      rw [e]; rfl
    rw [e2]
    constructor
    · intro h
      have : [c] = [45] := congrArg cs h
      rw [(List.cons.inj this).1]; rfl
    · intro h
      have : c = 45 := by simpa using h
      rw [this]
theorem s_plb : Str.ofString "+ " = Str.ofString "+" ++ ⟨#[32]⟩ := by decide +kernel
theorem s_mib : Str.ofString "- " = Str.ofString "-" ++ ⟨#[32]⟩ := by decide +kernel
theorem in_signs (s : Str) : inV (.str s) [.str (Str.ofString "+"), .str (Str.ofString "-")] = decide (s = Str.ofString "+" ∨ s = Str.ofString "-") := by
  show ((Str.ofString "+" == s) || ((Str.ofString "-" == s) || false)) = _
  rw [Bool.or_false, Bool.eq_iff_iff, Bool.or_eq_true, decide_eq_true_iff, beq_iff_eq, beq_iff_eq]
  exact ⟨fun h => h.imp Eq.symm Eq.symm, fun h => h.imp Eq.symm Eq.symm⟩
end L2
set_option Elab.async false
set_option linter.all false
set_option maxRecDepth 100000
set_option maxHeartbeats 1000000
namespace L2
open PySem PySem.Spec PyProof.Rows
section
variable {P : Program} {w : World} {H H' : Hp} {h h' : Heap} {a : Addr} {o : HO}
theorem ObjOk.here (x : ObjOk P w H h a o) : ∃ u, h.get? a = some u := by
  induction o with
  | lst xs => obtain ⟨_, _, _, _, e⟩ := x; exact ⟨_, e⟩
  | tup xs => obtain ⟨_, _, _, ob, e, _⟩ := x; exact ⟨_, e⟩
  | dK kvs => obtain ⟨_, _, _, _, o, _, _, e, _⟩ := x; exact ⟨_, e⟩
  | dT kvs => obtain ⟨_, _, _, _, o, _, _, e, _⟩ := x; exact ⟨_, e⟩
  | set S n => obtain ⟨o, _, _, _, e, _⟩ := x; exact ⟨_, e⟩
  | ins C dx fs => obtain ⟨_, _, _, e, _⟩ := x; exact ⟨_, e⟩
  | own y => obtain ⟨_, e⟩ := x; exact ⟨_, e⟩
  | xd fs => obtain ⟨_, ⟨_, _, _, e, _⟩, _⟩ := x; exact ⟨_, e⟩
  | rng lo hi => obtain ⟨_, _, _, e⟩ := x; exact ⟨_, e⟩
  | frz ob u ih => obtain ⟨e, _⟩ := x; exact ⟨_, e⟩
  | tbl ps => exact ⟨_, (show h.get? a = some _ from x)⟩
  | met f y => exact ⟨_, (show h.get? a = some _ from x)⟩
  | ext φ => obtain ⟨_, ⟨_, e⟩, _⟩ := x; exact ⟨_, e⟩
end
structure Out (P : Program) (w : World) (outer : List Env) (H : Hp) (s : Shared) (C ea : Addr) (H' : Hp) (s' : Shared) : Prop where
  os : s'.os = s.os
  bare : AllBare s'.gens
  un : Un (frs outer) [] H H' s.heap s'.heap
  hok : HOk P w H' s'.heap
  free : H' ea = none
  fly : ∃ (B : Heap) (t : Addr), Heap.FlyingW B outer ea (.ref C) (.ref t) s'.heap ∧ ∀ b o, s'.heap.get? b = some o → ((∃ u, s.heap.get? b = some u) ∨ H' b ≠ none) → b ∉ frs outer → B.get? b = some o
def CXe (P : Program) (w : World) : CXT := fun outer H s E e s' => ∃ ea C H', e = .ref ea ∧ Out P w outer H s C ea H' s' ∧ E e (some C) H'
section
variable {X : Cx} {pins : List (Addr × Obj)} {σ : St} {H1 H' : Hp} {s1 s2 : Shared} {C ea : Addr}
theorem Inv.outOf (J : Inv X pins σ H' s2) (stk : X.stack = X.env :: X.outer) (hf : X.env.frame = some X.env.locals) (hex : X.ex = []) {h3 : Heap} {B : Heap} {t : Addr} (he : H' ea = none) (fl : Heap.FlyingW B X.outer ea (.ref C) (.ref t) h3)
    (hB : ∀ b o, s2.heap.get? b = some o → ((∃ u, X.s₀.heap.get? b = some u) ∨ H' b ≠ none) → b ∉ frs X.stack → B.get? b = some o) (ups : s2.heap.UpToSlots h3) : Out X.prog X.w X.outer X.H₀ X.s₀ C ea H' { s2 with heap := h3 } := by
  have hL : ∀ b, ((∃ u, X.s₀.heap.get? b = some u) ∨ H' b ≠ none) → b ≠ X.env.locals := fun b hc z => by
    rcases hc with ⟨u, h⟩ | h
    · have := Nat.lt_of_lt_of_le (Heap.lt_size h) J.ok.above
      rw [z] at this
      exact absurd this (Nat.lt_irrefl _)
    · rw [z] at h
      exact h J.free
  have hns : ∀ b, ((∃ u, X.s₀.heap.get? b = some u) ∨ H' b ≠ none) → b ∉ frs X.outer → b ∉ frs X.stack := fun b hc hn hm => by
    rcases List.mem_cons.mp (J.stkSub b hm) with e | e
    · exact hL b hc e
    · exact hn e
  have keep : ∀ b u, s2.heap.get? b = some u → ((∃ u, X.s₀.heap.get? b = some u) ∨ H' b ≠ none) → b ∉ frs X.outer → h3.get? b = some u := fun b u hb hc hn => fl.1 _ _ (hB b u hb hc (hns b hc hn))
  have U := J.base
  rw [hex] at U
  have slot : ∀ b o, X.s₀.heap.get? b = some o → X.H₀ b = none → b ∈ frs X.outer → ∃ sl, h3.get? b = some { o with slots := sl } := fun b o e n hb => by
    obtain ⟨sl, h2⟩ := U.slot b o e n hb (by simp)
    obtain ⟨_, o', ho', hd⟩ := J.ok.funs.mem hb
    rw [e] at ho'
    cases ho'
    obtain ⟨sl', h4⟩ := ups b _ h2 hd
    exact ⟨sl', h4⟩
  refine ⟨J.os, J.bare, ⟨fun b o e n hb hx => keep b o (U.keep b o e n hb hx) (.inl ⟨_, e⟩) hb, fun b o e n hb hx => slot b o e n hb, fun b o e n hx => U.free b o e n hx, fun b o e hx => ?_, U.tups, U.frzs, U.tbls⟩, fun a o ha => ?_, he, B, t, fl, fun b o h3b hc hn => ?_⟩
  · by_cases hb : b ∈ frs X.outer
    · obtain ⟨sl, z⟩ := slot b o e (J.ok.frf b hb) hb
      exact ⟨_, z⟩
    · obtain ⟨o', z⟩ := U.there b o e hx
      exact ⟨_, keep b o' z (.inl ⟨_, e⟩) hb⟩
  · refine (J.hok a o ha).stay (fun b u hb hu => ?_) (fun b z => z) fun b xs z => z
    have tr : H' b ≠ none := by
      rcases hb with z | z
      · rw [z, ha]; simp
      · rw [z]; simp
    refine keep b u hu (.inr tr) fun hm => tr ?_
    refine J.stkFree b ?_
    rw [stk]
    obtain ⟨env, he', hfe⟩ := List.mem_filterMap.mp hm
    exact List.mem_filterMap.mpr ⟨env, List.mem_cons_of_mem _ he', hfe⟩
  · obtain ⟨o2, h2⟩ : ∃ o2, s2.heap.get? b = some o2 := by
      rcases hc with ⟨u, e⟩ | z
      · exact U.there b u e (by simp)
      · cases q : H' b with
        | none => exact absurd q z
        | some v => exact (J.hok b v q).here
    have := keep b o2 h2 hc hn
    rw [h3b] at this
    cases this
    exact hB b o h2 hc (hns b hc hn)
theorem Inv.passes (I : Inv X pins σ H1 s1) (stk : X.stack = X.env :: X.outer) (hf : X.env.frame = some X.env.locals) (hex : X.ex = []) (o : Out X.prog X.w X.stack H1 s1 C ea H' s2) {M : Model} {E : Value → Shared → Prop} {Q : Unit → Shared → Prop}
    (q : ∀ s3, Out X.prog X.w X.outer X.H₀ X.s₀ C ea H' s3 → Q () s3) : wpAny M X.A (leaving X.env (.ref ea)) Q E s2 := by
  have J : Inv X pins σ H' s2 := I.call' o.os o.un o.hok o.bare (fun b z => absurd z (by simp))
  obtain ⟨B, t, fl, hB⟩ := o.fly
  have hfr := I.ok.frames
  rw [stk] at hfr fl
  refine wpAny_leaves_onW hfr hf fl fun h3 fl3 ups => q _ (J.outOf stk hf hex o.free fl3 (fun b o' hb hc hn => hB b o' hb ?_ hn) ups)
  refine hc.imp (fun ⟨u, e⟩ => ?_) id
  exact I.base.there b u e (by rw [hex]; simp)
end
section
variable {P : Program} {w : World} {K : PySem.W.Frag} {mg : Str → Option Value} {base : Heap} {N : List Str} {qual : Str} {scope : Scope} {f : Addr} {cd : Value} {A : Around} {outer : List Env} {s : Shared} {H : Hp} {E : XK}
theorem pass_e : Passes (CXe P w) (cxOf (CXe P w) P w K mg base N qual scope f cd A outer s H E) E := fun pins σ H1 s1 e s2 I h => by
  obtain ⟨ea, C, H', rfl, o, hE⟩ := h
  exact I.passes rfl rfl rfl o fun s3 o3 => ⟨ea, C, H', rfl, o3, hE⟩
theorem own_e : PassesOwn (model P w) (cxOf (CXe P w) P w K mg base N qual scope f cd A outer s H E).A (cxOf (CXe P w) P w K mg base N qual scope f cd A outer s H E).env (cxOf (CXe P w) P w K mg base N qual scope f cd A outer s H E).xe := PassesOwn.leaving
end
section
variable {X : Cx} {pins : List (Addr × Obj)} {σ : St} {H1 : Hp} {s1 : Shared} {C ea : Addr}
theorem Inv.raised (J : Inv X pins σ H1 s1) (stk : X.stack = X.env :: X.outer) (hf : X.env.frame = some X.env.locals) (hex : X.ex = []) {h' : Heap} {args : List Value} (hx : Heap.MadeExcOf s1.heap h' ea (.ref C) args) {M : Model} {E : Value → Shared → Prop} {Q : Unit → Shared → Prop}
    (q : ∀ s3, Out X.prog X.w X.outer X.H₀ X.s₀ C ea H1 s3 → Q () s3) : wpAny M X.A (leaving X.env (.ref ea)) Q E { s1 with heap := h' } := by
  have hfr := J.ok.frames
  have hin : ∀ env ∈ X.stack, ∀ b, env.frame = some b → b ∈ frs X.stack := fun env he b hb => List.mem_filterMap.mpr ⟨env, he, hb⟩
  have hl := PySem.W.funFrames_hide J.stack hin
  have he : H1 ea = none := by
    cases z : H1 ea with
    | none => rfl
    | some o =>
      obtain ⟨u, hu⟩ := (J.hok ea o z).here
      rw [hx.new] at hu
      cases hu
  rw [stk] at hfr hl
  refine wpAny_leaves_madeW (base := PySem.W.hideAll s1.heap (frs X.stack)) hfr hf (fun b o z => PySem.W.of_hideAll _ z) (by rw [stk]; exact hl) hx fun h3 t fl _ _ ups => ?_
  exact q _ (J.outOf stk hf hex he fl (fun b o hb _ hn => PySem.W.hideAll_get _ hb hn) ((Heap.UpToSlots.of_keeps hx.keeps).trans ups))
end
def Raises (X : Cx) (E : XK) : Prop := ∀ (pins : List (Addr × Obj)) (σ : St) (H : Hp) (s : Shared) (ea C : Addr) (args : List Value) (h' : Heap), Inv X pins σ H s → Heap.MadeExcOf s.heap h' ea (.ref C) args → E (.ref ea) (some C) H → X.xe (.ref ea) { s with heap := h' }
theorem raises_e {P : Program} {w : World} {K : PySem.W.Frag} {mg : Str → Option Value} {base : Heap} {N : List Str} {qual : Str} {scope : Scope} {f : Addr} {cd : Value} {A : Around} {outer : List Env} {s : Shared} {H : Hp} {E : XK} :
    Raises (cxOf (CXe P w) P w K mg base N qual scope f cd A outer s H E) E := fun pins σ H1 s1 ea C args h' I hx hE => I.raised rfl rfl rfl hx fun s3 o => ⟨ea, C, H1, rfl, o, hE⟩
theorem exc_obj {K : PySem.W.Frag} {h : Heap} {C : Addr} {bmB : List Value} {newId : String} (X : K.In h) (q : PySem.W.excIn K C bmB newId = true) : ∃ (bm : List Value) (N : Addr) (nm qn : Str) (bs : List Value) (hdct : Bool) (sn : List Str) (sub : List Value) (ab : Bool) (col : Option Bool) (dd : Option Addr) (k0 k1 k2 k3 k5 : Option Value) (mN : Str → Option Value),
    h.get? C = some (excClassObj nm qn C N bs bm hdct sn sub ab col dd k0 k1 k2 k3 k5 newId) ∧ h.Ns N mN ∧ mN "__init__" = none ∧ OwnTail h bmB bm := by
  rw [PySem.W.excIn.eq_1] at q
  split at q <;> try contradiction
  next dict data slots found =>
    split at q <;> try contradiction
    next D tail s0 s1 s2 s3 id s5 isMro isSlots =>
      rw [Bool.and_eq_true, Bool.and_eq_true, Bool.and_eq_true, Bool.and_eq_true, Bool.and_eq_true] at q
      obtain ⟨⟨⟨⟨⟨c1, c2⟩, c3⟩, c4⟩, c5⟩, c6⟩ := q
      have c1 := eq_of_beq c1
      have c2 := eq_of_beq c2
      have c6 := eq_of_beq c6
      subst c1
      subst c2
      obtain ⟨n1, b1, m1, ns1, q1, d1, l1, u1, a1, o1, e1⟩ := data
      have c3 : e1 = false := by simpa using c3
      have isMro : m1 = _ := isMro
      rw [isMro, c3] at found
      have es : slots = #[s0, s1, s2, s3, some (.builtin id), s5] := by
        rw [← isSlots]
      rw [es] at found
      exact ⟨tail, ns1, n1, q1, b1, d1, l1, u1, a1, o1, dict, s0, s1, s2, s3, s5, _, X _ _ found, .of_isNs (PySem.W.isNs_of_in X c5), PySem.W.nsMap_none_of_in X c5 c6, PySem.W.tail_of_in X c4⟩
def tRaise (C : Addr) (E : XK) (t : TA) : TS := fun _ σ H => t σ H fun vs H1 => vs.length ≤ sizeLine ∧ ∀ ea, H1 ea = none → E (.ref ea) (some C) H1
theorem ps_raise {X : Cx} {E : XK} {x : Str} {C : Addr} {bmB bmN : List Value} {B Bn newId nid initId inN : String} {np cpos pos : Pos} {e : Expr} {es : List Expr} {t : TA} (hx : Raises X E) (hc : X.calm = true) (hg : Gl X x) (hm : X.mg x = some (.ref C)) (q : PySem.W.excIn X.K C bmB newId = true)
    (Fn : ExcBaseFacts Bn newId inN bmN) (hBn : bmB.contains (.type Bn) = true) (F : ExcBaseFacts B nid initId bmB) (ha : PA X (e :: es) t) (hd : (x == ("__debug__" : Str)) = false := by decide)
    (he : starEach (e :: es) X.env = (false, eval e X.env) :: starEach es X.env := by rfl) (hpl : (backTo cpos (starEach es X.env)).any (·.1) = false := by rfl) : PS X (.Raise (some (.Call (.Name x np) (e :: es) [] cpos)) none pos) (tRaise C E t) := by
  refine ⟨?_⟩
  intro pins s σ H D I h
  obtain ⟨v1, v2, v3, v4, v5, v6, v7, v8, v9, w1, w2, w3, w4, w5, w6, w7, mN, isC, isN, hni, TL⟩ := exc_obj I.mod.kin q
  refine wpAny_Raise_call_subU (bm := v1) (N := v2) (nm := v3) (q := v4) (bs := v5) (hdct := v6) (sn := v7) (sub := v8) (ab := v9) (col := w1) (dd := w2) (k0 := w3) (k1 := w4) (k2 := w5) (k3 := w6) (k5 := w7) (C := C) Fn hBn F (TL.hasType F.hasBase) (I.ok.hd hc) ?_ hni (ld_glob I hg hm ⟨rfl, ?_⟩ hd)
  · rw [he]
    show (false || (backTo cpos (starEach es X.env)).any (·.1)) = false
    rw [hpl]
    rfl
  · rw [he]
    have run := ha cpos pins s σ H _ I h
    rw [he] at run
    refine Calls.evalArgs_plain (thn run fun us s1 z => ?_)
    · obtain ⟨vs, J, I1, r, hl, hE⟩ := z
      refine ⟨rfl, by rw [← r.length]; exact hl, I1.bk _ _ isC, isN.keeps I1.bk, TL.keeps I1.bk, fun h' ea hm => hx pins σ J s1 ea C us h' I1 hm (hE ea ?_)⟩
      cases z : J ea with
      | none => rfl
      | some o =>
        obtain ⟨u, hu⟩ := (I1.hok ea o z).here
        rw [hm.new] at hu
        cases hu
structure DfnE (P : Program) (w : World) (K : PySem.W.Frag) (mg : Str → Option Value) (base : Heap) (k : Nat) (x : Str) (ps : List Str) (sp : Sp) : Prop where
  ex : ∃ f fd, FnOk P w K mg base (CXe P w) k f fd ps sp ∧ Binds K fd ps [] ∧ PySem.W.keepIn K (.ref f) = true ∧ mg x = some (.ref f)
section
variable {P : Program} {w : World} {K : PySem.W.Frag} {mg : Str → Option Value} {base : Heap}
theorem Src.okE {x : Str} {st : Stmt} {N ps : List Str} {k : Nat} {sp : Sp} (F : Src K mg x st ps) (S : FnScope N ps (defScope st)) (len : ∀ vs H Q E, sp vs H Q E → vs.length = ps.length)
    (body : ∀ (f : Addr) (cdv : Value) (A : Around) (outer : List Env) (s : Shared) (H : Hp) (vs : List V) (Q : VK) (E : XK), Room k (A.deeper (envOfC x (defScope st) s.heap.objs.size f cdv)) → sp vs H Q E →
      ∃ t, PSs (cxOf (CXe P w) P w K mg base N x (defScope st) f cdv A outer s H E) (defBody st) t ∧ t { nx := fun _ H' => Q .non H', rt := Q } (start N vs) H) : DfnE P w K mg base (k + 1) x ps sp := by
  obtain ⟨f, fd, G, B, M⟩ := F.ex
  have kp := G.kp
  obtain ⟨_, _, _, _, _, _, cdv, _, _, rfl, lk, hcd⟩ := G.ex
  exact ⟨f, _, fn_of lk hcd S len (body f cdv), B, kp, M⟩
end
theorem pe_defE {X : Cx} {E : XK} {k n : Nat} {x : Str} {ps : List Str} {sp : Sp} {e : Expr} {es : List Expr} {t : TA} {p pos : Pos} (D : DfnE X.prog X.w X.K X.mg X.base k x ps sp) (hp : Passes (CXe X.prog X.w) X E) (hr : Room n X.A) (ha : PA X (e :: es) t) (hle : k ≤ n := by decide) (hg : Gl X x := by rfl)
    (hdb : (x == ("__debug__" : Str)) = false := by decide) (he : starEach (e :: es) X.env = (false, eval e X.env) :: starEach es X.env := by rfl) (hpl : (backTo pos (starEach es X.env)).any (·.1) = false := by rfl) :
    PE X (.Call (.Name x p) (e :: es) [] pos) (tCall sp [] E t) := by
  obtain ⟨f, fd, F, B, kp, M⟩ := D.ex
  exact pe_call F (hr.mono hle) hg M kp B .nil hp ha hdb he hpl
end L2
set_option Elab.async false
set_option linter.all false
set_option maxRecDepth 100000
set_option maxHeartbeats 1000000
namespace L2
open PySem PySem.Spec PySem.W PyProof.Rows PySem.Calls PySem.Builtin PySem.Builtin.ObjectAttr PySem.Builtin.Getset_descriptor
def ExAt (a C : Addr) (h : Heap) : Prop := ∃ o vs, h.get? a = some o ∧ o.cls = .ref C ∧ o.data = .fields vs
structure ExcK (K : PySem.W.Frag) (C : Addr) : Prop where
  ga : findIn K (.ref C) "__getattribute__" = some (some (.builtin "BaseException.__getattribute__"))
  no : findIn K (.ref C) "__getattr__" = some none
  at_ : findIn K (.ref C) "__class__" = some (some (.builtin "object.__class__"))
  get : specialIn K (.builtin "object.__class__") "__get__" = some (some (.builtin "getset_descriptor.__get__"))
  tk : takesIn K (.builtin "object.__class__") = some true
  ob : mroIn K C (.type "object") = some true
  be : mroIn K C (.type "BaseException") = some true
section
variable {prog : Program} {w : World} {A : Around} {E : Value → Shared → Prop} {s : Shared} {K : PySem.W.Frag} {x C : Addr}
theorem ExAt.type {M : Model} {h : Heap} (I : ExAt x C h) : Looks M h (typeOf (.ref x)) (.ref C) := by
  obtain ⟨o, vs, h1, h2, _⟩ := I
  exact h2 ▸ (Looks.ld h1).andThen .now
theorem exc_get {R : Result → Shared → Prop} {tp : Value} (X : K.In s.heap) (I : ExAt x C s.heap) (hm : mroIn K C (.type "object") = some true)
    (h : R (.ok (.ret (.ref C))) s) : codeAny (model prog w) A (.call (.builtin "getset_descriptor.__get__") ⟨[.builtin "object.__class__", .ref x, tp], []⟩) R s := by
  obtain ⟨hh, g, dr, t, os⟩ := s
  have L0 := I.type (M := model prog w)
  have L1 := looks_mroIn (M := model prog w) X hm
  refine codeAny_call_builtin KF.slot_gs.plain KF.entry_gs (KF.slot_gs.check _ _ _ _ _ _ _ _ KF.type_class (KF.args_gs _ _ _) ?_)
  unfold Builtin.«getset_descriptor.__get__» descrGet
  rw [dga_obj]
  refine wpAny_bind (wpAny_pure ?_)
  unfold descrGetter descrCheckInstance descrNameAndClass isInstance
  simp only [KF.owner_class]
  repeat lk
  refine ⟨Code.quiet_builtin _ (by decide +kernel), codeAny_builtin KF.entry_class ?_⟩
  unfold Builtin.«object.__class__» shownTypeOf
  repeat lk
  exact h
theorem exc_find {M : Model} {h : Heap} (X : K.In h) (k : ExcK K C) : Looks M h (find (.ref x) (.ref C) "__class__") (.bind (.builtin "getset_descriptor.__get__") (.builtin "object.__class__")) := by
  have L1 := looks_findIn (M := M) X k.at_
  have L2 : Looks M h (getOf (some (.builtin "object.__class__"))) (some (.builtin "getset_descriptor.__get__")) := looks_specialIn X k.get
  have L3 := looks_takesIn (M := M) X k.tk
  exact L1.andThen (L2.andThen ((show Looks M h (dataDescriptor? (some (.builtin "object.__class__")) (some (.builtin "getset_descriptor.__get__"))) (some (.builtin "getset_descriptor.__get__", .builtin "object.__class__")) from L3.andThen .now).andThen (Looks.tag .now)))
theorem exc_check {M : Model} {nameV : Value} {Q : Unit → Shared → Prop} (X : K.In s.heap) (k : ExcK K C) (I : ExAt x C s.heap) (hq : Q () s) : wpAny M A (checkBuiltinCall "BaseException.__getattribute__" ⟨[.ref x, nameV], []⟩) Q E s := by
  have hk : builtinKind "BaseException.__getattribute__" = some .slot := by decide +kernel
  have hsplit : splitId "BaseException.__getattribute__" = some ("BaseException", "__getattribute__") := by decide +kernel
  have ha := F.args_bexc_ga (.ref x) nameV
  have L0 := I.type (M := M)
  have L1 := looks_mroIn (M := M) X k.be
  obtain ⟨hh, g, dr, t, os⟩ := s
  simp only [checkBuiltinCall, hk, hsplit]
  refine wpAny_bind ?_
  unfold isInstance
  repeat (first | lk | wp_step)
  exact hq
theorem exc_class {Q : Option Value → Shared → Prop} (X : K.In s.heap) (k : ExcK K C) (I : ExAt x C s.heap) (h : Q (some (.ref C)) { s with toks := s.toks + 1 }) : wpAny (model prog w) A (getAttr? (.ref x) "__class__") Q E s := by
  obtain ⟨hh, g, d, t, os⟩ := s
  have L0 := I.type (M := model prog w)
  have L1 := looks_findIn (M := model prog w) X k.ga
  have L2 := looks_findIn (M := model prog w) X k.no
  have LF := exc_find (M := model prog w) (x := x) X k
  have f3 := F.excAttr_ValueError.ga.bind (.ref x)
  have hx2 : (Value.builtin "BaseException.__getattribute__" == Value.builtin "object.__getattribute__") = false := by decide +kernel
  have hx1 : (onTheHeap (Value.ref C) && Value.builtin "BaseException.__getattribute__" == Value.builtin "object.__getattribute__") = false := by rw [hx2]; rfl
  unfold getAttr? getAttrBy? getAttrBy
  refine wpAny_bind (wpAny_mkText (wpAny_bind (wpAny_attempt (wpAny_holding (wpAny_bind (L0.at (wpAny_bind (L1.at ?_))))))))
  dsimp only
  rw [if_neg (by rw [hx1]; decide)]
  unfold getAttrByItsOwn hookBefore
  rw [if_pos (show onTheHeap (Value.ref C) = true from rfl)]
  refine wpAny_bind (L2.at ?_)
  refine wpAny_bind (wpAny_attempt (wpAny_holding ?_))
  unfold callGetattribute
  rw [if_neg (by decide)]
  unfold boundAndCalled
  rw [f3]
  refine wpAny_bind (wpAny_pure ?_)
  refine wpAny_call (codeAny_call_builtin F.excAttr_ValueError.ga.plain F.entry_bexc_ga (exc_check (K := K) (C := C) X k I ?_))
  have f4 : attrName (Value.str ("__class__" : Str) t) = pure "__class__" := rfl
  have e0 : slotArgs "__getattribute__" 1 ⟨[Value.ref x, .str "__class__" t], []⟩ = pure (.ref x, [.str "__class__" t]) := rfl
  unfold Builtin.«object.__getattribute__»
  show wpAny _ _ (slotArgs "__getattribute__" 1 ⟨[Value.ref x, .str "__class__" t], []⟩ >>= _) _ _ _
  rw [e0]
  refine wpAny_bind (wpAny_pure ?_)
  dsimp only
  rw [f4]
  refine wpAny_bind (wpAny_pure (wpAny_bind (L0.at (wpAny_bind (LF.at ?_)))))
  dsimp only
  unfold bindTo
  dsimp only
  refine wpAny_bind (wpAny_holding (wpAny_call (exc_get (K := K) (C := C) X I k.ob ?_)))
  refine wpAny_pure ?_
  exact handed_on rfl (wpAny_pure h)
end
section
variable {K : PySem.W.Frag}
theorem kitx_exc {x C : Addr} (k : ExcK K C) : KitX K (.ref x) (.ref C) (ExAt x C) where
  ty := fun _ _ _ I => I.type
  it := fun _ _ X _ => by
    obtain ⟨cd, hcD, _⟩ := Option.bind_eq_some_iff.mp k.ob
    unfold clsIn at hcD
    split at hcD
    · rename_i c' d' cd' sl' ho
      intro A' Q' E' s' k q
      unfold isType loadHead
      exact wpAny_bind (wpAny_loadPart (k _ _ (X _ _ ho)) (wpAny_pure q))
    · cases hcD
  ne := fun h tp dd its n sl X htp => by
    obtain ⟨cd, hcD, _⟩ := Option.bind_eq_some_iff.mp k.ob
    refine Bool.eq_false_iff.mpr fun q => ?_
    have e : C = tp := Value.ref.inj (beq_iff_eq.mp q)
    subst e
    unfold clsIn at hcD
    split at hcD
    · rename_i c' d' cd' sl' ho
      have z := (X _ _ ho).symm.trans htp
      cases z
    · cases hcD
  ca := fun X I q => exc_class X k I q
end
inductive Ksi (K : PySem.W.Frag) (H : Hp) (C : Addr) : V → Bool → Prop where
  | ty {T : String} {b : Bool} (h : kitOne K (.ref C) (.type T) = some b) : Ksi K H C (.ty T) b
  | own {D : Addr} {b : Bool} (h : kitOne K (.ref C) (.ref D) = some b) : Ksi K H C (.ref D) b
  | tup {a : Addr} {cs : List Addr} {b : Bool} (e : H a = some (.tup (cs.map V.ref))) (h : kitAny K (.ref C) (cs.map Value.ref) = some b) : Ksi K H C (.ref a) b
theorem vals_refs : ∀ {cs : List Addr} {us : List Value}, Vals (cs.map V.ref) us → us = cs.map Value.ref
  | [], _, r => by cases r; rfl
  | c :: cs, _, r => by
    cases r with
    | cons r1 r2 =>
      cases (show _ = Value.ref c from r1)
      rw [vals_refs r2]
      rfl
def rIsiE (K : PySem.W.Frag) : List V → Hp → VK → Prop := fun xs H Q => ∃ a C c b, xs = [.ref a, c] ∧ H a = some (.ext (ExAt a C)) ∧ ExcK K C ∧ Ksi K H C c b ∧ Q (.bl b) H
section
variable {X : Cx}
theorem call_isiE : CallR X (.builtin "isinstance") (rIsiE X.K) := by
  intro pins s σ H xs us Q I rv h
  obtain ⟨a, C, c, b, rfl, ha, k, kb, q⟩ := h
  obtain ⟨u, w', rfl, rx, rt⟩ := vals2 rv
  cases (show u = Value.ref a from rx)
  have fin : ∀ tk, EP X pins σ Q (.bool b) { s with toks := tk } := fun tk => ⟨.bl b, H, I.tok tk, rfl, q⟩
  have hE : ExAt a C s.heap := (I.hok a _ ha).1
  cases kb with
  | ty h => cases (show w' = Value.type _ from rt); exact kia_one (kitx_exc k) I.kIn hE h (fun z => nomatch z) fin
  | own h => cases (show w' = Value.ref _ from rt); exact kia_one (kitx_exc k) I.kIn hE h (fun z => nomatch z) fin
  | tup e h =>
    cases (show w' = Value.ref _ from rt)
    obtain ⟨its, r, tt, _⟩ := I.tuple (SqT.of e)
    have er := vals_refs r
    subst er
    obtain ⟨o, h1, h2, h3⟩ := tt
    obtain ⟨oc, od, oda, osl⟩ := o
    dsimp only at h2 h3
    subst h2
    obtain ⟨n, h3⟩ := h3
    subst h3
    exact kia_tup (kitx_exc k) I.kIn hE h1 h (fun z => nomatch z) fin
theorem callK_isiE {K : PySem.W.Frag} (h : X.K = K) : CallR X (.builtin "isinstance") (rIsiE K) := by subst h; exact call_isiE
end
section
variable {X : Cx} {pins : List (Addr × Obj)} {σ : St} {H1 H' : Hp} {s1 s2 : Shared} {C ea : Addr}
theorem Inv.caught (I : Inv X pins σ H1 s1) (o : Out X.prog X.w X.stack H1 s1 C ea H' s2) : ∃ (B : Heap) (t : Addr), Heap.FlyingW B X.stack ea (.ref C) (.ref t) s2.heap ∧
    ∀ h5, Heap.FlyingW B X.stack ea (.ref C) (.ref t) h5 → s2.heap.UpToSlots h5 → Inv X pins σ (upd H' ea (.ext (ExAt ea C))) { s2 with heap := h5 } := by
  obtain ⟨B, t, fl, hB⟩ := o.fly
  refine ⟨B, t, fl, fun h5 f5 ups => ?_⟩
  have nofr : ea ∉ frs X.stack := fun hb => by
    obtain ⟨_, o', ho', hd⟩ := f5.2.2.1.mem hb
    obtain ⟨oe, vs, he, _, hdd, _⟩ := f5.first
    rw [he] at ho'
    cases ho'
    exact hd vs hdd
  have fresh : ∀ u, s1.heap.get? ea ≠ some u := fun u z => by
    obtain ⟨o2, h2⟩ := o.un.there ea u z (by simp)
    have := hB ea o2 h2 (.inl ⟨_, z⟩) nofr
    rw [f5.2.1] at this
    cases this
  have keep : ∀ b u, s2.heap.get? b = some u → ((∃ u, s1.heap.get? b = some u) ∨ H' b ≠ none) → b ∉ frs X.stack → h5.get? b = some u := fun b u hb hc hn => f5.1 _ _ (hB b u hb hc hn)
  have slot : ∀ b o', s1.heap.get? b = some o' → H1 b = none → b ∈ frs X.stack → ∃ sl, h5.get? b = some { o' with slots := sl } := fun b o' e n hb => by
    obtain ⟨sl, h2⟩ := o.un.slot b o' e n hb (by simp)
    obtain ⟨_, oo, ho', hd⟩ := I.stack.mem hb
    rw [e] at ho'
    cases ho'
    obtain ⟨sl', h4⟩ := ups b _ h2 hd
    exact ⟨sl', h4⟩
  have ne : ∀ b o', H' b = some o' → b ≠ ea := fun b o' z w => by rw [w, o.free] at z; cases z
  refine I.call' (s' := { s2 with heap := h5 }) o.os ⟨fun b o' e n hb hx => keep b o' (o.un.keep b o' e n hb hx) (.inl ⟨_, e⟩) hb, fun b o' e n hb hx => slot b o' e n hb, fun b o' e n hx => ?_, fun b o' e hx => ?_, fun b xs z => ?_, fun b o' u z => ?_, fun b ps z => ?_⟩ (fun a u ha => ?_) o.bare (fun b z => absurd z (by simp))
  · have : b ≠ ea := fun z => fresh o' (z ▸ e)
    rw [upd_ne this]
    exact o.un.free b o' e n hx
  · by_cases hb : b ∈ frs X.stack
    · obtain ⟨sl, z⟩ := slot b o' e (I.stkFree b hb) hb
      exact ⟨_, z⟩
    · obtain ⟨o2, z⟩ := o.un.there b o' e hx
      exact ⟨_, keep b o2 z (.inl ⟨_, e⟩) hb⟩
  · have := o.un.tups b xs z
    rw [upd_ne (ne b _ this)]; exact this
  · have := o.un.frzs b o' u z
    rw [upd_ne (ne b _ this)]; exact this
  · obtain ⟨m, this⟩ := o.un.tbls b ps z
    exact ⟨m, by rw [upd_ne (ne b _ this)]; exact this⟩
  · by_cases c : a = ea
    · subst c
      rw [upd_same] at ha
      cases ha
      obtain ⟨oe, vs, he, hc, hdd, _⟩ := f5.first
      refine ⟨⟨oe, vs, he, hc, hdd⟩, ⟨_, he⟩, fun h1 h2 z k => ?_⟩
      obtain ⟨o1, v1, z1, z2, z3⟩ := z
      exact ⟨o1, v1, k _ z1, z2, z3⟩
    · rw [upd_ne c] at ha
      have tr : ∀ b, (b = a ∨ H' b = some (.own a)) → H' b ≠ none := fun b hb => by
        rcases hb with z | z
        · rw [z, ha]; simp
        · rw [z]; simp
      refine (o.hok a u ha).stay (fun b v hb hv => ?_) (fun b z => by rw [upd_ne (ne b _ z)]; exact z) fun b xs z => by rw [upd_ne (ne b _ z)]; exact z
      refine keep b v hv (.inr (tr b hb)) fun hm => tr b hb ?_
      obtain ⟨_, o', ho', hd⟩ := I.stack.mem hm
      exact o.un.free b o' ho' (I.stkFree b hm) (by simp)
end
abbrev Cx.bears (X : Cx) (pn : List (Addr × Obj)) : Cx := { X with pn := pn }
abbrev Cx.inTry (X : Cx) (pn : List (Addr × Obj)) (E : XK) : Cx := (X.bears pn).wish fun e s' => ∃ pins σ H1 s1, Inv (X.bears pn) pins σ H1 s1 ∧ CXe X.prog X.w X.stack H1 s1 E e s'
abbrev Cx.inExc (X : Cx) (ea : Addr) : Cx := { X with A := X.A.mark (some (.ref ea)), calm := false, xe := fun _ _ => False }
section
variable {X : Cx} {pins pn : List (Addr × Obj)} {σ : St} {H : Hp} {s : Shared} {ea : Addr}
theorem Cx.Ok.bears (ok : X.Ok) (pn : List (Addr × Obj)) : (X.bears pn).Ok :=
  ⟨ok.mod, ok.kind, ok.glob, ok.blt, ok.above, ok.inj, ok.has, ok.cab, ok.hd, ok.frames, ok.stk, ok.exf, ok.bs, ok.bsz, ok.noex, ok.exfs, ok.funs, ok.frf⟩
theorem Cx.Ok.unbears (ok : (X.bears pn).Ok) : X.Ok :=
  ⟨ok.mod, ok.kind, ok.glob, ok.blt, ok.above, ok.inj, ok.has, ok.cab, ok.hd, ok.frames, ok.stk, ok.exf, ok.bs, ok.bsz, ok.noex, ok.exfs, ok.funs, ok.frf⟩
theorem Inv.bears (I : Inv X pins σ H s) : Inv (X.bears (X.pn ++ pins)) [] σ H s := ⟨I.ok.bears _, I.os, I.bare, I.base, I.loc, I.cell, I.free, I.freeC, fun p hp => I.pin p (by rw [List.append_nil] at hp; exact hp), I.hok, I.len⟩
theorem Inv.unbears {pl : List (Addr × Obj)} (I : Inv (X.bears (X.pn ++ pins)) pl σ H s) : Inv X pins σ H s := ⟨I.ok.unbears, I.os, I.bare, I.base, I.loc, I.cell, I.free, I.freeC, fun p hp => I.pin p (List.mem_append_left _ hp), I.hok, I.len⟩
theorem SP.unbears {D : Ends} {f : Flow} (h : SP (X.bears (X.pn ++ pins)) [] D f s) : SP X pins D f s := by
  cases f with
  | next => obtain ⟨σ', H', I, q⟩ := h; exact ⟨σ', H', I.unbears, q⟩
  | brk => obtain ⟨σ', H', I, q⟩ := h; exact ⟨σ', H', I.unbears, q⟩
  | cont => obtain ⟨σ', H', I, q⟩ := h; exact ⟨σ', H', I.unbears, q⟩
  | ret u => obtain ⟨v, σ', H', I, r, q⟩ := h; exact ⟨v, σ', H', I.unbears, r, q⟩
theorem Cx.Ok.inExc (ok : X.Ok) (ea : Addr) : (X.inExc ea).Ok :=
  ⟨ok.mod, ok.kind, ok.glob, ok.blt, ok.above, ok.inj, ok.has, ok.cab, (fun z => nomatch z), ok.frames, ok.stk, ok.exf, ok.bs, ok.bsz, ok.noex, ok.exfs, ok.funs, ok.frf⟩
theorem Inv.inExc (I : Inv X pins σ H s) (ea : Addr) : Inv (X.inExc ea) pins σ H s := ⟨I.ok.inExc ea, I.os, I.bare, I.base, I.loc, I.cell, I.free, I.freeC, I.pin, I.hok, I.len⟩
theorem Inv.outExc (ok : X.Ok) (I : Inv (X.inExc ea) pins σ H s) : Inv X pins σ H s := ⟨ok, I.os, I.bare, I.base, I.loc, I.cell, I.free, I.freeC, I.pin, I.hok, I.len⟩
theorem pass_try {E : XK} : Passes (CXe X.prog X.w) (X.inTry pn E) E := fun pins σ H s e s' I h => ⟨pins, σ, H, s, I.unwish, h⟩
theorem Inv.forgot (I : Inv X pins σ H s) {h' : Heap} {m' : Str → Option Value} {t' : Nat} (hn : h'.Ns X.env.locals m') (hs : Heap.SameBut X.env.locals s.heap h') : Inv X pins (List.replicate X.N.length none) H { s with heap := h', toks := t' } := by
  have ne : ∀ b o, X.s₀.heap.get? b = some o → b ≠ X.env.locals := fun b o e => Nat.ne_of_lt (Nat.lt_of_lt_of_le (Heap.lt_size e) I.ok.above)
  refine ⟨I.ok, I.os, I.bare, ⟨fun b o e n hb hx => (hs.2 b (ne b o e)).trans (I.base.keep b o e n hb hx), fun b o e n hb hx => ?_, I.base.free, fun b o e hx => ?_, I.base.tups, I.base.frzs, I.base.tbls⟩, ⟨m', hn, fun i x v e1 e2 e3 => ?_⟩, fun x c e => ?_, I.free, I.freeC, fun p hp => ?_, fun b ob e => ?_, by rw [List.length_replicate]⟩
  · obtain ⟨sl, z⟩ := I.base.slot b o e n hb hx
    exact ⟨sl, (hs.2 b (ne b o e)).trans z⟩
  · obtain ⟨o', z⟩ := I.base.there b o e hx
    exact ⟨o', (hs.2 b (ne b o e)).trans z⟩
  · rw [List.getElem?_replicate] at e2
    split at e2 <;> cases e2
  · obtain ⟨v, z⟩ := I.cell x c e
    exact ⟨v, z.sameBut hs (I.cne x c e)⟩
  · obtain ⟨z1, z2, z3, z4, z5⟩ := I.pin p hp
    exact ⟨(hs.2 _ z3).trans z1, z2, z3, z4, z5⟩
  · refine (I.hok b ob e).stay (fun c w' hc q => (hs.2 c ?_).trans q) (fun _ q => q) fun _ _ q => q
    rintro rfl
    rcases hc with z | z
    · rw [← z, I.free] at e; cases e
    · rw [I.free] at z; cases z
end
def tTry (K : PySem.W.Frag) (i len : Nat) (D : Addr) (tb : XK → TS) (ts : TS) : TS := fun Dn σ H => tb (fun e C H' => ∃ c, C = some c ∧ exmOne K (.ref c) (.ref D) = some true ∧ ∀ (ea : Addr) (σ' : St), e = .ref ea → H' ea = none → σ'.length = len →
  ts { nx := fun _ H2 => Dn.nx (List.replicate len none) H2, rt := Dn.rt, bk := fun _ H2 => Dn.bk (List.replicate len none) H2, ct := fun _ H2 => Dn.ct (List.replicate len none) H2 } (σ'.set i (some (.ref ea))) (upd H' ea (.ext (ExAt ea c)))) Dn σ H
theorem ps_try {X : Cx} {i : Nat} {n x : Str} {D : Addr} {body suite : List Stmt} {b₀ : Stmt} {tb : XK → TS} {ts : TS} {np hpos pos : Pos} (hf : X.stack = X.env :: X.outer ∧ X.env.frame = some X.env.locals) (hN : X.N.Nodup) (hi : X.N[i]? = some n) (hl : X.env.kindOf n = some .local)
    (hg : Gl X x) (hm : X.mg x = some (.ref D)) (hb : ∀ pn E, PSs (X.inTry pn E) body (tb E)) (hs : ∀ ea, PSs (X.inExc ea) (b₀ :: suite) ts) (hd : (x == ("__debug__" : Str)) = false := by decide) :
    PS X (.Try body [.ExceptHandler (some (.Name x np)) (some n) (b₀ :: suite) hpos] [] [] pos) (tTry X.K i X.N.length D tb ts) := by
  refine ⟨?_⟩
  intro pins s σ H Dn I h
  refine wpAny_Try_except (wpAny_mono ((hb (X.pn ++ pins) _).1 [] s σ H Dn (I.bears.wish _) h) (fun f s1 q => ?_) fun e s2 q => ?_)
  · have q := q.unwish.unbears
    cases f with
    | next => exact wpAny_execs_nil q
    | brk => exact q
    | cont => exact q
    | ret u => exact q
  · obtain ⟨pl, σ1, H1, s1, I1, ea, C, H', rfl, o, c, hc, hx, hts⟩ := q
    cases hc
    have I1 := I1.unbears
    obtain ⟨B, t, fl, nxt⟩ := I1.caught o
    have hfr := I1.ok.frames
    rw [hf.1] at hfr fl nxt
    refine wpAny_looks_onW hfr hf.2 fl fun h3 held3 u3 => ?_
    refine wpAny_landsW held3 fun h4 f4 u4 => ?_
    have J4 := (nxt h4 f4 (u3.trans u4)).inExc ea
    refine wpAny_handleBy_cons (codeAny_handlers_test (ld_glob (X := X.inExc ea) J4 hg hm ?_ hd)) (by intro q; cases q)
    have hE4 : ExAt ea C h4 := (J4.hok ea _ upd_same).1
    refine (exm_one (K := X.K) J4.kIn hE4.type hx).at ?_
    refine codeAny_handlers_suite_as ?_
    refine lands_againW f4 fun h5 f5 u5 => ?_
    have J5 := (nxt h5 f5 ((u3.trans u4).trans u5)).inExc ea
    refine store_ok (X := X.inExc ea) J5 hN hi (.inl hl) (v := .ref ea) rfl (fun s6 I6 => ?_) (.inr hl)
    refine wpAny_mono ((hs ea).1 pins s6 _ _ _ I6 (hts ea σ1 rfl o.free I1.len)) (fun f s7 q => ?_) fun _ _ z => False.elim z
    have hcls : (X.env.scope.kind == .class || (X.env.scope.kind == .module && X.env.locals != X.env.globals)) = false := by rw [I.ok.kind]; rfl
    have gone : ∀ σ' H2, Inv (X.inExc ea) pins σ' H2 s7 → ∀ Q : Unit → Shared → Prop, (∀ s8, Inv X pins (List.replicate X.N.length none) H2 s8 → Q () s8) → wpAny (model X.prog X.w) X.A (do bindName X.env n .none; unbindBehindTheSuite X.env n hpos) Q X.xe s7 := fun σ' H2 I7 Q k => by
      obtain ⟨m, hn, _⟩ := id I7.loc
      exact wpAny_nameGoes hl hn hcls fun h' m' hn' hs' => k _ ((I7.outExc I.ok).forgot hn' hs')
    cases f with
    | next => obtain ⟨σ', H2, I7, z⟩ := q; exact gone _ _ I7 _ fun s8 I8 => ⟨_, _, I8, z⟩
    | brk => obtain ⟨σ', H2, I7, z⟩ := q; exact gone _ _ I7 _ fun s8 I8 => ⟨_, _, I8, z⟩
    | cont => obtain ⟨σ', H2, I7, z⟩ := q; exact gone _ _ I7 _ fun s8 I8 => ⟨_, _, I8, z⟩
    | ret u => obtain ⟨v, σ', H2, I7, r, z⟩ := q; exact gone _ _ I7 _ fun s8 I8 => ⟨v, _, _, I8, r, z⟩
section
variable {K : PySem.W.Frag} {N C : Addr} {b : Bool}
theorem cls_of (hm : mroIn K C (.type "object") = some true) : (clsIn K C).isSome = true := by
  obtain ⟨cd, hcD, _⟩ := Option.bind_eq_some_iff.mp hm
  rw [hcD]; rfl
theorem kit_cl (hm : mroIn K C (.type "object") = some true) (ht : typeIn K (.ref C) = some (.type "type")) (hs : subIn K (.ref N) (.ref C) = some b) : kitCls K (.ref N) (.ref C) = some b := by
  show (if ((clsIn K C).isSome && typeIn K (.ref C) == some (.type "type")) = true then subIn K (.ref N) (.ref C) else none) = some b
  rw [cls_of hm, ht, if_pos (by simp), hs]
theorem kit_no (hN : subIn K (.ref N) (.ref N) = some true) (hm : mroIn K C (.type "object") = some true) (ht : typeIn K (.ref C) = some (.type "type")) (hs : subIn K (.ref N) (.ref C) = some false) : kitOne K (.ref N) (.ref C) = some false := by
  unfold kitOne
  rw [if_neg (fun z => by
    have e : N = C := Value.ref.inj (beq_iff_eq.mp z)
    rw [← e, hN] at hs
    cases hs)]
  exact kit_cl hm ht hs
theorem kit_ty {T : String} (hk : kitMeta T = true) (hs : subIn K (.ref N) (.type T) = some b) : kitOne K (.ref N) (.type T) = some b := by
  unfold kitOne
  rw [if_neg (fun z => by have := beq_iff_eq.mp z; cases this)]
  show (if kitMeta T = true then subIn K (.ref N) (.type T) else none) = some b
  rw [if_pos hk, hs]
theorem kitAny_no {r : List Value} (h : kitOne K (.ref N) (.ref C) = some false) (hr : kitAny K (.ref N) r = some false) : kitAny K (.ref N) (.ref C :: r) = some false := by
  unfold kitAny
  rw [h]
  exact hr
theorem exm_yes (hm : mroIn K C (.type "object") = some true) (ht : typeIn K (.ref C) = some (.type "type")) (hb : subIn K (.ref C) (.type "BaseException") = some true) (hs : subIn K (.ref N) (.ref C) = some true) : exmOne K (.ref N) (.ref C) = some true := by
  unfold exmOne
  rw [hb, if_pos (by simp)]
  exact kit_cl hm ht hs
end
end L2
set_option Elab.async false
set_option linter.all false
set_option maxRecDepth 100000
namespace L2
open PySem PySem.Spec PyProof.Rows
def Monic (g : List Int) : Prop := g ≠ [] ∧ coef g (g.length - 1) = 1
structure IsDiv (f g q r : List Int) : Prop where
  eq : ∀ m, coef f m = conv q g m + coef r m
  nq : Norm f → Norm q
  nr : Norm r
  len : r.length < g.length
  lq : q.length = f.length - (g.length - 1)
def qSo (N i : Nat) (Qr : List Int) : List Int := List.replicate (N - i) 0 ++ Qr.reverse
structure DivSo (f g : List Int) (N i : Nat) (Qr R : List Int) : Prop where
  lq : Qr.length = i
  lr : R.length = f.length
  eq : ∀ m, m < R.length → coef R m = coef f m - conv (qSo N i Qr) g m
  top : ∀ m, f.length - i ≤ m → m < R.length → coef R m = 0
  lead : 0 < i → coef Qr 0 = coef f (f.length - 1)
def RIn (g : List Int) (R R' : List Int) (t : Nat) (lead : Int) (j : Nat) : Prop := R'.length = R.length ∧ ∀ m, m < R.length → coef R' m = coef R m - if t ≤ m ∧ m - t < j then lead * coef g (m - t) else 0
end L2
set_option Elab.async false
set_option linter.all false
set_option maxRecDepth 100000
namespace L2
open PySem PySem.Spec PyProof.Rows
def sumN : Nat → (Nat → Int) → Int
  | 0, _ => 0
  | n + 1, f => sumN n f + f n
def cv (a b : Nat → Int) (m : Nat) : Int := sumN (m + 1) fun i => a i * b (m - i)
structure IsDig (key : List Int) (ds : List (List Int)) : Prop where
  nm : ∀ d ∈ ds, Norm d
  ln : ∀ d ∈ ds, d.length < key.length
  last : ds.getLast? ≠ some []
end L2
set_option Elab.async false
set_option linter.all false
set_option maxRecDepth 100000
namespace L2
open PySem PySem.Spec PyProof.Rows
abbrev LP := Addr × List Int
abbrev lrefs (ts : List LP) : List V := ts.map fun t => V.ref t.1
structure LLs (H : Hp) (p : Addr) (ts : List LP) : Prop where
  top : H p = some (.lst (lrefs ts))
  it : ∀ t ∈ ts, H t.1 = some (.lst (t.2.map V.int))
end L2
set_option Elab.async false
set_option linter.all false
set_option maxRecDepth 100000
namespace L2
open PySem PySem.Spec PyProof.Rows
section
variable {X : Cx}
end
section
variable {X : Cx} {x : Str} {id : String} {p pos : Pos} {e : Expr} {es : List Expr} {kws : List Keyword} {t tk : TA} {ks : List Str}
end
section
variable {prog : Program} {w : World} {A : Around} {R : Result → Shared → Prop} {J : Addr} {fp wr : List Addr} {n : Nat} {P : Nat → Value → Prop} {St : Nat → Heap → Prop}
end
section
variable {X : Cx}
end
end L2
set_option Elab.async false
set_option linter.all false
set_option maxRecDepth 100000
set_option maxHeartbeats 1000000
namespace L2
open PySem PySem.Spec PyProof.Rows
open AutoSeq1 (wpAny_loadPart')
section
variable {prog : Program} {w : World} {A : Around} {E : Value → Shared → Prop} {s : Shared}
end
section
variable {M : Model} {A : Around} {E : Value → Shared → Prop} {s : Shared} {env : Env}
end
section
variable {X : Cx} {elts : List Expr} {k : Nat} {tpos : Pos}
end
def Its (lo : Int) (n : Nat) : It := ⟨fun i _ => i < n, fun i H x H' => H' = H ∧ x = .int (lo + i * 2), fun i _ => n ≤ i⟩
theorem turn_step {P : Program} {w : World} {K : PySem.W.Frag} {tg : Expr} (it : Addr) (lo : Int) (n : Nat) : Turn P w K tg (Its lo n) [it] it (fun i h => IsRangeIter h it (lo + (i : Nat) * 2) ((n : Int) - (i : Nat)) 2) where
  mem := by simp
  obj := fun i h st b hb => by
    have e : b = it := by simpa using hb
    subst e
    exact ⟨_, st, fun v z => by
      have z' : Data.fields _ = Data.cell v := z
      cases z'⟩
  keep := fun i h h' st k => k it (by simp) _ st
  item := by
    intro X hP hw hK hc i pins s σ H E I hf st hg
    subst hP hw hK
    obtain ⟨f0, f1, f2, f3, f4, f5⟩ := hf it (by simp)
    have W := Walks.range (prog := X.prog) (w := X.w) (I.ok.hd hc) it lo 2 n
    refine W.item i s _ _ hg st fun v h' tk hv st' kk => ?_
    obtain ⟨t, rfl⟩ := hv
    have I1 : Inv X pins σ H { s with heap := h', toks := tk } := I.turned (fun b o hb e => kk b o (by simpa using hb) e) f0 f1 f3 f4 f5
    exact ⟨_, rfl, go_of (s := { s with heap := h', toks := tk }) (n := "range_iterator") st' rfl rfl (by decide) ⟨.int (lo + i * 2), H, I1, ⟨t, rfl⟩, ⟨rfl, rfl⟩, st', fun b hb => (hf b hb).1⟩⟩
  done := by
    intro X hP hw hK hc i pins s σ H E I hf st hg
    subst hP hw hK
    obtain ⟨f0, f1, f2, f3, f4, f5⟩ := hf it (by simp)
    exact wpAny_pyNext_range_end (I.ok.hd hc) st (by have : n ≤ i := hg; omega) fun h' eb => ⟨rfl, I.turned (t' := s.toks) (fun b o hb e => eb b o hb e) f0 f1 f3 f4 f5⟩
  self := fun _ _ _ _ _ st h => wpAny_pyIter_rangeiter st h
theorem rsize2 (lo hi : Int) : Builtin.Range.rangeSize lo hi 2 = if lo < hi then (hi - lo - 1) / 2 + 1 else 0 := by
  unfold Builtin.Range.rangeSize
  rw [if_pos (by decide)]
theorem small_two {a b : Int} (ha : -(2 ^ 60) ≤ a) (ha' : a < 2 ^ 60) (hb : -(2 ^ 60) ≤ b) (hb' : b < 2 ^ 60) : Builtin.Range.small a b 2 = true := by
  unfold Builtin.Range.small
  rw [rsize2]
  simp only [Builtin.Range.rangeFitsLong, Bool.and_eq_true, Bool.or_eq_true, decide_eq_true_eq, beq_iff_eq, show (2 : Int) > 0 by decide, if_true]
  split <;> omega
section
variable {X : Cx} {tg : Expr}
def iRngS (ta : TA) : TI := fun σ H R => ta σ H fun vs H1 => ∃ i j : Int, vs = [.int i, .int j, .int 2] ∧ (-(2 ^ 60) ≤ i ∧ i < 2 ^ 60 ∧ -(2 ^ 60) ≤ j ∧ j < 2 ^ 60) ∧ R (Its i (if i < j then (j - i - 1) / 2 + 1 else 0).toNat) H1
theorem pi_rangeS {a b c : Expr} {ta : TA} {p pos : Pos} (hg : Gl X "range") (hm : X.mg "range" = none) (ha : PA X [a, b, c] ta) (hs : starEach [a, b, c] X.env = [(false, eval a X.env), (false, eval b X.env), (false, eval c X.env)] := by rfl) (hs2 : starEach [b, c] X.env = [(false, eval b X.env), (false, eval c X.env)] := by rfl) :
    PI X tg (.Call (.Name "range" p) [a, b, c] [] pos) (iRngS ta) := by
  intro pins s σ H R I h
  refine Call_ (ld_blt I hg hm boot_range (PyProof.Rows.callWith_type1 (thn (ha pos pins s σ H _ I h) fun us s1 ⟨vs, H1, I1, r1, q1⟩ => ?_) (by rw [hs, hs2]) (by rw [hs2]; rfl)))
  obtain ⟨lo, hi, e, ⟨q1, q2, q3, q4⟩, q⟩ := q1
  subst e
  cases r1 with
  | cons r rr =>
    cases rr with
    | cons r' rr =>
      cases rr with
      | cons r'' rr =>
        cases rr
        obtain ⟨t, rfl⟩ := r
        obtain ⟨t', rfl⟩ := r'
        obtain ⟨t'', rfl⟩ := r''
        refine call_range_3 (by decide) ?_ (Or.inl (PyProof.noPylong_small (by omega)))
        refine wpAny_pyIter_range (IsRange.new ..) (small_two q1 q2 q3 q4) ?_
        have I2 : Inv X pins σ H1 { s1 with heap := s1.heap.push { cls := .type "range", data := .fields #[.int lo t, .int hi t', .int 2 t''] }, toks := s1.toks } := I1.kept fun b o e => Heap.get?_push_of_some _ e
        refine ⟨(s1.heap.push { cls := .type "range", data := .fields #[.int lo t, .int hi t', .int 2 t''] }).objs.size, [(s1.heap.push { cls := .type "range", data := .fields #[.int lo t, .int hi t', .int 2 t''] }).objs.size], _, _, H1, rfl,
          I2.kept (t' := s1.toks) fun b o e => Heap.get?_push_of_some _ e, turn_step _ lo _, ?_, fun b hb => ?_, q⟩
        · have e1 : lo + ((0 : Nat) : Int) * 2 = lo := by simp
          have e2 : (((if lo < hi then (hi - lo - 1) / 2 + 1 else 0).toNat : Nat) : Int) - ((0 : Nat) : Int) = Builtin.Range.rangeSize lo hi 2 := by rw [rsize2]; split <;> omega
          show IsRangeIter _ _ (lo + ((0 : Nat) : Int) * 2) ((((if lo < hi then (hi - lo - 1) / 2 + 1 else 0).toNat : Nat) : Int) - ((0 : Nat) : Int)) 2
          rw [e1, e2]
          exact Heap.get?_push_size _ rfl
        · have e : b = (s1.heap.push { cls := .type "range", data := .fields #[.int lo t, .int hi t', .int 2 t''] }).objs.size := by simpa using hb
          subst e
          exact I2.fpOk (Nat.le_refl _) (I2.hok.fresh (Nat.le_refl _))
end
theorem for_step {lo : Int} {n : Nat} {g : TG} {tb : TS} {D : Ends} {σ : St} {H : Hp} (Pv : Nat → St → Hp → Prop) (h0 : Pv 0 σ H)
    (hs : ∀ i σ H, i < n → Pv i σ H → g (.int (lo + i * 2)) σ H fun σ2 H2 => tb { D with nx := Pv (i + 1), ct := Pv (i + 1), bk := D.nx } σ2 H2) (hd : ∀ σ H, Pv n σ H → D.nx σ H) :
    ∃ W : Nat → Nat → St → Hp → Prop, (∃ m, W 0 m σ H) ∧ ∀ i m σ H, W i m σ H →
      ((Its lo n).stop i H ∧ D.nx σ H) ∨ ((Its lo n).go i H ∧ ∃ N : St → Hp → Prop, (∀ σ' H', N σ' H' → ∃ m', m' < m ∧ W (i + 1) m' σ' H') ∧ ∀ x H', (Its lo n).yld i H x H' → g x σ H' fun σ2 H2 => tb { D with nx := N, ct := N, bk := D.nx } σ2 H2) := by
  refine ⟨fun i m σ H => m = n - i ∧ i ≤ n ∧ Pv i σ H, ⟨n, by simp, Nat.zero_le _, h0⟩, ?_⟩
  rintro i m σ H ⟨rfl, hi, p⟩
  by_cases hlt : i < n
  · refine .inr ⟨hlt, Pv (i + 1), fun σ' H' p' => ⟨n - (i + 1), by omega, rfl, hlt, p'⟩, fun v H' y => ?_⟩
    obtain ⟨e1, e2⟩ := y
    subst e1 e2
    exact hs i σ _ hlt p
  · have e : i = n := by omega
    subst e
    exact .inl ⟨Nat.le_refl _, hd σ H p⟩
end L2
set_option Elab.async false
set_option linter.all false
set_option maxRecDepth 100000
namespace L2
open PySem PySem.Spec PyProof.Rows
theorem rsizeD (lo hi : Int) : Builtin.Range.rangeSize lo hi (-1) = (((lo - hi).toNat : Nat) : Int) := by
  unfold Builtin.Range.rangeSize
  rw [if_neg (by decide), show (-(-1 : Int)) = 1 by decide, Int.ediv_one]
  split <;> omega
theorem small_down {a b : Int} (ha : -(2 ^ 60) ≤ a) (ha' : a < 2 ^ 60) (hb : -(2 ^ 60) ≤ b) (hb' : b < 2 ^ 60) : Builtin.Range.small a b (-1) = true := by
  unfold Builtin.Range.small
  rw [rsizeD]
  simp only [Builtin.Range.rangeFitsLong, Bool.and_eq_true, Bool.or_eq_true, decide_eq_true_eq, beq_iff_eq, show ¬ ((-1 : Int) > 0) by decide, if_false]
  omega
section
variable {X : Cx} {tg : Expr}
def iRngD (ta : TA) : TI := fun σ H R => ta σ H fun vs H1 => ∃ i j : Int, vs = [.int i, .int j, .int (-1)] ∧ (-(2 ^ 60) ≤ i ∧ i < 2 ^ 60 ∧ -(2 ^ 60) ≤ j ∧ j < 2 ^ 60) ∧ R (Itd i (i - j).toNat) H1
theorem pi_rangeD {a b c : Expr} {ta : TA} {p pos : Pos} (hg : Gl X "range") (hm : X.mg "range" = none) (ha : PA X [a, b, c] ta) (hs : starEach [a, b, c] X.env = [(false, eval a X.env), (false, eval b X.env), (false, eval c X.env)] := by rfl) (hs2 : starEach [b, c] X.env = [(false, eval b X.env), (false, eval c X.env)] := by rfl) :
    PI X tg (.Call (.Name "range" p) [a, b, c] [] pos) (iRngD ta) := by
  intro pins s σ H R I h
  refine Call_ (ld_blt I hg hm boot_range (PyProof.Rows.callWith_type1 (thn (ha pos pins s σ H _ I h) fun us s1 ⟨vs, H1, I1, r1, q1⟩ => ?_) (by rw [hs, hs2]) (by rw [hs2]; rfl)))
  obtain ⟨lo, hi, e, ⟨q1, q2, q3, q4⟩, q⟩ := q1
  subst e
  cases r1 with
  | cons r rr =>
    cases rr with
    | cons r' rr =>
      cases rr with
      | cons r'' rr =>
        cases rr
        obtain ⟨t, rfl⟩ := r
        obtain ⟨t', rfl⟩ := r'
        obtain ⟨t'', rfl⟩ := r''
        refine call_range_3 (by decide) ?_ (Or.inl (PyProof.noPylong_small (by omega)))
        refine wpAny_pyIter_range (IsRange.new ..) (small_down q1 q2 q3 q4) ?_
        have I2 : Inv X pins σ H1 { s1 with heap := s1.heap.push { cls := .type "range", data := .fields #[.int lo t, .int hi t', .int (-1) t''] }, toks := s1.toks } := I1.kept fun b o e => Heap.get?_push_of_some _ e
        refine ⟨(s1.heap.push { cls := .type "range", data := .fields #[.int lo t, .int hi t', .int (-1) t''] }).objs.size, [(s1.heap.push { cls := .type "range", data := .fields #[.int lo t, .int hi t', .int (-1) t''] }).objs.size], _, _, H1, rfl,
          I2.kept (t' := s1.toks) fun b o e => Heap.get?_push_of_some _ e, turn_down _ lo _, ?_, fun b hb => ?_, q⟩
        · have e1 : lo + ((0 : Nat) : Int) * (-1) = lo := by simp
          have e2 : (((lo - hi).toNat : Nat) : Int) - ((0 : Nat) : Int) = Builtin.Range.rangeSize lo hi (-1) := by rw [rsizeD]; omega
          show IsRangeIter _ _ (lo + ((0 : Nat) : Int) * (-1)) ((((lo - hi).toNat : Nat) : Int) - ((0 : Nat) : Int)) (-1)
          rw [e1, e2]
          exact Heap.get?_push_size _ rfl
        · have e : b = (s1.heap.push { cls := .type "range", data := .fields #[.int lo t, .int hi t', .int (-1) t''] }).objs.size := by simpa using hb
          subst e
          exact I2.fpOk (Nat.le_refl _) (I2.hok.fresh (Nat.le_refl _))
end
end L2
set_option Elab.async false
set_option linter.all false
set_option maxRecDepth 100000
set_option maxHeartbeats 1000000
namespace K75
open PySem L2
local macro_rules | `(tactic| walk_at "rd") => `(tactic| repeat ((fail_if_success with_reducible refine ite2 ?_ ?_); first | refine ⟨_, rfl, ?_⟩ | refine ⟨_, _, rfl, rfl, ?_⟩ | refine ⟨show (_ : Int) ≠ 0 by decide, ?_⟩ | refine ⟨show CMulO _ _ from mulOkR (by decide) (by decide), ?_⟩ | refine ⟨show CMulO _ _ from mulOkL (by decide) (by decide), ?_⟩ | refine ⟨show CDivW _ _ from (Bd.small (by decide) (by decide)).dv (by decide), ?_⟩ | refine ⟨show CPow _ _ from ⟨by decide, by decide, by decide⟩, ?_⟩ | refine ⟨show scal _ _ = true from rfl, ?_⟩ | refine ⟨show isPlain _ = true from rfl, ?_⟩ | refine ⟨show List.length _ ≤ sizeLine from len_ok rfl, ?_⟩))
def top (i : Nat) : Stmt := PySem.Challenge.pw_branchdepth_k75_texts_of_no_polynomial.main.body.getD i (.Pass ⟨0, 0, 0, 0⟩)
abbrev s_without_noughts_behind : Stmt := top 11
theorem sc_without_noughts_behind : FnScope ["numbers", "many"] ["numbers"] (defScope s_without_noughts_behind) := ⟨rfl, rfl, rfl, by decide +kernel, rfl, by decide +kernel, by decide +kernel⟩
abbrev s_number_text : Stmt := top 16
theorem sc_number_text : FnScope ["k", "great", "pieces", "low"] ["k"] (defScope s_number_text) := ⟨rfl, rfl, rfl, by decide +kernel, rfl, by decide +kernel, by decide +kernel⟩
abbrev s_is_figures : Stmt := top 17
theorem sc_is_figures : FnScope ["text"] ["text"] (defScope s_is_figures) := ⟨rfl, rfl, rfl, by decide +kernel, rfl, by decide +kernel, by decide +kernel⟩
abbrev s_term_text : Stmt := top 18
theorem sc_term_text : FnScope ["k", "power", "letter"] ["k", "power"] (defScope s_term_text) := ⟨rfl, rfl, rfl, by decide +kernel, rfl, by decide +kernel, by decide +kernel⟩
abbrev s_written : Stmt := top 19
theorem sc_written : FnScope ["f", "told", "power"] ["f"] (defScope s_written) := ⟨rfl, rfl, rfl, by decide +kernel, rfl, by decide +kernel, by decide +kernel⟩
abbrev s_read_figures : Stmt := top 20
theorem sc_read_figures : FnScope ["text"] ["text"] (defScope s_read_figures) := ⟨rfl, rfl, rfl, by decide +kernel, rfl, by decide +kernel, by decide +kernel⟩
abbrev s_read_term : Stmt := top 21
theorem sc_read_term : FnScope ["word", "ahead", "letter", "behind", "number", "power"] ["word"] (defScope s_read_term) := ⟨rfl, rfl, rfl, by decide +kernel, rfl, by decide +kernel, by decide +kernel⟩
abbrev s_read_words : Stmt := top 22
theorem sc_read_words : FnScope ["words", "numbers", "at", "number", "power"] ["words"] (defScope s_read_words) := ⟨rfl, rfl, rfl, by decide +kernel, rfl, by decide +kernel, by decide +kernel⟩
abbrev s_read_polynomial : Stmt := top 23
theorem sc_read_polynomial : FnScope ["text", "words", "told"] ["text"] (defScope s_read_polynomial) := ⟨rfl, rfl, rfl, by decide +kernel, rfl, by decide +kernel, by decide +kernel⟩
abbrev s_q_bag : Stmt := top 25
theorem sc_q_bag : FnScope ["_law_script", "_law_at", "_law_cell", "_law_great"] ["_law_script", "_law_at"] (defScope s_q_bag) := ⟨rfl, rfl, rfl, by decide +kernel, rfl, by decide +kernel, by decide +kernel⟩
abbrev s_q_take : Stmt := top 26
theorem sc_q_take : FnScope ["_law_bag_here", "_law_many", "_law_digit"] ["_law_bag_here", "_law_many"] (defScope s_q_take) := ⟨rfl, rfl, rfl, by decide +kernel, rfl, by decide +kernel, by decide +kernel⟩
abbrev s_q_number : Stmt := top 27
theorem sc_q_number : FnScope ["_law_bag_here", "_law_way", "_law_sign"] ["_law_bag_here"] (defScope s_q_number) := ⟨rfl, rfl, rfl, by decide +kernel, rfl, by decide +kernel, by decide +kernel⟩
abbrev s_q_polynomial : Stmt := top 28
theorem sc_q_polynomial : FnScope ["_law_bag_here", "_law_found"] ["_law_bag_here"] (defScope s_q_polynomial) := ⟨rfl, rfl, rfl, by decide +kernel, rfl, by decide +kernel, by decide +kernel⟩
abbrev s_q_written : Stmt := top 29
theorem sc_q_written : FnScope ["_law_f", "_law_text", "_law_power", "_law_number_here", "_law_term_here"] ["_law_f"] (defScope s_q_written) := ⟨rfl, rfl, rfl, by decide +kernel, rfl, by decide +kernel, by decide +kernel⟩
abbrev s_q_value : Stmt := top 30
theorem sc_q_value : FnScope ["_law_word"] ["_law_word"] (defScope s_q_value) := ⟨rfl, rfl, rfl, by decide +kernel, rfl, by decide +kernel, by decide +kernel⟩
abbrev s_q_term : Stmt := top 31
theorem sc_q_term : FnScope ["_law_word", "_law_number_here", "_law_star", "_law_letter", "_law_many", "_law_power"] ["_law_word"] (defScope s_q_term) := ⟨rfl, rfl, rfl, by decide +kernel, rfl, by decide +kernel, by decide +kernel⟩
abbrev s_q_due : Stmt := top 32
theorem sc_q_due : FnScope ["_law_text", "_law_words", "_law_numbers", "_law_k", "_law_term_here"] ["_law_text"] (defScope s_q_due) := ⟨rfl, rfl, rfl, by decide +kernel, rfl, by decide +kernel, by decide +kernel⟩
abbrev s_q_told : Stmt := top 33
theorem sc_q_told : FnScope ["_law_thing", "e"] ["_law_thing"] (defScope s_q_told) := ⟨rfl, rfl, rfl, by decide +kernel, rfl, by decide +kernel, by decide +kernel⟩
abbrev s_q_changed : Stmt := top 34
theorem sc_q_changed : FnScope ["_law_text", "_law_bag_here", "_law_signs", "_law_sign", "_law_at", "_law_way", "_law_words", "_law_k"] ["_law_text", "_law_bag_here"] (defScope s_q_changed) := ⟨rfl, rfl, rfl, by decide +kernel, rfl, by decide +kernel, by decide +kernel⟩
abbrev s_law : Stmt := top 35
theorem sc_law : FnScope ["_law_script", "_law_at", "_law_text", "_law_other", "_law_bad"] ["_law_script"] (defScope s_law) := ⟨rfl, rfl, rfl, by decide +kernel, rfl, by decide +kernel, by decide +kernel⟩
structure Blt (mg : Str → Option Value) : Prop where
  «ValueError» : mg "ValueError" = none
  «abs» : mg "abs" = none
  «all» : mg "all" = none
  «int» : mg "int" = none
  «isinstance» : mg "isinstance" = none
  «len» : mg "len" = none
  «max» : mg "max" = none
  «min» : mg "min" = none
  «range» : mg "range" = none
  «reversed» : mg "reversed" = none
  «str» : mg "str" = none
def spTrim (K : PySem.W.Frag) : Sp := fun vs H Q _ => ∃ (a : Addr) (f : List Int), vs = [.ref a] ∧ SqL K H a (f.map V.int) ∧ f.length ≤ 1000 ∧ New H Q (trim f)
section
variable {P : Program} {w : World} {K : PySem.W.Frag} {mg : Str → Option Value} {base : Heap}
theorem ok_without_noughts_behind (B : Blt mg) (F : Src K mg "without_noughts_behind" s_without_noughts_behind ["numbers"]) : Dfn P w K mg base 1 "without_noughts_behind" ["numbers"] (spTrim K) := by
  refine F.ok sc_without_noughts_behind (fun vs H Q E h => ?_) (fun f cdv A outer s H vs Q E hr h => ?_)
  · obtain ⟨a, f, rfl, _⟩ := h; rfl
  obtain ⟨a, f, rfl, hS, hlen, q⟩ := h
  refine ⟨_, pss_cons (ps_set (i := 1) sc_without_noughts_behind.nd rfl (Or.inl rfl) (pe_callB (callK_len (K := K) rfl) rfl B.«len» bt_len (pa_cons (pv 0) pa_nil)))
    (pss_cons (ps_while PassesOwn.never (PW.pt (pw_and (pt_cmpR op_gt (pv 1) pe_int (nomark _)) (pw_and1 (pt_cmpR op_eq (pe_ix (ixK_list (K := K) rfl) (pv 0) (pe_op op_sub (pv 1) pe_int) (fun _ _ => rfl)) pe_int (nomark _)))))
      (pss_one (ps_aug (i := 1) sc_without_noughts_behind.nd rfl (Or.inl rfl) pe_int iop_sub)))
    (pss_one (ps_ret (pe_slice (slK_list (K := K) rfl) (pv 0) po_none (po_some (pv 1)))))), ?_⟩
  refine ⟨_, rfl, a, _, rfl, .inl hS, ?_⟩
  rw [List.length_map]
  have fin : ∀ (k : Nat) H2, Same H H2 → k ≤ f.length → tlen f f.length = tlen f k → tlen f k = k → SqL K H2 a (f.map V.int) → ∀ p, H2 p = none → Q (.ref p) (upd H2 p (.lst (cutV (f.map V.int) none (some (k : Int))))) := fun k H2 g hk e1 e2 hS2 p hp => by
    rw [cutV_take f k hk]
    refine q p _ (g.trans (same_new hp _)) (g.free hp) ?_
    unfold trim
    rw [e1, e2]
    exact upd_same
  refine while_in (fun σ H2 => H2 = H ∧ ∃ k : Nat, σ = [some (.ref a), some (.int k)] ∧ k ≤ f.length ∧ tlen f f.length = tlen f k) (fun σ _ => match σ with | [_, some (.int k)] => k.toNat | _ => 0) ⟨rfl, f.length, rfl, Nat.le_refl _, rfl⟩ ?_
  rintro σ H2 ⟨rfl, k, rfl, hk, ht⟩
  refine ⟨_, rfl, _, _, rfl, rfl, _, rfl, ite2 (fun c => ?_) (fun c => ?_)⟩
  · have c' : (0 : Int) < k := of_decide_eq_true c
    obtain ⟨m, rfl⟩ : ∃ m, k = m + 1 := ⟨k - 1, by omega⟩
    refine ⟨_, rfl, _, rfl, _, _, rfl, rfl, a, _, _, _, rfl, rfl, hS, atI_int (by omega) (by omega), rfl, _, rfl, ?_⟩
    have em : (((m + 1 : Nat) : Int) - 1).toNat = m := by omega
    rw [em]
    refine ite2 (fun c => ?_) (fun c => ?_)
    · have c2 : coef f m = 0 := V.int.inj (of_decide_eq_true c)
      refine win ⟨_, rfl, _, _, rfl, rfl, ⟨rfl, m, ?_, by omega, ?_⟩, ?_⟩
      · have e : ((m + 1 : Nat) : Int) - 1 = (m : Int) := by omega
        show [some (V.ref a), some (V.int (((m + 1 : Nat) : Int) - 1))] = _
        rw [e]
      · exact ht.trans (by show (if coef f m = 0 then tlen f m else m + 1) = _; rw [if_pos c2])
      · show (((m + 1 : Nat) : Int) - 1).toNat < (((m + 1 : Nat) : Int)).toNat
        omega
    · have c2 : coef f m ≠ 0 := fun z => c (decide_eq_true (congrArg V.int z))
      exact ⟨_, rfl, _, rfl, _, rfl, a, _, rfl, hS, fin (m + 1) _ (Same.refl _) hk ht (by show (if coef f m = 0 then tlen f m else m + 1) = _; rw [if_neg c2]) hS⟩
  · have c' : k = 0 := by
      have : ¬ (0 : Int) < k := fun z => c (decide_eq_true z)
      omega
    subst c'
    refine iteF ?_
    exact ⟨_, rfl, _, rfl, _, rfl, a, _, rfl, hS, fin 0 _ (Same.refl _) hk ht rfl hS⟩
end
def spNumT : Sp := fun vs H Q _ => ∃ k : Nat, vs = [.int (k : Int)] ∧ k < 10 ^ 64 ∧ ∀ H', Same H H' → Q (.str (num k)) H'
def spTermT : Sp := fun vs H Q _ => ∃ k p : Nat, vs = [.int (k : Int), .int (p : Int)] ∧ k < 10 ^ 64 ∧ p ≤ 12 ∧ ∀ H', Same H H' → Q (.str (term k p)) H'
def Gd (f : List Int) : Prop := Norm f ∧ f.length ≤ 13 ∧ ∀ i, (coef f i).natAbs < 10 ^ 64
def spWrit (K : PySem.W.Frag) : Sp := fun vs H Q _ => ∃ (a : Addr) (f : List Int), vs = [.ref a] ∧ SqL K H a (f.map V.int) ∧ Gd f ∧ ∀ H', Same H H' → Q (.str (wr f)) H'
theorem log_60 {k : Nat} (h : k < 10 ^ 64) : ((k : Nat) : Int).natAbs.log2 < 1920 := by
  rw [Int.natAbs_natCast]
  by_cases c : k = 0
  · rw [c]; decide
  · rw [Nat.log2_lt c]
    exact Nat.lt_trans h (by decide +kernel)
section
variable {P : Program} {w : World} {K : PySem.W.Frag} {mg : Str → Option Value} {base : Heap}
theorem ok_number_text (B : Blt mg) (F : Src K mg "number_text" s_number_text ["k"]) : Dfn P w K mg base 1 "number_text" ["k"] spNumT := by
  refine F.ok sc_number_text (fun vs H Q E h => ?_) (fun f cdv A outer s H vs Q E hr h => ?_)
  · obtain ⟨k, rfl, _⟩ := h; rfl
  obtain ⟨k, rfl, hk, q⟩ := h
  refine ⟨_, pss_cons (ps_if (pt_cmpR op_lt (pv 0) pe_int (nomark _))
      (pss_one (ps_no))
      (pss_nil))
    (pss_cons (ps_set (i := 1) sc_number_text.nd rfl (Or.inl rfl) (pe_op op_pow pe_int pe_int))
    (pss_cons (ps_set (i := 2) sc_number_text.nd rfl (Or.inl rfl) (pe_lst pa_nil))
    (pss_cons (ps_while PassesOwn.never (pt_cmpR op_ge (pv 0) (pv 1) (nomark _))
      (pss_cons (ps_no)
      (pss_one (ps_no))))
    (pss_cons (ps_expr (pe_bm PySem.F.plainAttrs_list PySem.F.slot_list_append PySem.F.type_list_append mt_append (pv 2) (pa_cons (pe_callTy call_str_int rfl B.«str» bt_str (pa_cons (pv 0) pa_nil)) pa_nil)))
    (pss_cons (ps_expr (pe_bm0 PySem.F.plainAttrs_list PySem.F.slot_list_reverse PySem.F.type_list_reverse mt_reverse (pv 2) ))
    (pss_one (ps_ret (pe_bm PySem.F.plainAttrs_str PySem.F.slot_str_join PySem.F.type_str_join (mtK_join (K := K) rfl) pe_str (pa_cons (pv 2) pa_nil))))))))), ?_⟩
  refine ⟨_, rfl, _, _, rfl, rfl, _, rfl, iteN (by omega) ?_⟩
  walk_at "rd"
  intro p hp
  have k1 := same_new hp (.lst [])
  refine while_in (fun σ H2 => H2 = upd H p (.lst []) ∧ σ = [some (.int (k : Int)), some (.int (10 ^ 64)), some (.ref p), none]) (fun _ _ => 0) ⟨rfl, rfl⟩ ?_
  rintro σ H2 ⟨rfl, rfl⟩
  refine ⟨_, rfl, _, rfl, _, _, rfl, rfl, _, rfl, iteN ?_ ?_⟩
  · have : ((10 ^ 64 : Nat) : Int) = (10 : Int) ^ 64 := by norm_cast
    have : (10 : Int) ^ 64 ≤ 10 ^ 64 := by decide
    omega
  refine ⟨_, rfl, .inl ⟨rfl, _, SqL.of upd_same⟩, _, rfl, _, rfl, log_60 hk, p, _, _, rfl, rfl, upd_same, by rw [sizeLine_eq]; decide, ?_⟩
  refine ⟨_, rfl, .inl ⟨rfl, _, SqL.of upd_same⟩, p, _, rfl, rfl, upd_same, ?_⟩
  have g1 : ∀ o o', Same H (upd (upd (upd H p (.lst [])) p o) p o') := fun o o' => Same.free_upd (Same.free_upd k1 hp o) hp o'
  refine ⟨rfl, _, rfl, _, p, [num k], rfl, rfl, SqL.of upd_same, ?_, ?_⟩
  · have h1 := num_lenW hk
    have := StrLaws.joinFits (sep := Str.ofString "") (texts := [num k]) (B := 64) (fun y hy => by rw [List.mem_singleton.mp hy]; exact h1) (by show 1 * 64 + 1 * (Str.ofString "").length ≤ 16777216; decide +kernel)
    unfold JoinOk
    rw [Bool.not_eq_true']
    exact this
  · have e : Txt.join (Str.ofString "") [num k] = num k := by
      show Builtin.Str.glued _ _ = _
      rw [StrLaws.glued_eq_join]
      rfl
    rw [e]
    exact q _ (g1 _ _)
theorem ok_term_text (B : Blt mg) (d_number_text : Dfn P w K mg base 1 "number_text" ["k"] spNumT) (F : Src K mg "term_text" s_term_text ["k", "power"]) : Dfn P w K mg base 2 "term_text" ["k", "power"] spTermT := by
  refine F.ok sc_term_text (fun vs H Q E h => ?_) (fun f cdv A outer s H vs Q E hr h => ?_)
  · obtain ⟨k, p, rfl, _⟩ := h; rfl
  obtain ⟨k, p, rfl, hk, hp, q⟩ := h
  refine ⟨_, pss_cons (ps_if (pt_cmpR op_eq (pv 1) pe_int (nomark _))
      (pss_one (ps_ret (pe_def d_number_text hr (pa_cons (pv 0) pa_nil))))
      (pss_nil))
    (pss_cons (ps_set (i := 2) sc_term_text.nd rfl (Or.inl rfl) (pe_ifExp (pt_cmpR op_eq (pv 1) pe_int (nomark _)) pe_str (pe_fstr (.cons pe_str (.cons (pe_fval (pv 1)) .nil)))))
    (pss_one (ps_ret (pe_ifExp (pt_cmpR op_eq (pv 0) pe_int (nomark _)) (pv 2) (pe_fstr (.cons (pe_fval (pe_def d_number_text hr (pa_cons (pv 0) pa_nil))) (.cons pe_str (.cons (pe_fval (pv 2)) .nil)))))))), ?_⟩
  refine ⟨_, rfl, rfl, _, rfl, ?_⟩
  by_cases c0 : p = 0
  · refine iteY (by show V.int (p : Int) = V.int 0; rw [c0]; rfl) ⟨_, rfl, k, rfl, hk, fun H' g => ?_⟩
    have := q H' g
    unfold term at this
    rw [if_pos c0] at this
    exact this
  · refine iteN (fun z => c0 (by have := V.int.inj z; omega)) ?_
    have lp := num_lenW (n := p) (Nat.lt_of_le_of_lt hp (by decide))
    apply merge (M := fun σ HM => HM = H ∧ σ = [some (.int (k : Int)), some (.int (p : Int)), some (.str (letter p))])
    case h1 =>
      intro key
      refine ⟨_, rfl, rfl, _, rfl, ?_⟩
      by_cases c1 : p = 1
      · refine iteY (by show V.int (p : Int) = V.int 1; rw [c1]; rfl) (key _ _ ⟨rfl, ?_⟩)
        unfold letter; rw [if_pos c1]; rfl
      · refine iteN (fun z => c1 (by have := V.int.inj z; omega)) ?_
        have e : Str.empty ++ Str.ofString "x^" ++ num p = letter p := by
          unfold letter
          rw [if_neg c1]
          exact cs_ext (by simp only [cs_app]; rfl)
        have l1 : (Str.empty ++ Str.ofString "x^").length ≤ sizeLine := by decide +kernel
        have l2 : (Str.empty ++ Str.ofString "x^" ++ num p).length ≤ sizeLine := by
          rw [e, sizeLine_eq]; have := letter_len hp; omega
        refine ⟨_, rfl, l1, _, rfl, .inl ⟨_, rfl, log_60 (Nat.lt_of_le_of_lt hp (by decide)), _, rfl, l2, l2, key _ _ ⟨rfl, ?_⟩⟩⟩
        show _ = [some (V.int (k : Int)), some (V.int (p : Int)), some (V.str (letter p))]
        rw [← e]
        rfl
    case h2 =>
      rintro σ HM ⟨rfl, rfl⟩
      refine ⟨_, rfl, rfl, _, rfl, ?_⟩
      have ll := letter_len hp
      by_cases c1 : k = 1
      · refine iteY (by show V.int (k : Int) = V.int 1; rw [c1]; rfl) ⟨_, rfl, ?_⟩
        have := q HM (Same.refl HM)
        unfold term at this
        rw [if_neg c0, if_pos c1] at this
        exact this
      · refine iteN (fun z => c1 (by have := V.int.inj z; omega)) ?_
        have lk := num_lenW hk
        refine ⟨_, rfl, k, rfl, hk, fun H' g => ?_⟩
        have z1 : (Str.empty ++ num k).length ≤ sizeLine := by rw [← cs_len, cs_app, cs_em, List.nil_append, cs_len, sizeLine_eq]; omega
        have z2 : (Str.empty ++ num k ++ Str.ofString "*").length ≤ sizeLine := by rw [← cs_len, cs_app, cs_app, cs_em, List.nil_append, List.length_append, cs_len, cs_st, sizeLine_eq]; show _ + 1 ≤ _; omega
        have e : Str.empty ++ num k ++ Str.ofString "*" ++ letter p = term k p := by
          unfold term
          rw [if_neg c0, if_neg c1]
          exact cs_ext (by simp only [cs_app]; rfl)
        have z3 : (Str.empty ++ num k ++ Str.ofString "*" ++ letter p).length ≤ sizeLine := by
          rw [e, sizeLine_eq]; have := term_lenW hk hp; omega
        refine .inr ⟨_, rfl, by rw [sizeLine_eq]; omega, _, rfl, z1, _, rfl, z2, _, rfl, .inr ⟨_, rfl, by rw [sizeLine_eq]; omega, _, rfl, z3, z3, ?_⟩⟩
        rw [e]
        exact q H' g
def tld (f : List Int) (j : Nat) : Str := if j = 0 then (if coef f (f.length - 1) < 0 then Str.ofString "-" else Str.empty) else text (tl f j)
theorem tl_good {f : List Int} (g : Gd f) (h : f ≠ []) {j : Nat} (hj : j < f.length) : GW (tl f (j + 1)) := by
  obtain ⟨h1, h2⟩ := tl_eachW g.2.2 g.2.1 (j + 1)
  exact ⟨tl_ne h g.1 j, by have := g.2.1; omega, h2⟩
theorem tld_len {f : List Int} (g : Gd f) (h : f ≠ []) {j : Nat} (hj : j ≤ f.length) : (tld f j).length ≤ 4001 := by
  unfold tld
  cases j with
  | zero => rw [if_pos rfl]; split <;> decide +kernel
  | succ j => rw [if_neg (by omega)]; exact text_lenW (tl_good g h (by omega))
theorem tld_skip {f : List Int} {j : Nat} (h0 : j ≠ 0) (hz : coef f (f.length - 1 - j) = 0) : tld f (j + 1) = tld f j := by
  unfold tld
  rw [if_neg (by omega), if_neg h0]
  show text (tl f j ++ _) = _
  rw [if_pos hz, List.append_nil]
theorem tld_first {f : List Int} (hf : f ≠ []) (hn : Norm f) : tld f 1 = tld f 0 ++ term (coef f (f.length - 1)).natAbs (f.length - 1) := by
  unfold tld
  rw [if_neg (by decide), if_pos rfl, tl_one hf hn, text_one]
theorem tld_step {f : List Int} (hf : f ≠ []) (hn : Norm f) {j : Nat} (hz : coef f (f.length - 1 - (j + 1)) ≠ 0) : tld f (j + 1 + 1) = tld f (j + 1) ++ (if coef f (f.length - 1 - (j + 1)) < 0 then Str.ofString " - " else Str.ofString " + ") ++ term (coef f (f.length - 1 - (j + 1))).natAbs (f.length - 1 - (j + 1)) := by
  unfold tld
  rw [if_neg (by omega), if_neg (by omega)]
  show text (tl f (j + 1) ++ _) = _
  rw [if_neg hz, text_snoc (tl_ne hf hn j)]
theorem ok_written (B : Blt mg) (d_term_text : Dfn P w K mg base 2 "term_text" ["k", "power"] spTermT) (F : Src K mg "written" s_written ["f"]) : Dfn P w K mg base 3 "written" ["f"] (spWrit K) := by
  refine F.ok sc_written (fun vs H Q E h => ?_) (fun fa cdv A outer s H vs Q E hr h => ?_)
  · obtain ⟨a, f, rfl, _⟩ := h; rfl
  obtain ⟨a, f, rfl, ha, gd, q⟩ := h
  obtain ⟨nf, lf, bf⟩ := id gd
  refine ⟨_, pss_cons (ps_if (pt_cmpR (opK_eqD (K := K) rfl hr.units) (pv 0) (pe_lst pa_nil) (nomark _))
      (pss_one (ps_ret pe_str))
      (pss_nil))
    (pss_cons (ps_set (i := 1) sc_written.nd rfl (Or.inl rfl) (pe_ifExp (pt_cmpR op_lt (pe_ix (ixK_list (K := K) rfl) (pv 0) (pe_un un_neg pe_int) (fun _ _ => rfl)) pe_int (nomark _)) pe_str pe_str))
    (pss_cons (ps_for PassesOwn.never rfl (pi_revR rfl B.«reversed» (pa_cons (pe_range rfl B.«range» (pa_cons (pe_callB (callK_len (K := K) rfl) rfl B.«len» bt_len (pa_cons (pv 0) pa_nil)) pa_nil)) pa_nil)) (pg_name (i := 2) sc_written.nd rfl (Or.inl rfl))
      (pss_cons (ps_if (PW.pt (pw_and (pt_cmpR op_lt (pv 2) (pe_op op_sub (pe_callB (callK_len (K := K) rfl) rfl B.«len» bt_len (pa_cons (pv 0) pa_nil)) pe_int) (nomark _)) (pw_and1 (pt_cmpR op_ne (pe_ix (ixK_list (K := K) rfl) (pv 0) (pv 2) (fun _ _ => rfl)) pe_int (nomark _)))))
        (pss_one (ps_set (i := 1) sc_written.nd rfl (Or.inl rfl) (pe_op op_add_str (pv 1) (pe_ifExp (pt_cmpR op_lt (pe_ix (ixK_list (K := K) rfl) (pv 0) (pv 2) (fun _ _ => rfl)) pe_int (nomark _)) pe_str pe_str))))
        (pss_nil))
      (pss_one (ps_if (pt_cmpR op_ne (pe_ix (ixK_list (K := K) rfl) (pv 0) (pv 2) (fun _ _ => rfl)) pe_int (nomark _))
        (pss_one (ps_set (i := 1) sc_written.nd rfl (Or.inl rfl) (pe_op op_add_str (pv 1) (pe_def d_term_text hr (pa_cons (pe_callB call_abs rfl B.«abs» bt_abs (pa_cons (pe_ix (ixK_list (K := K) rfl) (pv 0) (pv 2) (fun _ _ => rfl)) pa_nil)) (pa_cons (pv 2) pa_nil))))))
        (pss_nil)))))
    (pss_one (ps_ret (pv 1))))), ?_⟩
  refine ⟨_, rfl, len_ok rfl, fun pe npe => ?_⟩
  have ke := same_new npe (.lst [])
  refine eqL (xs := f) (ys := []) (ke.seq ha) (SqL.of upd_same) ⟨_, rfl, ite2 (fun c => ?_) (fun c => ?_)⟩
  · have hf : f = [] := of_decide_eq_true c
    have := q _ ke
    rw [hf] at this
    have e : wr [] = Str.ofString "0" := by
      rw [s_0]
      exact cs_ext rfl
    rw [e] at this
    exact this
  · have hf : f ≠ [] := fun z => c (decide_eq_true z)
    have hl : 0 < f.length := List.length_pos_iff.mpr hf
    have lm : (f.map V.int).length = f.length := List.length_map _
    have ha1 := ke.seq ha
    generalize upd H pe (.lst []) = H1 at ke ha1 ⊢
    apply merge (M := fun σ HM => HM = H1 ∧ σ = [some (.ref a), some (.str (tld f 0)), none])
    case h1 =>
      intro key
      refine ⟨_, rfl, _, rfl, a, _, _, _, rfl, rfl, ha1, atI_neg1 hf, _, _, rfl, rfl, _, rfl, ?_⟩
      by_cases y : coef f (f.length - 1) < 0
      · refine iteY y (key _ _ ⟨rfl, ?_⟩)
        unfold tld; rw [if_pos rfl, if_pos y]; rfl
      · refine iteN y (key _ _ ⟨rfl, ?_⟩)
        unfold tld; rw [if_pos rfl, if_neg y, ← s_em]; rfl
    case h2 =>
      rintro σ HM ⟨rfl, rfl⟩
      refine ⟨_, rfl, a, _, rfl, .inl ha1, ?_⟩
      rw [lm]
      refine ⟨_, rfl, fun p3 n3 => ?_⟩
      have k3 := same_new n3 (.rng 0 (f.length : Int))
      refine ⟨p3, _, rfl, upd_same, by omega, by omega, ?_⟩
      rw [Int.toNat_natCast]
      refine for_down (fun j σ H2 => Same HM H2 ∧ ∃ o, σ = [some (.ref a), some (.str (tld f j)), o]) ⟨k3, _, rfl⟩ ?_ ?_
      · rintro j σ H2 hj ⟨g2, o, rfl⟩
        obtain ⟨p, hp⟩ : ∃ p, p = f.length - 1 - j := ⟨_, rfl⟩
        have ep : ∀ top : Int, top = (f.length : Int) - 1 → top - (j : Int) = (p : Int) := fun top h => by omega
        rw [ep _ (by rfl)]
        have ha2 := g2.seq ha1
        have at_p : atI (f.map V.int) (p : Int) = some (.int (coef f p)) := by
          have := atI_int (ns := f) (i := (p : Int)) (by omega) (by omega)
          rw [Int.toNat_natCast] at this
          exact this
        have l1 := tld_len gd hf (j := j) (by omega)
        apply merge (M := fun σ HN => HN = H2 ∧ σ = [some (.ref a), some (.str (if j = 0 ∨ coef f p = 0 then tld f j else tld f j ++ (if coef f p < 0 then Str.ofString " - " else Str.ofString " + "))), some (.int (p : Int))])
        case h1 =>
          intro key
          refine ⟨_, rfl, _, rfl, a, _, rfl, .inl ha2, ?_⟩
          rw [lm]
          refine ⟨_, _, rfl, rfl, _, _, rfl, rfl, _, rfl, ?_⟩
          by_cases y : j = 0
          · refine iteN (by omega) (iteF (key _ _ ⟨rfl, ?_⟩))
            rw [if_pos (.inl y)]; rfl
          · refine iteY (by omega) ⟨_, rfl, _, rfl, a, _, _, _, rfl, rfl, ha2, at_p, rfl, _, rfl, ?_⟩
            by_cases z : coef f p = 0
            · refine iteNS (by rw [z]) (key _ _ ⟨rfl, ?_⟩)
              rw [if_pos (.inr z)]; rfl
            · refine iteS (fun u => z (V.int.inj u)) ?_
              have hno : ¬ (j = 0 ∨ coef f p = 0) := fun u => u.elim y z
              refine ⟨_, rfl, _, rfl, _, rfl, a, _, _, _, rfl, rfl, ha2, at_p, _, _, rfl, rfl, _, rfl, ?_⟩
              by_cases v : coef f p < 0
              · refine iteY v ⟨_, _, rfl, rfl, ?_, key _ _ ⟨rfl, ?_⟩⟩
                · have : (Str.ofString " - ").length = 3 := by decide +kernel
                  rw [sizeLine_eq]; omega
                · rw [if_neg hno, if_pos v]; rfl
              · refine iteN v ⟨_, _, rfl, rfl, ?_, key _ _ ⟨rfl, ?_⟩⟩
                · have : (Str.ofString " + ").length = 3 := by decide +kernel
                  rw [sizeLine_eq]; omega
                · rw [if_neg hno, if_neg v]; rfl
        case h2 =>
          rintro σ HN ⟨rfl, rfl⟩
          refine ⟨_, rfl, _, rfl, a, _, _, _, rfl, rfl, ha2, at_p, rfl, _, rfl, ?_⟩
          by_cases z : coef f p = 0
          · refine iteNS (by rw [z]) ⟨g2, some (.int (p : Int)), ?_⟩
            rw [if_pos (.inr z)]
            have hj0 : j ≠ 0 := fun y => by
              rw [y, Nat.sub_zero] at hp
              rw [hp] at z
              exact nf.last hf z
            rw [tld_skip hj0 (by rw [← hp]; exact z)]
          · refine iteS (fun u => z (V.int.inj u)) ?_
            refine ⟨_, rfl, _, rfl, _, rfl, a, _, _, _, rfl, rfl, ha2, at_p, _, rfl, _, rfl, ?_⟩
            have ea : (if coef f p < 0 then - coef f p else coef f p) = ((coef f p).natAbs : Int) := by split <;> omega
            refine ⟨(coef f p).natAbs, p, by rw [ea]; rfl, bf p, by omega, fun H3 g3 => ?_⟩
            have lt := term_lenW (bf p) (show p ≤ 12 by omega)
            have e : (if j = 0 ∨ coef f p = 0 then tld f j else tld f j ++ (if coef f p < 0 then Str.ofString " - " else Str.ofString " + ")) ++ term (coef f p).natAbs p = tld f (j + 1) := by
              by_cases y : j = 0
              · rw [if_pos (.inl y), y, tld_first hf nf, hp, y]; rfl
              · obtain ⟨i, rfl⟩ : ∃ i, j = i + 1 := ⟨j - 1, by omega⟩
                rw [if_neg (fun u => u.elim y z), tld_step hf nf (by rw [← hp]; exact z), ← hp]
            have ln : (if j = 0 ∨ coef f p = 0 then tld f j else tld f j ++ (if coef f p < 0 then Str.ofString " - " else Str.ofString " + ")).length ≤ 4004 := by
              split
              · omega
              · rw [Str.length_append]
                have h3 : (if coef f p < 0 then Str.ofString " - " else Str.ofString " + ").length = 3 := by split <;> decide +kernel
                omega
            refine ⟨_, _, rfl, rfl, by rw [sizeLine_eq]; omega, g2.trans g3, some (.int (p : Int)), ?_⟩
            rw [e]
            rfl
      · rintro σ H2 ⟨g2, o, rfl⟩
        have : tld f f.length = wr f := by
          unfold tld wr tms
          rw [if_neg (by omega), if_neg hf]
        rw [this]
        exact ⟨_, rfl, q _ (ke.trans g2)⟩/-- whatever is raised -/
def Rz (CN : Addr) (H : Hp) (E : XK) : Prop := ∀ (ea : Addr) (H' : Hp), Same H H' → E (.ref ea) (some CN) H'
theorem Rz.on {CN : Addr} {H H' : Hp} {E : XK} (r : Rz CN H E) (g : Same H H') : Rz CN H' E := fun ea H2 g2 => r ea H2 (g.trans g2)
def Txo (x : Str) : Prop := Asc x ∧ x.length ≤ 9000
def spIsFig : Sp := fun vs H Q _ => ∃ x : Str, vs = [.str x] ∧ Txo x ∧ ∀ H', Same H H' → Q (.bl (decide (IsF x))) H'
def spReadFig (CN : Addr) : Sp := fun vs H Q E => ∃ x : Str, vs = [.str x] ∧ Txo x ∧ (∀ n, rf x = some n → ∀ H', Same H H' → Q (.int (n : Int)) H') ∧ (rf x = none → Rz CN H E)
theorem fig_not {c : Nat} (h : ¬ (48 ≤ c ∧ c ≤ 57)) : (!(Builtin.Str.occurrences (Str.ofString "0123456789") ⟨#[c]⟩ 0 (Str.ofString "0123456789").length 1).isEmpty) = false := by
  rw [StrLaws.found_one]
  refine decide_eq_false ?_
  have : (Str.ofString "0123456789").cps.toList = [48, 49, 50, 51, 52, 53, 54, 55, 56, 57] := by decide +kernel
  rw [this]
  simp only [List.mem_cons, List.not_mem_nil, or_false]
  omega
theorem fig_is (c : Nat) : (!(Builtin.Str.occurrences (Str.ofString "0123456789") ⟨#[c]⟩ 0 (Str.ofString "0123456789").length 1).isEmpty) = decide (48 ≤ c ∧ c ≤ 57) := by
  by_cases h : 48 ≤ c ∧ c ≤ 57
  · rw [fig_in h, decide_eq_true h]
  · rw [fig_not h, decide_eq_false h]
theorem take_snoc {α β : Type} (g : α → β) {l : List α} {i : Nat} {c : α} (h : l[i]? = some c) : (l.take i).map g ++ [g c] = (l.take (i + 1)).map g := by
  rw [List.take_succ, h, List.map_append]; rfl
theorem ok_is_figures (B : Blt mg) {t1 t2 : Tok} (m_FIGURES : mg "FIGURES" = some (.str (Str.ofString "0123456789") t1)) (m_MOST_FIGURES : mg "MOST_FIGURES" = some (.int 60 t2)) (F : Src K mg "is_figures" s_is_figures ["text"]) : Dfn P w K mg base 1 "is_figures" ["text"] spIsFig := by
  refine F.ok sc_is_figures (fun vs H Q E h => ?_) (fun f cdv A outer s H vs Q E hr h => ?_)
  · obtain ⟨n, rfl, _⟩ := h; rfl
  obtain ⟨x, rfl, hx, q⟩ := h
  refine ⟨_, pss_one (ps_ret (pe_and (pe_chain op_le op_le pe_int (pe_callB call_lenT rfl B.«len» bt_len (pa_cons (pv 0) pa_nil)) (pe_glob (v := .int 60) rfl m_MOST_FIGURES ⟨_, rfl⟩)) (pe_one (pe_callB (callK_all (K := K) rfl rfl) rfl B.«all» bt_all (pa_cons (pe_comp (compScope_mk (N := ["sign"]) (sl := [none]) (defScope s_is_figures) ["text"] rfl rfl (by decide +kernel)) rfl (pi_str (pv 0)) (fun _ _ _ _ _ => (pg_name (i := 0) (by show List.Nodup (["sign"] : List Str); decide +kernel) rfl (Or.inl rfl))) (fun _ _ _ _ _ => pif_none) (fun _ _ _ _ _ => (pe_cmpR op_in_str (pv 0) (pe_glob (v := .str (Str.ofString "0123456789")) rfl m_FIGURES ⟨_, rfl⟩) (by with_unfolding_all rfl)))) pa_nil))))), ?_⟩
  have l1 := hx.2
  have hz : x.length ≤ sizeLine := by rw [sizeLine_eq]; omega
  refine ⟨_, rfl, _, rfl, hz, _, _, rfl, rfl, ?_⟩
  refine ⟨_, rfl, ?_⟩
  by_cases c1 : 1 ≤ x.length
  · refine iteY (by omega) ⟨_, _, rfl, rfl, _, rfl, ?_⟩
    by_cases c2 : x.length ≤ 60
    · refine iteY (by omega) ?_
      refine ⟨_, rfl, _, rfl, asc_all hx.1, fun D hD => ?_⟩
      refine comp_str (fun i ys H2 => Same H H2 ∧ ys = (((cs x).take i).map fun c => decide (48 ≤ c ∧ c ≤ 57)).map V.bl) ⟨same_new hD _, rfl⟩ ?_ ?_
      · rintro i m c ys H2 hm hi hc hy hlen ⟨gg, rfl⟩
        refine ⟨_, rfl, _, _, rfl, rfl, ?_⟩
        rw [fig_is]
        refine CW.emit hm hi (by rw [sizeLine_eq]; omega) hy hlen ⟨Same.free_upd gg hD _, ?_⟩
        have := take_snoc (fun c => decide (48 ≤ c ∧ c ≤ 57)) (l := cs x) (i := i) (c := c) (by simpa using hc)
        rw [← this, List.map_append]; rfl
      · rintro ys H2 hy ⟨gg, rfl⟩
        refine ⟨D, _, rfl, SqL.of hy, ?_⟩
        have e : (((cs x).take x.length).map fun c => decide (48 ≤ c ∧ c ≤ 57)).all id = decide (IsF x) := by
          rw [← cs_len, List.take_length, Bool.eq_iff_iff, List.all_map, List.all_eq_true, decide_eq_true_iff]
          constructor
          · intro h
            exact ⟨by omega, by omega, fun c hc => of_decide_eq_true (h c hc)⟩
          · intro h c hc
            exact decide_eq_true (h.2.2 c hc)
        rw [e]
        exact q _ gg
    · refine iteN (by omega) ?_
      have : decide (IsF x) = false := decide_eq_false fun z => c2 z.2.1
      have q := q H (Same.refl H)
      rw [this] at q
      exact q
  · refine iteN (by omega) ⟨_, rfl, iteF ?_⟩
    have : decide (IsF x) = false := decide_eq_false fun z => c1 z.1
    have q := q H (Same.refl H)
    rw [this] at q
    exact q
abbrev bmV : List Value := [.type "ValueError", .type "Exception", .type "BaseException", .type "object"]
theorem ok_read_figures {C_NoText : Addr} (m_NoText : mg "NoText" = some (.ref C_NoText)) (q_NoText : PySem.W.excIn K C_NoText bmV "ValueError.__new__" = true) (B : Blt mg) (d_is_figures : Dfn P w K mg base 1 "is_figures" ["text"] spIsFig) (F : Src K mg "read_figures" s_read_figures ["text"]) : DfnE P w K mg base 2 "read_figures" ["text"] (spReadFig C_NoText) := by
  refine F.okE sc_read_figures (fun vs H Q E h => ?_) (fun f cdv A outer s H vs Q E hr h => ?_)
  · obtain ⟨n, rfl, _⟩ := h; rfl
  obtain ⟨x, rfl, hx, q1, q2⟩ := h
  refine ⟨_, pss_cons (ps_if (pt_not (pt_val (pe_def d_is_figures hr (pa_cons (pv 0) pa_nil))))
      (pss_one (ps_raise raises_e rfl rfl m_NoText q_NoText PySem.F.excBase_ValueError rfl PySem.F.excBase_ValueError (pa_cons pe_str pa_nil)))
      (pss_nil))
    (pss_one (ps_ret (pe_callTy call_intT rfl B.«int» bt_int (pa_cons (pv 0) pa_nil)))), ?_⟩
  refine ⟨_, rfl, x, rfl, hx, fun H' g => ⟨_, rfl, ?_⟩⟩
  by_cases c : IsF x
  · refine iteNS c ?_
    exact ⟨_, rfl, _, _, rfl, fv_read c, by have := c.2.1; omega, q1 _ (by unfold rf; rw [if_pos c]) H' g⟩
  · refine iteS c ⟨by rw [sizeLine_eq]; decide, fun ea _ => ?_⟩
    exact q2 (by unfold rf; rw [if_neg c]) ea H' g
def spReadTerm (CN : Addr) : Sp := fun vs H Q E => ∃ x : Str, vs = [.str x] ∧ Txo x ∧ (∀ k p, rt x = some (k, p) → ∀ (t : Addr) (H' : Hp), Same H H' → H t = none → H' t = some (.tup [.int (k : Int), .int (p : Int)]) → Q (.ref t) H') ∧ (rt x = none → Rz CN H E)
theorem txo_sub {x y : Str} (h : Txo x) (hs : ∀ c ∈ cs y, c ∈ cs x) (hl : y.length ≤ x.length) : Txo y := ⟨fun c hc => h.1 c (hs c hc), Nat.le_trans hl h.2⟩
theorem txo_slice {x : Str} (h : Txo x) (lo hi : Option Int) : Txo (Txt.slice x lo hi) := txo_sub h (slice_sub x lo hi).2 (slice_sub x lo hi).1
theorem ok_read_term {C_NoText : Addr} (m_NoText : mg "NoText" = some (.ref C_NoText)) (q_NoText : PySem.W.excIn K C_NoText bmV "ValueError.__new__" = true) (B : Blt mg) {t1 : Tok} (m_MOST_POWER : mg "MOST_POWER" = some (.int 12 t1)) (d_read_figures : DfnE P w K mg base 2 "read_figures" ["text"] (spReadFig C_NoText)) (F : Src K mg "read_term" s_read_term ["word"]) : DfnE P w K mg base 3 "read_term" ["word"] (spReadTerm C_NoText) := by
  refine F.okE sc_read_term (fun vs H Q E h => ?_) (fun f cdv A outer s H vs Q E hr h => ?_)
  · obtain ⟨x, rfl, _⟩ := h; rfl
  obtain ⟨x, rfl, hx, q1, q2⟩ := h
  refine ⟨_, pss_cons (ps_asg (pe_bm PySem.F.plainAttrs_str PySem.F.slot_str_partition PySem.F.type_str_partition mt_part (pv 0) (pa_cons pe_str pa_nil)) (pgK_tup (n := 3) (K := K) rfl rfl (pgs_cons (pg_name (i := 1) sc_read_term.nd rfl (Or.inl rfl)) (pgs_cons (pg_name (i := 2) sc_read_term.nd rfl (Or.inl rfl)) (pgs_cons (pg_name (i := 3) sc_read_term.nd rfl (Or.inl rfl)) pgs_nil)))))
    (pss_cons (ps_if (pt_cmpR op_eq (pv 2) pe_str (nomark _))
      (pss_one (ps_ret (pe_tup (pa_cons (pe_defE d_read_figures pass_e hr (pa_cons (pv 0) pa_nil)) (pa_cons pe_int pa_nil)))))
      (pss_nil))
    (pss_cons (ps_set (i := 4) sc_read_term.nd rfl (Or.inl rfl) (pe_ifExp (pt_cmpR op_eq (pv 1) pe_str (nomark _)) pe_int (pe_defE d_read_figures pass_e hr (pa_cons (pe_slice sl_str (pv 1) po_none (po_some (pe_un un_neg pe_int))) pa_nil))))
    (pss_cons (ps_set (i := 5) sc_read_term.nd rfl (Or.inl rfl) (pe_ifExp (pt_cmpR op_eq (pv 3) pe_str (nomark _)) pe_int (pe_defE d_read_figures pass_e hr (pa_cons (pe_slice sl_str (pv 3) (po_some pe_int) po_none) pa_nil))))
    (pss_cons (ps_if (pt_cmpR op_gt (pv 5) (pe_glob (v := .int 12) rfl m_MOST_POWER ⟨_, rfl⟩) (nomark _))
      (pss_one (ps_raise raises_e rfl rfl m_NoText q_NoText PySem.F.excBase_ValueError rfl PySem.F.excBase_ValueError (pa_cons pe_str pa_nil)))
      (pss_nil))
    (pss_one (ps_ret (pe_tup (pa_cons (pv 4) (pa_cons (pv 5) pa_nil))))))))), ?_⟩
  have lx := hx.2
  refine ⟨_, rfl, rfl, _, _, rfl, rfl, by decide +kernel, by omega, ?_⟩
  rw [s_x]
  obtain ⟨sa, sb, la, lb⟩ := part_sub x ⟨#[120]⟩
  have ert : rt x = if (Txt.partition x ⟨#[120]⟩).2.1 = Str.empty then (rf x).map fun k => (k, 0)
    else ((if (Txt.partition x ⟨#[120]⟩).1 = Str.empty then some 1 else rf (Txt.slice (Txt.partition x ⟨#[120]⟩).1 none (some (-1))))).bind fun k =>
      ((if (Txt.partition x ⟨#[120]⟩).2.2 = Str.empty then some 1 else rf (Txt.slice (Txt.partition x ⟨#[120]⟩).2.2 (some 1) none))).bind fun q => if q ≤ 12 then some (k, q) else none := rfl
  generalize Txt.partition x ⟨#[120]⟩ = pt at sa sb la lb ert
  obtain ⟨a, l, b⟩ := pt
  dsimp only at sa sb la lb ert ⊢
  have ta : Txo a := txo_sub hx sa la
  have tb : Txo b := txo_sub hx sb lb
  intro p1 n1
  have k1 := same_new n1 (.tup [.str a, .str l, .str b])
  refine ⟨p1, _, rfl, SqT.of upd_same, rfl, _, _, rfl, _, _, rfl, _, _, rfl, rfl, ?_⟩
  generalize upd H p1 _ = H1 at k1
  refine ⟨_, rfl, rfl, _, rfl, ?_⟩
  by_cases c0 : l = Str.empty
  · rw [if_pos c0] at ert
    refine iteY (by show V.str _ = V.str _; rw [s_em, c0]) ?_
    refine ⟨_, rfl, x, rfl, hx, fun n hn H2 g2 => ?_, fun hn => ?_⟩
    · refine ⟨len_ok rfl, fun t nt => ?_⟩
      exact q1 n 0 (by rw [ert, hn]; rfl) t _ ((k1.trans g2).trans (same_new nt _)) ((k1.trans g2).free nt) upd_same
    · exact (q2 (by rw [ert, hn]; rfl)).on k1
  · rw [if_neg c0] at ert
    refine iteN (fun z => c0 (by have := V.str.inj z; rw [s_em] at this; exact this)) ?_
    generalize e1 : (if a = Str.empty then some 1 else rf (Txt.slice a none (some (-1)))) = ok at ert
    generalize e2 : (if b = Str.empty then some 1 else rf (Txt.slice b (some 1) none)) = oq at ert
    apply merge (M := fun σ HM => Same H1 HM ∧ ∃ k : Nat, ok = some k ∧ σ = [some (.str x), some (.str a), some (.str l), some (.str b), some (.int (k : Int)), none])
    case h1 =>
      intro key
      refine ⟨_, rfl, rfl, _, rfl, ?_⟩
      by_cases c1 : a = Str.empty
      · rw [if_pos c1] at e1
        exact iteY (by show V.str a = V.str _; rw [s_em, c1]) (key _ _ ⟨Same.refl _, 1, e1.symm, rfl⟩)
      · rw [if_neg c1] at e1
        refine iteN (fun z => c1 (by have := V.str.inj z; rw [s_em] at this; exact this)) ?_
        refine ⟨_, rfl, _, rfl, _, rfl, _, rfl, by show a.length ≤ 100000; have := ta.2; omega, _, rfl, txo_slice ta _ _, fun n hn H2 g2 => key _ _ ⟨g2, n, by rw [← e1, ← hn], rfl⟩, fun hn => ?_⟩
        exact (q2 (by rw [ert, ← e1, show rf (Txt.slice a none (some (-1))) = none from hn]; rfl)).on k1
    case h2 =>
      rintro σ HM ⟨gM, k, hk, rfl⟩
      rw [hk] at ert
      apply merge (M := fun σ HN => Same HM HN ∧ ∃ p : Nat, oq = some p ∧ σ = [some (.str x), some (.str a), some (.str l), some (.str b), some (.int (k : Int)), some (.int (p : Int))])
      case h1 =>
        intro key
        refine ⟨_, rfl, rfl, _, rfl, ?_⟩
        by_cases c1 : b = Str.empty
        · rw [if_pos c1] at e2
          exact iteY (by show V.str b = V.str _; rw [s_em, c1]) (key _ _ ⟨Same.refl _, 1, e2.symm, rfl⟩)
        · rw [if_neg c1] at e2
          refine iteN (fun z => c1 (by have := V.str.inj z; rw [s_em] at this; exact this)) ?_
          refine ⟨_, rfl, _, rfl, _, rfl, by show b.length ≤ 100000; have := tb.2; omega, _, rfl, txo_slice tb _ _, fun n hn H2 g2 => key _ _ ⟨g2, n, by rw [← e2, ← hn], rfl⟩, fun hn => ?_⟩
          exact (q2 (by rw [ert, ← e2, show rf (Txt.slice b (some 1) none) = none from hn]; rfl)).on (k1.trans gM)
      case h2 =>
        rintro σ HN ⟨gN, p, hp, rfl⟩
        rw [hp] at ert
        have ert : rt x = if p ≤ 12 then some (k, p) else none := ert
        have gA := k1.trans (gM.trans gN)
        refine ⟨_, rfl, _, _, rfl, rfl, _, rfl, ?_⟩
        by_cases c2 : p ≤ 12
        · rw [if_pos c2] at ert
          refine iteN (by omega) ?_
          refine ⟨_, rfl, _, rfl, len_ok rfl, fun t nt => ?_⟩
          exact q1 k p ert t _ (gA.trans (same_new nt _)) (gA.free nt) upd_same
        · rw [if_neg c2] at ert
          exact iteY (by omega) ⟨by rw [sizeLine_eq]; decide, fun ea _ => q2 ert ea HN gA⟩
def Wso (ws : List Str) : Prop := (∀ w ∈ ws, Txo w) ∧ ws.length ≤ 9500 ∧ ws.length % 2 = 0
def spReadWords (K : PySem.W.Frag) (CN : Addr) : Sp := fun vs H Q E => ∃ (a : Addr) (ws : List Str), vs = [.ref a] ∧ SqL K H a (ws.map V.str) ∧ Wso ws ∧ (∀ T, rdK rdP ws (ws.length / 2) = some T → New H Q (trim (accL T))) ∧ (rdK rdP ws (ws.length / 2) = none → Rz CN H E)
theorem str_ix {ws : List Str} {k : Nat} {x : Str} (h : ws[k]? = some x) : atI (ws.map V.str) ((k : Nat) : Int) = some (.str x) := by
  have hk : k < ws.length := (List.getElem?_eq_some_iff.mp h).1
  unfold atI
  rw [ixN_nat (by omega) (by rw [List.length_map]; omega)]
  show (ws.map V.str)[((k : Nat) : Int).toNat]? = _
  rw [Int.toNat_natCast, List.getElem?_map, h]; rfl
theorem ok_read_words {C_NoText : Addr} (B : Blt mg) {t1 : Tok} (m_MOST_POWER : mg "MOST_POWER" = some (.int 12 t1)) (d_read_term : DfnE P w K mg base 3 "read_term" ["word"] (spReadTerm C_NoText)) (d_without_noughts_behind : Dfn P w K mg base 1 "without_noughts_behind" ["numbers"] (spTrim K)) (F : Src K mg "read_words" s_read_words ["words"]) : DfnE P w K mg base 4 "read_words" ["words"] (spReadWords K C_NoText) := by
  refine F.okE sc_read_words (fun vs H Q E h => ?_) (fun f cdv A outer s H vs Q E hr h => ?_)
  · obtain ⟨a, ws, rfl, _⟩ := h; rfl
  obtain ⟨a, ws, rfl, ha, ⟨ho, lw, le⟩, q1, q2⟩ := h
  refine ⟨_, pss_cons (ps_set (i := 1) sc_read_words.nd rfl (Or.inl rfl) (pe_op op_rep (pe_lst (pa_cons pe_int pa_nil)) (pe_op op_add (pe_glob (v := .int 12) rfl m_MOST_POWER ⟨_, rfl⟩) pe_int)))
    (pss_cons (ps_for own_e rfl (pi_rangeS rfl B.«range» (pa_cons pe_int (pa_cons (pe_callB (callK_len (K := K) rfl) rfl B.«len» bt_len (pa_cons (pv 0) pa_nil)) (pa_cons pe_int pa_nil)))) (pg_name (i := 2) sc_read_words.nd rfl (Or.inl rfl))
      (pss_cons (ps_asg (pe_defE d_read_term pass_e hr (pa_cons (pe_ix (ixK_list (K := K) rfl) (pv 0) (pe_op op_add (pv 2) pe_int) (fun _ _ => rfl)) pa_nil)) (pgK_tup (n := 2) (K := K) rfl rfl (pgs_cons (pg_name (i := 3) sc_read_words.nd rfl (Or.inl rfl)) (pgs_cons (pg_name (i := 4) sc_read_words.nd rfl (Or.inl rfl)) pgs_nil))))
      (pss_one (ps_augS (pv 1) (pv 4) (getK_list (K := K) rfl) (pe_ifExp (pt_cmpR op_eq (pe_ix (ixK_list (K := K) rfl) (pv 0) (pv 2) (fun _ _ => rfl)) pe_str (nomark _)) (pe_un un_neg (pv 3)) (pv 3)) ip_add set_list))))
    (pss_one (ps_ret (pe_def d_without_noughts_behind hr (pa_cons (pv 1) pa_nil))))), ?_⟩
  have hl : (ws.map V.str).length = ws.length := List.length_map _
  refine ⟨len_ok rfl, fun p1 n1 => ?_⟩
  have k1 := same_new n1 (.lst [.int 0])
  refine ⟨_, _, rfl, rfl, p1, _, _, rfl, rfl, upd_same, by decide, by decide, by rw [sizeLine_eq]; decide, fun p hp => ?_⟩
  have e13 : (List.replicate ((12 : Int) + 1).toNat [V.int 0]).flatten = (List.replicate 13 (0 : Int)).map V.int := rfl
  rw [e13]
  have k2 := k1.trans (same_new hp (.lst ((List.replicate 13 (0 : Int)).map V.int)))
  have fp : H p = none := k1.free hp
  refine ⟨_, rfl, a, _, rfl, .inl (k2.seq ha), ?_⟩
  rw [hl]
  refine ⟨_, _, rfl, ⟨by omega, by omega, by omega, by omega⟩, ?_⟩
  have ec : (if (0 : Int) < (ws.length : Int) then ((ws.length : Int) - 0 - 1) / 2 + 1 else 0).toNat = ws.length / 2 := by split <;> omega
  rw [ec]
  refine for_step (fun k σ H2 => Same H H2 ∧ ∃ (T : List Tm) (N : List Int) (o1 o2 o3 : Option V), rdK rdP ws k = some T ∧ σ = [some (.ref a), some (.ref p), o1, o2, o3] ∧ H2 p = some (.lst (N.map V.int)) ∧ N.length = 13 ∧ ∀ q, q < 13 → coef N q = acc T q)
    ⟨k2, [], _, _, _, _, rfl, rfl, upd_same, by simp, fun q _ => coef_replicate _ _⟩ ?_ ?_
  · rintro k σ H2 hk ⟨g2, T, N, o1, o2, o3, hT, rfl, eN, lN, hN⟩
    obtain ⟨sg, hs⟩ : ∃ sg, ws[2 * k]? = some sg := ⟨ws[2 * k], by simp [show 2 * k < ws.length by omega]⟩
    obtain ⟨wd, hw⟩ : ∃ wd, ws[2 * k + 1]? = some wd := ⟨ws[2 * k + 1], by simp [show 2 * k + 1 < ws.length by omega]⟩
    have w1 := str_ix hs
    have w2 := str_ix hw
    have e1 : (0 : Int) + (k : Int) * 2 + 1 = ((2 * k + 1 : Nat) : Int) := by omega
    have e0 : (0 : Int) + (k : Int) * 2 = ((2 * k : Nat) : Int) := by omega
    have etm : tmAt rdP ws k = rdP sg wd := by unfold tmAt; rw [hs, hw]; rfl
    have erk : rdK rdP ws (k + 1) = (rdP sg wd).bind fun t => some (T ++ [t]) := by
      show (rdK rdP ws k).bind _ = _
      rw [hT]
      show (tmAt rdP ws k).bind _ = _
      rw [etm]
    refine ⟨_, rfl, _, rfl, _, _, rfl, rfl, a, _, _, _, rfl, rfl, g2.seq ha, by rw [e1]; exact w2, ?_⟩
    refine ⟨wd, rfl, ho wd (List.mem_of_getElem? hw), fun n m hnm tu H3 g3 ntu etu => ?_, fun hn => ?_⟩
    · have et : rdP sg wd = some (if sg = Str.ofString "-" then -(n : Int) else (n : Int), m) := by unfold rdP; rw [hnm]; rfl
      rw [et] at erk
      have erk : rdK rdP ws (k + 1) = some (T ++ [(if sg = Str.ofString "-" then -(n : Int) else (n : Int), m)]) := erk
      have hm := (rt_small hnm).2
      refine ⟨tu, _, rfl, SqT.of etu, rfl, _, _, rfl, _, _, rfl, rfl, ?_⟩
      have eN3 := g3 _ _ eN
      refine ⟨_, rfl, _, rfl, p, _, _, .int (coef N m), rfl, rfl, SqL.of eN3, by omega, ?_, ?_⟩
      · rw [Int.toNat_natCast]; exact map_int_at (by omega)
      refine ⟨_, rfl, _, rfl, a, _, _, _, rfl, rfl, (g2.trans g3).seq ha, by rw [e0]; exact w1, ?_⟩
      have fin : ∀ x : Int, x = (if sg = Str.ofString "-" then -(n : Int) else (n : Int)) → ipI (fun i j => i + j) (.int (coef N m)) (.int x) H3 fun z H5 => rSetL (.ref p) (.int (m : Int)) z H5 fun H6 => Same H H6 ∧ ∃ (T : List Tm) (N : List Int) (o1 o2 o3 : Option V), rdK rdP ws (k + 1) = some T ∧ [some (V.ref a), some (V.ref p), some (V.int (0 + (k : Int) * 2)), some (V.int (n : Int)), some (V.int (m : Int))] = [some (V.ref a), some (V.ref p), o1, o2, o3] ∧ H6 p = some (.lst (N.map V.int)) ∧ N.length = 13 ∧ ∀ q, q < 13 → coef N q = acc T q := by
        rintro x hx
        refine ⟨_, _, rfl, rfl, p, _, _, m, rfl, rfl, eN3, by rw [List.length_map]; exact ixN_nat (by omega) (by omega), ?_⟩
        refine ⟨(g2.trans g3).free_upd fp _, _, N.set m (coef N m + x), _, _, _, erk, rfl, by rw [← map_int_set]; exact upd_same, by rw [List.length_set]; exact lN, fun q hq => ?_⟩
        rw [coef_set (by omega), acc_app]
        show _ = _ + ((if m = q then (if sg = Str.ofString "-" then -(n : Int) else (n : Int)) else 0) + 0)
        rw [← hx]
        by_cases y : q = m
        · rw [if_pos y, if_pos y.symm, hN m (by omega), y]; omega
        · rw [if_neg y, if_neg (fun z => y z.symm), hN q hq]; omega
      refine ⟨rfl, _, rfl, ?_⟩
      by_cases v : sg = Str.ofString "-"
      · refine iteY (by show V.str sg = _; rw [v]) ⟨_, rfl, _, rfl, ?_⟩
        exact fin (- (n : Int)) (by rw [if_pos v])
      · refine iteN (fun z => v (V.str.inj z)) ⟨_, rfl, ?_⟩
        exact fin (n : Int) (by rw [if_neg v])
    · have et : rdP sg wd = none := by unfold rdP; rw [hn]; rfl
      rw [et] at erk
      exact (q2 (rdK_none erk _ (by omega))).on g2
  · rintro σ H2 ⟨g2, T, N, o1, o2, o3, hT, rfl, eN, lN, hN⟩
    refine ⟨_, rfl, p, N, rfl, SqL.of eN, by omega, fun p2 H3 g3 n3 e3 => q1 T hT p2 H3 (g2.trans g3) (g2.free n3) ?_⟩
    have : trim N = trim (accL T) := trim_ext fun i => by
      by_cases h : i < 13
      · rw [hN i h]
        unfold accL
        rw [coef_map_range h]
      · rw [coef_ge (by omega), coef_ge (by unfold accL; rw [List.length_map, List.length_range]; omega)]
    rw [← this]
    exact e3
def spReadPoly (K : PySem.W.Frag) (CN : Addr) : Sp := fun vs H Q E => ∃ v : V, vs = [v] ∧ (∀ x, v = .str x → Txo x ∧ (∀ f, rd rdP x = some f → New H Q f) ∧ (rd rdP x = none → Rz CN H E)) ∧ ((∀ x, v ≠ .str x) → (∃ T, TyB K H v T ∧ PySem.W.kitOne K (.type T) (.type "str") = some false) ∧ Rz CN H E)
theorem len_split {x : Str} (h : x.length ≤ 9000) : (Txt.split x ⟨#[32]⟩).length ≤ 9002 := by have := split_many x ⟨#[32]⟩; omega
theorem wds_ok {x : Str} (h : Txo x) : (∀ w ∈ wds x, Txo w) ∧ (wds x).length ≤ 9500 := by
  have hm : Txo (Str.ofString "-") := ⟨fun c hc => by rw [cs_mi] at hc; rw [List.mem_singleton.mp hc]; decide, by decide +kernel⟩
  have hp : Txo (Str.ofString "+") := ⟨fun c hc => by rw [cs_pl] at hc; rw [List.mem_singleton.mp hc]; decide, by decide +kernel⟩
  have hs : ∀ y : Str, Txo y → (∀ w ∈ Txt.split y ⟨#[32]⟩, Txo w) ∧ (Txt.split y ⟨#[32]⟩).length ≤ 9002 := fun y hy => ⟨fun w hw => txo_sub hy (split_sub y ⟨#[32]⟩ w hw).1 (split_sub y ⟨#[32]⟩ w hw).2, len_split hy.2⟩
  unfold wds
  split
  · obtain ⟨h1, h2⟩ := hs _ (txo_slice h (some 1) none)
    refine ⟨fun w hw => ?_, by rw [List.length_cons]; omega⟩
    rcases List.mem_cons.mp hw with y | y
    · rw [y]; exact hm
    · exact h1 w y
  · obtain ⟨h1, h2⟩ := hs _ h
    refine ⟨fun w hw => ?_, by rw [List.length_cons]; omega⟩
    rcases List.mem_cons.mp hw with y | y
    · rw [y]; exact hp
    · exact h1 w y
theorem ok_read_polynomial {C_NoText : Addr} (m_NoText : mg "NoText" = some (.ref C_NoText)) (q_NoText : PySem.W.excIn K C_NoText bmV "ValueError.__new__" = true) (B : Blt mg) (d_read_words : DfnE P w K mg base 4 "read_words" ["words"] (spReadWords K C_NoText)) (d_written : Dfn P w K mg base 3 "written" ["f"] (spWrit K)) (F : Src K mg "read_polynomial" s_read_polynomial ["text"]) : DfnE P w K mg base 5 "read_polynomial" ["text"] (spReadPoly K C_NoText) := by
  refine F.okE sc_read_polynomial (fun vs H Q E h => ?_) (fun fa cdv A outer s H vs Q E hr h => ?_)
  · obtain ⟨v, rfl, _⟩ := h; rfl
  obtain ⟨v, rfl, hs, hn⟩ := h
  refine ⟨_, pss_cons (ps_if (pt_not (pt_val (pe_callB (callK_isinst (K := K) rfl) rfl B.«isinstance» bt_isinstance (pa_cons (pv 0) (pa_cons (pe_bltn (v := .ty "str") rfl B.«str» bt_str rfl) pa_nil)))))
      (pss_one (ps_raise raises_e rfl rfl m_NoText q_NoText PySem.F.excBase_ValueError rfl PySem.F.excBase_ValueError (pa_cons pe_str pa_nil)))
      (pss_nil))
    (pss_cons (ps_set (i := 1) sc_read_polynomial.nd rfl (Or.inl rfl) (pe_ifExp (pt_val (pe_bm PySem.F.plainAttrs_str PySem.F.slot_str_startswith PySem.F.type_str_startswith mt_starts (pv 0) (pa_cons pe_str pa_nil))) (pe_op op_cat (pe_lst (pa_cons pe_str pa_nil)) (pe_bm PySem.F.plainAttrs_str PySem.F.slot_str_split PySem.F.type_str_split mt_split (pe_slice sl_str (pv 0) (po_some pe_int) po_none) (pa_cons pe_str pa_nil))) (pe_op op_cat (pe_lst (pa_cons pe_str pa_nil)) (pe_bm PySem.F.plainAttrs_str PySem.F.slot_str_split PySem.F.type_str_split mt_split (pv 0) (pa_cons pe_str pa_nil)))))
    (pss_cons (ps_if (pt_cmpR op_eq (pe_op op_modN (pe_callB (callK_len (K := K) rfl) rfl B.«len» bt_len (pa_cons (pv 1) pa_nil)) pe_int) pe_int (nomark _))
      (pss_one (ps_raise raises_e rfl rfl m_NoText q_NoText PySem.F.excBase_ValueError rfl PySem.F.excBase_ValueError (pa_cons pe_str pa_nil)))
      (pss_nil))
    (pss_cons (ps_set (i := 2) sc_read_polynomial.nd rfl (Or.inl rfl) (pe_defE d_read_words pass_e hr (pa_cons (pv 1) pa_nil)))
    (pss_cons (ps_if (pt_cmpR op_ne (pe_def d_written hr (pa_cons (pv 2) pa_nil)) (pv 0) (nomark _))
      (pss_one (ps_raise raises_e rfl rfl m_NoText q_NoText PySem.F.excBase_ValueError rfl PySem.F.excBase_ValueError (pa_cons pe_str pa_nil)))
      (pss_nil))
    (pss_one (ps_ret (pv 2))))))), ?_⟩
  by_cases cs0 : ∃ x, v = .str x
  · obtain ⟨x, rfl⟩ := cs0
    obtain ⟨hx, q1, q2⟩ := hs x rfl
    have lx := hx.2
    obtain ⟨wo, wl⟩ := wds_ok hx
    refine ⟨_, rfl, _, "str", "str", true, rfl, .str _, rfl, _, rfl, iteF ?_⟩
    apply merge (M := fun σ HM => Same H HM ∧ ∃ p, HM p = some (.lst ((wds x).map V.str)) ∧ σ = [some (.str x), some (.ref p), none])
    case h1 =>
      intro key
      refine ⟨_, rfl, rfl, _, _, rfl, rfl, ?_⟩
      rw [s_mi, starts_one]
      refine ⟨_, rfl, ?_⟩
      have lsp := len_split (txo_slice hx (some 1) none).2
      have lsq := len_split lx
      by_cases v : (cs x)[0]? = some 45
      · refine iteY v ?_
        refine ⟨len_ok rfl, fun p1 n1 => ?_⟩
        have k1 := same_new n1 (.lst [.str (Str.ofString "-")])
        refine ⟨_, rfl, _, rfl, _, rfl, by omega, ?_⟩
        refine ⟨rfl, _, _, rfl, rfl, by decide +kernel, by have := (txo_slice hx (some 1) none).2; omega, ?_⟩
        rw [s_sp]
        intro p2 n2
        have k2 := same_new n2 (.lst ((Txt.split (Txt.slice x (some 1) none) ⟨#[32]⟩).map V.str))
        refine ⟨p1, p2, _, _, rfl, rfl, k2 _ _ upd_same, upd_same, ?_, fun p3 n3 => ?_⟩
        · rw [List.length_map, sizeLine_eq]; show 1 + _ ≤ _; omega
        · refine key _ _ ⟨(k1.trans k2).trans (same_new n3 _), p3, ?_, rfl⟩
          rw [upd_same]
          unfold wds
          rw [if_pos v]
          rfl
      · refine iteN v ?_
        refine ⟨len_ok rfl, fun p1 n1 => ?_⟩
        have k1 := same_new n1 (.lst [.str (Str.ofString "+")])
        refine ⟨_, rfl, rfl, _, _, rfl, rfl, by decide +kernel, by omega, ?_⟩
        rw [s_sp]
        intro p2 n2
        have k2 := same_new n2 (.lst ((Txt.split x ⟨#[32]⟩).map V.str))
        refine ⟨p1, p2, _, _, rfl, rfl, k2 _ _ upd_same, upd_same, ?_, fun p3 n3 => ?_⟩
        · rw [List.length_map, sizeLine_eq]; show 1 + _ ≤ _; omega
        · refine key _ _ ⟨(k1.trans k2).trans (same_new n3 _), p3, ?_, rfl⟩
          rw [upd_same]
          unfold wds
          rw [if_neg v]
          rfl
    case h2 =>
      rintro σ HM ⟨gM, p, ep, rfl⟩
      have lm : ((wds x).map V.str).length = (wds x).length := List.length_map _
      refine ⟨_, rfl, p, _, rfl, .inl (SqL.of ep), ?_⟩
      rw [lm]
      have em : ∀ n : Nat, (V.int (((n : Nat) : Int).fmod 2) = V.int 1) ↔ n % 2 = 1 := fun n => by
        rw [Int.fmod_eq_emod_of_nonneg _ (by decide)]
        constructor
        · intro z; have := V.int.inj z; omega
        · intro z; congr 1; omega
      refine ⟨_, _, rfl, rfl, (by decide : (2 : Int) ≠ 0), rfl, _, rfl, ?_⟩
      by_cases c1 : (wds x).length % 2 = 1
      · refine iteY ((em _).mpr c1) ⟨by rw [sizeLine_eq]; decide, fun ea _ => q2 (by unfold rd; rw [if_pos c1]) ea HM gM⟩
      · refine iteN (fun z => c1 ((em _).mp z)) ?_
        have erd : rd rdP x = (rdK rdP (wds x) ((wds x).length / 2)).bind fun T => if wr (trim (accL T)) = x then some (trim (accL T)) else none := by unfold rd; rw [if_neg c1]
        refine ⟨_, rfl, p, wds x, rfl, SqL.of ep, ⟨wo, wl, by omega⟩, fun T hT pt H2 g2 n2 e2 => ?_, fun hn => ?_⟩
        · rw [hT] at erd
          have erd : rd rdP x = if wr (trim (accL T)) = x then some (trim (accL T)) else none := erd
          obtain ⟨lT, sT⟩ := rdK_len good_P hT
          have gd : Gd (trim (accL T)) := ⟨norm_trim _, by have := trim_le (f := accL T); rw [accL_len] at this; exact this, acc_gd sT (by omega)⟩
          refine ⟨_, rfl, pt, _, rfl, SqL.of e2, gd, fun H3 g3 => ?_⟩
          refine ⟨_, rfl, rfl, _, rfl, ?_⟩
          have gA := gM.trans (g2.trans g3)
          by_cases c2 : wr (trim (accL T)) = x
          · exact iteNS (by rw [c2]) ⟨_, rfl, q1 _ (by rw [erd, if_pos c2]) pt H3 gA (gM.free n2) (g3 _ _ e2)⟩
          · exact iteS (fun z => c2 (V.str.inj z)) ⟨by rw [sizeLine_eq]; decide, fun ea _ => q2 (by rw [erd, if_neg c2]) ea H3 gA⟩
        · exact (q2 (by rw [erd, hn]; rfl)).on gM
  · obtain ⟨⟨T, ty, kt⟩, rz⟩ := hn fun x z => cs0 ⟨x, z⟩
    refine ⟨_, rfl, _, T, "str", false, rfl, ty, kt, _, rfl, iteT ?_⟩
    exact ⟨by rw [sizeLine_eq]; decide, fun ea _ => rz ea H (Same.refl H)⟩
end
def Gs (f : List Int) : Prop := Norm f ∧ f.length ≤ 13 ∧ ∀ i, (coef f i).natAbs < 10 ^ 60
theorem Gs.gd {f : List Int} (h : Gs f) : Gd f := ⟨h.1, h.2.1, fun i => Nat.lt_of_lt_of_le (h.2.2 i) (by decide)⟩
def spBag (K : PySem.W.Frag) : Sp := fun vs H Q _ => ∃ (a : Addr) (ns : List Int) (k : Int), vs = [.ref a, .int k] ∧ SqL K H a (ns.map V.int) ∧ 0 ≤ k ∧ ∀ (p : Addr) (g r : Int) (H' : Hp), Same H H' → H p = none → H' p = some (.lst [.int g, .int r]) → Q (.ref p) H'
def spTake (K : PySem.W.Frag) : Sp := fun vs H Q _ => ∃ (b : Addr) (g r m : Int), vs = [.ref b, .int m] ∧ H b = some (.lst [.int g, .int r]) ∧ 0 < m ∧ Bd 9000 m ∧ ∀ d g' r' : Int, 0 ≤ d → d < m → Q (.int d) (upd H b (.lst [.int g', .int r']))
def But (b : Addr) (H H' : Hp) : Prop := ∀ a o, a ≠ b → H a = some o → H' a = some o
theorem But.refl (b : Addr) (H : Hp) : But b H H := fun _ _ _ h => h
theorem But.trans {b : Addr} {H H' H'' : Hp} (h : But b H H') (h' : But b H' H'') : But b H H'' := fun a o n e => h' a o n (h a o n e)
theorem But.of {b : Addr} {H H' : Hp} (h : Same H H') : But b H H' := fun a o _ e => h a o e
theorem But.upd {b : Addr} {H H' : Hp} (h : But b H H') (o : HO) : But b H (upd H' b o) := fun a u n e => by rw [upd_ne n]; exact h a u n e
theorem But.free_upd {b p : Addr} {H H' : Hp} (h : But b H H') (hp : H p = none) (o : HO) : But b H (L2.upd H' p o) := fun a u n e => by
  rw [upd_ne (fun z => by rw [z, hp] at e; cases e)]
  exact h a u n e
def IsSg (n : Int) : Prop := n = 1 ∨ n = -1
section
variable {P : Program} {w : World} {K : PySem.W.Frag} {mg : Str → Option Value} {base : Heap}
theorem ok_q_bag (B : Blt mg) (F : Src K mg "_law_bag" s_q_bag ["_law_script", "_law_at"]) : Dfn P w K mg base 1 "_law_bag" ["_law_script", "_law_at"] (spBag K) := by
  refine F.ok sc_q_bag (fun vs H Q E h => ?_) (fun f cdv A outer s H vs Q E hr h => ?_)
  · obtain ⟨a, ns, k, rfl, _⟩ := h; rfl
  obtain ⟨a, ns, k, rfl, hS, h0, q⟩ := h
  refine ⟨_, pss_cons (ps_set (i := 2) sc_q_bag.nd rfl (Or.inl rfl) pe_int)
    (pss_cons (ps_if (pt_cmpR op_lt (pv 1) (pe_callB (callK_len (K := K) rfl) rfl B.«len» bt_len (pa_cons (pv 0) pa_nil)) (nomark _))
      (pss_one (ps_set (i := 2) sc_q_bag.nd rfl (Or.inl rfl) (pe_ix (ixK_list (K := K) rfl) (pv 0) (pv 1) (fun _ _ => rfl))))
      (pss_nil))
    (pss_cons (ps_set (i := 3) sc_q_bag.nd rfl (Or.inl rfl) pe_int)
    (pss_cons (ps_if (pt_cmpR op_ge (pe_callB call_abs rfl B.«abs» bt_abs (pa_cons (pv 2) pa_nil)) (pe_op op_pow pe_int pe_int) (nomark _))
      (pss_one (ps_set (i := 3) sc_q_bag.nd rfl (Or.inl rfl) (pe_callB call_abs rfl B.«abs» bt_abs (pa_cons (pv 2) pa_nil))))
      (pss_nil))
    (pss_one (ps_ret (pe_lst (pa_cons (pv 3) (pa_cons (pe_op op_add (pe_op op_modN (pe_op op_add (pe_op op_add (pv 2) (pe_op op_mulO pe_int (pv 1))) pe_int) pe_int) pe_int) pa_nil)))))))), ?_⟩
  apply merge (M := fun σ HM => HM = H ∧ ∃ (c : Int) (o : Option V), σ = [some (.ref a), some (.int k), some (.int c), o])
  case h1 =>
    intro key
    refine ⟨_, rfl, _, rfl, a, _, rfl, .inl hS, _, _, rfl, rfl, _, rfl, ?_⟩
    refine ite2 (fun c => ?_) (fun c => ?_)
    · have hk : k < ((ns.map V.int).length : Nat) := of_decide_eq_true c
      obtain ⟨v, e, hm⟩ := atI_mem (xs := ns.map V.int) h0 hk
      obtain ⟨n, _, rfl⟩ := List.mem_map.mp hm
      exact ⟨_, rfl, _, rfl, _, _, _, _, rfl, rfl, hS, e, key _ _ ⟨rfl, n, _, rfl⟩⟩
    · exact key _ _ ⟨rfl, 0, _, rfl⟩
  case h2 =>
    rintro σ HM ⟨rfl, c, o, rfl⟩
    apply merge (M := fun σ HN => HN = HM ∧ ∃ (g : Int), σ = [some (.ref a), some (.int k), some (.int c), some (.int g)])
    case h1 =>
      intro key
      walk_at "rd"
      refine ite2 (fun _ => ?_) (fun _ => ?_)
      · exact ⟨_, rfl, _, rfl, key _ _ ⟨rfl, _, rfl⟩⟩
      · exact key _ _ ⟨rfl, _, rfl⟩
    case h2 =>
      rintro σ HN ⟨rfl, g, rfl⟩
      walk_at "rd"
      exact fun p hp => q p g _ _ (same_new hp _) hp upd_same
theorem ok_q_take (B : Blt mg) (F : Src K mg "_law_take" s_q_take ["_law_bag_here", "_law_many"]) : Dfn P w K mg base 1 "_law_take" ["_law_bag_here", "_law_many"] (spTake K) := by
  refine F.ok sc_q_take (fun vs H Q E h => ?_) (fun f cdv A outer s H vs Q E hr h => ?_)
  · obtain ⟨b, g, r, m, rfl, _⟩ := h; rfl
  obtain ⟨b, g, r, m, rfl, hb, m0, bm, q⟩ := h
  refine ⟨_, pss_cons (ps_if (pt_cmpR op_gt (pe_ix (ixK_list (K := K) rfl) (pv 0) pe_int (fun _ _ => rfl)) pe_int (nomark _))
      (pss_cons (ps_set (i := 2) sc_q_take.nd rfl (Or.inl rfl) (pe_op op_modN (pe_ix (ixK_list (K := K) rfl) (pv 0) pe_int (fun _ _ => rfl)) (pv 1)))
      (pss_cons (ps_asg (pe_op op_fdivW (pe_ix (ixK_list (K := K) rfl) (pv 0) pe_int (fun _ _ => rfl)) (pv 1)) (pg_sub (pv 0) pe_int set_list))
      (pss_one (ps_ret (pv 2)))))
      (pss_nil))
    (pss_cons (ps_asg (pe_op op_modN (pe_op op_add (pe_op op_mulO (pe_ix (ixK_list (K := K) rfl) (pv 0) pe_int (fun _ _ => rfl)) pe_int) pe_int) pe_int) (pg_sub (pv 0) pe_int set_list))
    (pss_one (ps_ret (pe_op op_modN (pe_op op_modN (pe_op op_mulO (pe_op op_fdivW (pe_ix (ixK_list (K := K) rfl) (pv 0) pe_int (fun _ _ => rfl)) pe_int) pe_int) pe_int) (pv 1))))), ?_⟩
  refine ⟨_, rfl, b, _, _, _, rfl, rfl, SqL.of hb, rfl, _, _, rfl, rfl, _, rfl, ite2 (fun c => ?_) (fun c => ?_)⟩
  · refine ⟨_, rfl, b, _, _, _, rfl, rfl, SqL.of hb, rfl, _, rfl, _, _, rfl, rfl, show m ≠ 0 by omega, ?_⟩
    refine ⟨_, rfl, b, _, _, _, rfl, rfl, SqL.of hb, rfl, _, rfl, _, _, rfl, rfl, bm.dv (by omega), ?_⟩
    refine ⟨_, rfl, b, _, _, 0, rfl, rfl, hb, rfl, ?_⟩
    obtain ⟨r1, r2⟩ := fmod_range g m0
    exact ⟨_, rfl, q _ _ _ r1 r2⟩
  · refine ⟨_, rfl, b, _, _, _, rfl, rfl, SqL.of hb, rfl, ?_⟩
    walk_at "rd"
    refine ⟨b, _, _, 1, rfl, rfl, hb, rfl, ?_⟩
    refine ⟨_, rfl, b, _, _, _, rfl, rfl, SqL.of upd_same, rfl, ?_⟩
    walk_at "rd"
    refine ⟨show m ≠ 0 by omega, ?_⟩
    obtain ⟨r1, r2⟩ := fmod_range ((((r * 48271 + 11).fmod 2147483647).fdiv 8 * 69621).fmod 2147483629) m0
    exact q _ _ _ r1 r2
def spNumB : Sp := fun vs H Q _ => ∃ (b : Addr) (g r : Int), vs = [.ref b] ∧ H b = some (.lst [.int g, .int r]) ∧ ∀ x g' r' : Int, x.natAbs < 10 ^ 60 → ∀ H', But b H H' → H' b = some (.lst [.int g', .int r']) → Q (.int x) H'
theorem ok_q_number (B : Blt mg) (d_q_take : Dfn P w K mg base 1 "_law_take" ["_law_bag_here", "_law_many"] (spTake K)) (F : Src K mg "_law_number" s_q_number ["_law_bag_here"]) : Dfn P w K mg base 2 "_law_number" ["_law_bag_here"] spNumB := by
  refine F.ok sc_q_number (fun vs H Q E h => ?_) (fun f cdv A outer s H vs Q E hr h => ?_)
  · obtain ⟨b, g, r, rfl, _⟩ := h; rfl
  obtain ⟨b, g, r, rfl, hb, q⟩ := h
  refine ⟨_, pss_cons (ps_set (i := 1) sc_q_number.nd rfl (Or.inl rfl) (pe_def d_q_take hr (pa_cons (pv 0) (pa_cons pe_int pa_nil))))
    (pss_cons (ps_set (i := 2) sc_q_number.nd rfl (Or.inl rfl) (pe_op op_sub pe_int (pe_op op_mulO pe_int (pe_def d_q_take hr (pa_cons (pv 0) (pa_cons pe_int pa_nil))))))
    (pss_cons (ps_if (pt_cmpR op_lt (pv 1) pe_int (nomark _))
      (pss_one (ps_ret pe_int))
      (pss_nil))
    (pss_cons (ps_if (pt_cmpR op_eq (pv 1) pe_int (nomark _))
      (pss_one (ps_ret (pv 2)))
      (pss_nil))
    (pss_cons (ps_if (pt_cmpR op_eq (pv 1) pe_int (nomark _))
      (pss_one (ps_ret (pe_op op_mulO (pv 2) (pe_def d_q_take hr (pa_cons (pv 0) (pa_cons (pe_op op_pow pe_int pe_int) pa_nil))))))
      (pss_nil))
    (pss_one (ps_ret (pe_op op_mulO (pv 2) (pe_def d_q_take hr (pa_cons (pv 0) (pa_cons (pe_ix (ixK_list (K := K) rfl) (pe_lst (pa_cons pe_int (pa_cons pe_int (pa_cons (pe_op op_pow pe_int pe_int) pa_nil)))) (pe_op op_modN (pv 1) pe_int) (fun _ _ => rfl)) pa_nil)))))))))), ?_⟩
  refine ⟨_, rfl, b, g, r, 8, rfl, hb, by decide, Bd.mono (m := 64) (Bd.small (by decide) (by decide)) (by decide), fun way g1 r1 w0 w8 => ?_⟩
  refine ⟨_, rfl, b, g1, r1, 2, rfl, upd_same, by decide, Bd.mono (m := 64) (Bd.small (by decide) (by decide)) (by decide), fun d g2 r2 d0 d2 => ?_⟩
  have b2 : But b H (upd (upd H b (.lst [.int g1, .int r1])) b (.lst [.int g2, .int r2])) := ((But.refl b H).upd _).upd _
  have e2 : (upd (upd H b (.lst [.int g1, .int r1])) b (.lst [.int g2, .int r2])) b = some (.lst [.int g2, .int r2]) := upd_same
  generalize upd (upd H b (.lst [.int g1, .int r1])) b (.lst [.int g2, .int r2]) = H2 at b2 e2
  obtain ⟨sn, hsn, hs1⟩ : ∃ sn : Int, sn = 1 - 2 * d ∧ (sn = 1 ∨ sn = -1) := ⟨_, rfl, by omega⟩
  refine ⟨_, _, rfl, rfl, (mulOkL (by decide) (by decide)), _, _, rfl, rfl, ?_⟩
  show gName 2 (V.int (1 - 2 * d)) _ _ _
  rw [← hsn]
  have big : (2 : Nat) < 10 ^ 60 := by decide
  refine ⟨_, rfl, _, _, rfl, rfl, _, rfl, ite2 (fun c => ?_) (fun c => ?_)⟩
  · exact q 0 g2 r2 (by decide) H2 b2 e2
  refine ⟨_, rfl, rfl, _, rfl, ite2 (fun c => ?_) (fun c => ?_)⟩
  · exact ⟨_, rfl, q sn g2 r2 (by rcases hs1 with h | h <;> rw [h] <;> decide) H2 b2 e2⟩
  have fin : ∀ (x y : Int) (g' r' : Int) (H5 : Hp), 0 ≤ y → y < x → x ≤ 10 ^ 60 → But b H H5 → rI CMulO (fun i j => V.int (i * j)) (.int sn) (.int y) (upd H5 b (.lst [.int g', .int r'])) Q := by
    intro x y g' r' H5 h0 h1 h2 b5
    refine ⟨_, _, rfl, rfl, mulOkL (by rcases hs1 with h | h <;> rw [h] <;> decide) (by rcases hs1 with h | h <;> rw [h] <;> decide), ?_⟩
    refine q _ g' r' ?_ _ (b5.upd _) upd_same
    have : ((10 ^ 60 : Nat) : Int) = (10 : Int) ^ 60 := by norm_cast
    rcases hs1 with h | h <;> rw [h] <;> omega
  refine ⟨_, rfl, rfl, _, rfl, ite2 (fun c => ?_) (fun c => ?_)⟩
  · refine ⟨_, rfl, _, rfl, ?_⟩
    walk_at "rd"
    refine ⟨b, g2, r2, _, rfl, e2, by decide, show Int.natAbs _ < 2 ^ 9000 from Nat.lt_of_lt_of_le (show Int.natAbs (10 ^ 60) < 2 ^ 200 by decide) (Nat.pow_le_pow_right (by decide) (by decide)), fun y g' r' y0 y1 => ?_⟩
    exact fin _ y g' r' H2 y0 y1 (Int.le_refl _) b2
  · refine ⟨_, rfl, _, rfl, ?_⟩
    walk_at "rd"
    intro p3 n3
    have k3 := same_new n3 (.lst [.int 10, .int 1000, .int (10 ^ 9)])
    have r3 := fmod_range way (y := 3) (by decide)
    obtain ⟨m, hm, m0, m1⟩ := pick (xs := [.int 10, .int 1000, .int (10 ^ 9)]) (P := fun n => 0 < n ∧ n ≤ 10 ^ 9) r3.1 r3.2 (by
      intro v hv
      simp only [List.mem_cons, List.not_mem_nil, or_false] at hv
      rcases hv with rfl | rfl | rfl <;> exact ⟨_, rfl, by decide, by decide⟩)
    walk_at "rd"
    refine ⟨p3, _, _, _, rfl, rfl, SqL.of upd_same, hm, ?_⟩
    refine ⟨b, g2, r2, _, rfl, k3 _ _ e2, m0, Bd.mono (m := 64) (Bd.small (by omega) (by omega)) (by decide), fun y g' r' y0 y1 => ?_⟩
    exact fin m y g' r' _ y0 y1 (by omega) (b2.trans (But.of k3))
def spPolyB : Sp := fun vs H Q _ => ∃ (b : Addr) (g r : Int), vs = [.ref b] ∧ H b = some (.lst [.int g, .int r]) ∧ ∀ (f : List Int), Gs f → ∀ p H', But b H H' → H p = none → H' p = some (.lst (f.map V.int)) → Q (.ref p) H'
theorem ok_q_polynomial (B : Blt mg) (d_q_take : Dfn P w K mg base 1 "_law_take" ["_law_bag_here", "_law_many"] (spTake K)) (d_q_number : Dfn P w K mg base 2 "_law_number" ["_law_bag_here"] spNumB) (F : Src K mg "_law_polynomial" s_q_polynomial ["_law_bag_here"]) : Dfn P w K mg base 3 "_law_polynomial" ["_law_bag_here"] spPolyB := by
  refine F.ok sc_q_polynomial (fun vs H Q E h => ?_) (fun f cdv A outer s H vs Q E hr h => ?_)
  · obtain ⟨b, g, r, rfl, _⟩ := h; rfl
  obtain ⟨b, g, r, rfl, hb, q⟩ := h
  refine ⟨_, pss_cons (ps_setC (i := 1) sc_q_polynomial.nd rfl (Or.inl rfl) (compScope_mk (N := ["_law_k", "_law_bag_here"]) (sl := [none, some 0]) (defScope s_q_polynomial) ["_law_bag_here", "_law_found"] rfl rfl (by decide +kernel)) rfl (pi_range1 rfl B.«range» (pa_cons (pe_def d_q_take hr (pa_cons (pv 0) (pa_cons pe_int pa_nil))) pa_nil)) (fun _ _ _ _ _ => (pg_name (i := 0) (by show List.Nodup (["_law_k", "_law_bag_here"] : List Str); decide +kernel) rfl (Or.inl rfl))) (fun _ _ _ _ _ => pif_none) (fun _ _ _ _ _ => (pe_def d_q_number hr (pa_cons (pv 1) pa_nil))))
    (pss_cons (ps_while PassesOwn.never (PW.pt (pw_and (pt_cmpR (opK_neD (K := K) rfl hr.units) (pv 1) (pe_lst pa_nil) (nomark _)) (pw_and1 (pt_cmpR op_eq (pe_ix (ixK_list (K := K) rfl) (pv 1) (pe_un un_neg pe_int) (fun _ _ => rfl)) pe_int (nomark _)))))
      (pss_one (ps_expr (pe_bm0 PySem.F.plainAttrs_list PySem.F.slot_list_pop PySem.F.type_list_pop mt_pop (pv 1) ))))
    (pss_one (ps_ret (pv 1)))), ?_⟩
  refine ⟨_, rfl, b, g, r, 14, rfl, hb, by decide, Bd.mono (m := 64) (Bd.small (by decide) (by decide)) (by decide), fun n g1 r1 n0 n14 => ?_⟩
  have e1 : (upd H b (.lst [.int g1, .int r1])) b = some (.lst [.int g1, .int r1]) := upd_same
  have b1 : But b H (upd H b (.lst [.int g1, .int r1])) := (But.refl b H).upd _
  have f1 : ∀ p, (upd H b (.lst [.int g1, .int r1])) p = none → H p = none := fun p hp => by
    by_cases c : p = b
    · rw [c, upd_same] at hp; cases hp
    · rw [upd_ne c] at hp; exact hp
  generalize upd H b (.lst [.int g1, .int r1]) = H1 at e1 b1 f1
  refine ⟨_, rfl, by omega, by omega, fun D hD => ?_⟩
  have hDb : D ≠ b := fun z => by rw [z, e1] at hD; cases hD
  refine comp_range (fun i ys H2 => But b H1 H2 ∧ (∃ g r, H2 b = some (.lst [.int g, .int r])) ∧ ∃ L : List Int, ys = L.map V.int ∧ L.length = i ∧ ∀ x ∈ L, x.natAbs < 10 ^ 60) ⟨But.of (same_new hD _), ⟨g1, r1, (same_new hD _) _ _ e1⟩, [], rfl, rfl, fun x hx => by simp at hx⟩ (fun i m ys H2 hm hi hy hlen h => ?_) (fun ys H2 hy h => ?_)
  · obtain ⟨b2, ⟨g2, r2, e2⟩, L, rfl, lL, bL⟩ := h
    refine ⟨_, rfl, b, g2, r2, rfl, e2, fun x g' r' hx H5 b5 e5 => ?_⟩
    refine CW.emit hm hi (by rw [sizeLine_eq]; omega) (b5 _ _ hDb hy) hlen ⟨(b2.trans b5).free_upd hD _, ⟨g', r', by rw [upd_ne (fun z => hDb z.symm)]; exact e5⟩, L ++ [x], by rw [List.map_append]; rfl, by rw [List.length_append, lL]; rfl, fun y hy => ?_⟩
    rcases List.mem_append.mp hy with z | z
    · exact bL y z
    · rw [List.mem_singleton.mp z]; exact hx
  · obtain ⟨b2, ⟨g2, r2, e2⟩, L, rfl, lL, bL⟩ := h
    show gName 1 (V.ref D) _ _ _
    have bc : ∀ m i, (coef (L.take m) i).natAbs < 10 ^ 60 := fun m i => by
      by_cases c : i < (L.take m).length
      · rw [coef_lt c]
        exact bL _ (List.mem_of_mem_take (List.getElem_mem c))
      · rw [coef_ge (by omega)]; decide
    refine while_in (fun σ H3 => σ = [some (.ref b), some (.ref D)] ∧ But b H1 H3 ∧ ∃ m, m ≤ L.length ∧ H3 D = some (.lst ((L.take m).map V.int))) (fun _ H3 => match H3 D with | some (.lst xs) => xs.length | _ => 0) ⟨rfl, b2, L.length, Nat.le_refl _, by rw [List.take_length]; exact hy⟩ ?_
    rintro σ H3 ⟨rfl, b3, m, hm, e3⟩
    have hmu : (match H3 D with | some (.lst xs) => xs.length | _ => 0) = m := by
      rw [e3]
      show ((L.take m).map V.int).length = m
      rw [List.length_map, List.length_take]; omega
    refine ⟨_, rfl, len_ok rfl, fun pe npe => ?_⟩
    have ke := same_new npe (.lst [])
    have lt : (L.take m).length = m := by rw [List.length_take]; omega
    refine neL (xs := L.take m) (ys := []) (SqL.of (ke _ _ e3)) (SqL.of upd_same) ⟨_, rfl, ?_⟩
    have b4 := b3.trans (But.of (b := b) ke)
    have fin : Norm (L.take m) → ∀ H5, But b H1 H5 → H5 D = some (.lst ((L.take m).map V.int)) → Q (.ref D) H5 := fun hn H5 b5 e5 =>
      q (L.take m) ⟨hn, by omega, bc m⟩ D H5 (b1.trans b5) (f1 D hD) e5
    by_cases c : L.take m = []
    · refine iteNS c (iteF ⟨_, rfl, fin (.inl c) _ b4 (ke _ _ e3)⟩)
    · refine iteS c ⟨_, rfl, _, rfl, D, _, _, _, rfl, rfl, SqL.of (ke _ _ e3), atI_neg1 c, rfl, _, rfl, ?_⟩
      by_cases z : coef (L.take m) ((L.take m).length - 1) = 0
      · have hm1 : 1 ≤ m := by
          have := List.length_pos_iff.mpr c
          omega
        rw [hmu]
        refine iteY (by rw [z]) (win ?_)
        have ed : ((L.take m).map V.int).dropLast = (L.take (m - 1)).map V.int := by rw [List.dropLast_eq_take, List.length_map, lt, ← List.map_take, List.take_take, Nat.min_eq_left (by omega)]
        refine ⟨_, rfl, .inl ⟨rfl, _, SqL.of (ke _ _ e3)⟩, D, _, .int (coef (L.take m) (m - 1)), rfl, rfl, ke _ _ e3, by rw [List.length_map, lt]; exact map_int_at (by omega), ?_⟩
        rw [ed]
        refine ⟨⟨rfl, b4.free_upd hD _, m - 1, by omega, upd_same⟩, ?_⟩
        show (match (L2.upd _ D (.lst ((L.take (m - 1)).map V.int))) D with | some (.lst xs) => xs.length | _ => 0) < m
        rw [upd_same]
        show ((L.take (m - 1)).map V.int).length < m
        rw [List.length_map, List.length_take]; omega
      · refine iteN (fun u => z (V.int.inj u)) ⟨_, rfl, fin (.inr z) _ b4 (ke _ _ e3)⟩
def lw (f : List Int) (j : Nat) : Str := if j = 0 then Str.empty else text (tl f j)
theorem lw_succ (f : List Int) (j : Nat) : lw f (j + 1) = text (tl f (j + 1)) := if_neg (Nat.succ_ne_zero j)
theorem lw_len {f : List Int} (g : Gd f) (h : f ≠ []) {j : Nat} (hj : j ≤ f.length) : (lw f j).length ≤ 4001 := by
  unfold lw
  cases j with
  | zero => rw [if_pos rfl]; decide +kernel
  | succ j => rw [if_neg (by omega)]; exact text_lenW (tl_good g h (by omega))
theorem ok_q_written (B : Blt mg) (F : Src K mg "_law_written" s_q_written ["_law_f"]) : Dfn P w K mg base 1 "_law_written" ["_law_f"] (spWrit K) := by
  refine F.ok sc_q_written (fun vs H Q E h => ?_) (fun fa cdv A outer s H vs Q E hr h => ?_)
  · obtain ⟨a, f, rfl, _⟩ := h; rfl
  obtain ⟨a, f, rfl, ha, gd, q⟩ := h
  obtain ⟨nf, lf, bf⟩ := id gd
  refine ⟨_, pss_cons (ps_set (i := 1) sc_q_written.nd rfl (Or.inl rfl) pe_str)
    (pss_cons (ps_for PassesOwn.never rfl (pi_rangeD rfl B.«range» (pa_cons (pe_op op_sub (pe_callB (callK_len (K := K) rfl) rfl B.«len» bt_len (pa_cons (pv 0) pa_nil)) pe_int) (pa_cons (pe_un un_neg pe_int) (pa_cons (pe_un un_neg pe_int) pa_nil)))) (pg_name (i := 2) sc_q_written.nd rfl (Or.inl rfl))
      (pss_cons (ps_set (i := 3) sc_q_written.nd rfl (Or.inl rfl) (pe_ix (ixK_list (K := K) rfl) (pv 0) (pv 2) (fun _ _ => rfl)))
      (pss_cons (ps_set (i := 4) sc_q_written.nd rfl (Or.inl rfl) (pe_ix (ixK_list (K := K) rfl) (pe_lst (pa_cons pe_str (pa_cons pe_str (pa_cons (pe_op op_add_str pe_str (pe_callTy call_str_int rfl B.«str» bt_str (pa_cons (pv 2) pa_nil))) pa_nil)))) (pe_callB (call_min2 rfl) rfl B.«min» bt_min (pa_cons (pv 2) (pa_cons pe_int pa_nil))) (fun _ _ => rfl)))
      (pss_cons (ps_if (PW.pt (pw_or (pt_cmpR op_ne (pe_callB call_abs rfl B.«abs» bt_abs (pa_cons (pv 3) pa_nil)) pe_int (nomark _)) (pw_or1 (pt_cmpR op_eq (pv 2) pe_int (nomark _)))))
        (pss_one (ps_set (i := 4) sc_q_written.nd rfl (Or.inl rfl) (pe_ix (ixK_list (K := K) rfl) (pe_lst (pa_cons (pe_op op_add_str (pe_op op_add_str (pe_callTy call_str_int rfl B.«str» bt_str (pa_cons (pe_callB call_abs rfl B.«abs» bt_abs (pa_cons (pv 3) pa_nil)) pa_nil)) pe_str) (pv 4)) (pa_cons (pe_callTy call_str_int rfl B.«str» bt_str (pa_cons (pe_callB call_abs rfl B.«abs» bt_abs (pa_cons (pv 3) pa_nil)) pa_nil)) pa_nil))) (pe_callTy call_int1 rfl B.«int» bt_int (pa_cons (pe_cmpR op_eq (pv 2) pe_int (nomark _)) pa_nil)) (fun _ _ => rfl))))
        (pss_nil))
      (pss_one (ps_if (PW.pt (pw_and (pt_cmpR op_ne (pv 3) pe_int (nomark _)) (pw_and1 (pt_cmpR op_eq (pv 1) pe_str (nomark _)))))
        (pss_one (ps_set (i := 1) sc_q_written.nd rfl (Or.inl rfl) (pe_op op_add_str (pe_ix (ixK_list (K := K) rfl) (pe_lst (pa_cons pe_str (pa_cons pe_str pa_nil))) (pe_callTy call_int1 rfl B.«int» bt_int (pa_cons (pe_cmpR op_lt (pv 3) pe_int (nomark _)) pa_nil)) (fun _ _ => rfl)) (pv 4))))
        (pss_one (ps_if (pt_cmpR op_ne (pv 3) pe_int (nomark _))
          (pss_one (ps_set (i := 1) sc_q_written.nd rfl (Or.inl rfl) (pe_op op_add_str (pe_op op_add_str (pv 1) (pe_ix (ixK_list (K := K) rfl) (pe_lst (pa_cons pe_str (pa_cons pe_str pa_nil))) (pe_callTy call_int1 rfl B.«int» bt_int (pa_cons (pe_cmpR op_lt (pv 3) pe_int (nomark _)) pa_nil)) (fun _ _ => rfl))) (pv 4))))
          (pss_nil)))))))))
    (pss_cons (ps_if (pt_cmpR op_eq (pv 1) pe_str (nomark _))
      (pss_one (ps_ret pe_str))
      (pss_nil))
    (pss_one (ps_ret (pv 1))))), ?_⟩
  have lm : (f.map V.int).length = f.length := List.length_map _
  refine ⟨_, rfl, a, _, rfl, .inl ha, ?_⟩
  rw [lm]
  refine ⟨_, _, rfl, rfl, ?_⟩
  refine ⟨_, rfl, _, rfl, _, _, rfl, ⟨by omega, by omega, by omega, by omega⟩, ?_⟩
  rw [show ((f.length : Int) - 1 - -1).toNat = f.length by omega]
  refine for_down (fun j σ H2 => Same H H2 ∧ ∃ o1 o2 o3, σ = [some (.ref a), some (.str (lw f j)), o1, o2, o3]) ⟨Same.refl H, _, _, _, by unfold lw; rw [if_pos rfl, ← s_em]; rfl⟩ ?_ ?_
  · rintro j σ H2 hj ⟨g2, o1, o2, o3, rfl⟩
    have hf : f ≠ [] := fun z => by rw [z] at hj; exact absurd hj (by simp)
    obtain ⟨p, hp⟩ : ∃ p, p = f.length - 1 - j := ⟨_, rfl⟩
    have ep : (f.length : Int) - 1 - (j : Int) = (p : Int) := by omega
    rw [ep]
    have p12 : p ≤ 12 := by omega
    have ha2 := g2.seq ha
    have at_p : atI (f.map V.int) (p : Int) = some (.int (coef f p)) := by
      have := atI_int (ns := f) (i := (p : Int)) (by omega) (by omega)
      rw [Int.toNat_natCast] at this
      exact this
    have l1 := lw_len gd hf (j := j) (by omega)
    have lp := num_lenW (n := p) (Nat.lt_of_le_of_lt p12 (by decide))
    have bk := bf p
    refine ⟨_, rfl, _, rfl, a, _, _, _, rfl, rfl, ha2, at_p, ?_⟩
    have lx : (Str.ofString "x^").length = 2 := by decide +kernel
    refine ⟨_, rfl, _, rfl, log_60 (Nat.lt_of_le_of_lt p12 (by decide)), _, _, rfl, rfl, by rw [lx, sizeLine_eq]; show 2 + (num p).length ≤ _; omega, len_ok rfl, fun p1 n1 => ?_⟩
    have k1 := same_new n1 (.lst [.str (Str.ofString "1"), .str (Str.ofString "x"), .str (Str.ofString "x^" ++ num p)])
    have hix : atI [V.str (Str.ofString "1"), V.str (Str.ofString "x"), V.str (Str.ofString "x^" ++ num p)] (if (2 : Int) < (p : Int) then 2 else (p : Int)) = some (.str (if p = 0 then Str.ofString "1" else letter p)) := by
      by_cases c0 : p = 0
      · rw [if_neg (by omega), if_pos c0, c0]; rfl
      · rw [if_neg c0]
        unfold letter
        by_cases c1 : p = 1
        · rw [if_neg (by omega), if_pos c1, c1]; rfl
        · rw [if_neg c1]
          by_cases c2 : p = 2
          · rw [if_neg (by omega), c2]; rfl
          · rw [if_pos (by omega)]; rfl
    refine ⟨_, rfl, _, _, rfl, p1, _, _, _, rfl, rfl, SqL.of upd_same, hix, ?_⟩
    have g3 := g2.trans k1
    apply merge (M := fun σ HM => Same H HM ∧ σ = [some (.ref a), some (.str (lw f j)), some (.int (p : Int)), some (.int (coef f p)), some (.str (term (coef f p).natAbs p))])
    case h1 =>
      intro key
      have ea : (if coef f p < 0 then - coef f p else coef f p) = ((coef f p).natAbs : Int) := by split <;> omega
      have lk := num_lenW bk
      have ll := letter_len p12
      generalize hlt : (if p = 0 then Str.ofString "1" else letter p) = T0
      have lT : T0.length ≤ 62 := by
        rw [← hlt]; split
        · decide +kernel
        · exact ll
      refine ⟨_, rfl, _, rfl, rfl, _, rfl, ?_⟩
      rw [ea]
      by_cases c1 : (coef f p).natAbs = 1
      · refine iteNS (by rw [c1]; rfl) ⟨_, rfl, rfl, _, rfl, ?_⟩
        by_cases c0 : p = 0
        · refine iteY (by rw [c0]; rfl) ?_
          have hc : (coef f p).natAbs ≠ 1 ∨ p = 0 := .inr c0
          refine ⟨_, rfl, _, rfl, _, rfl, by rw [ea]; exact log_60 bk, ?_⟩
          rw [ea]
          refine ⟨_, _, rfl, rfl, by show (num _).length + (Str.ofString "*").length ≤ _; have : (Str.ofString "*").length = 1 := (by decide +kernel); rw [this, sizeLine_eq]; omega, ?_⟩
          refine ⟨_, rfl, _, _, rfl, rfl, by rw [Str.length_append]; show (num _).length + (Str.ofString "*").length + T0.length ≤ _; have : (Str.ofString "*").length = 1 := (by decide +kernel); rw [this, sizeLine_eq]; omega, ?_⟩
          refine ⟨_, rfl, _, rfl, _, rfl, by rw [ea]; exact log_60 bk, ?_⟩
          rw [ea]
          refine ⟨len_ok rfl, fun p2 n2 => ?_⟩
          have k2 := same_new n2 (.lst [.str (num (coef f p).natAbs ++ Str.ofString "*" ++ T0), .str (num (coef f p).natAbs)])
          refine ⟨_, rfl, rfl, .inr ⟨_, rfl, ?_⟩⟩
          have hix2 : atI [V.str (num (coef f p).natAbs ++ Str.ofString "*" ++ T0), V.str (num (coef f p).natAbs)] (if decide (V.int (p : Int) = V.int 0) = true then 1 else 0) = some (.str (term (coef f p).natAbs p)) := by
            unfold term
            by_cases c0 : p = 0
            · rw [if_pos (decide_eq_true (by rw [c0]; rfl)), if_pos c0]; rfl
            · rw [if_neg (fun u => c0 (by have := V.int.inj (of_decide_eq_true u); omega)), if_neg c0, if_neg (hc.resolve_right c0), ← hlt, if_neg c0]; rfl
          refine ⟨p2, _, _, _, rfl, rfl, SqL.of upd_same, hix2, ?_⟩
          exact key _ _ ⟨g3.trans k2, rfl⟩
        · refine iteN (fun u => c0 (by have := V.int.inj u; omega)) (key _ _ ⟨g3, ?_⟩)
          have : T0 = term (coef f p).natAbs p := by
            rw [← hlt, if_neg c0]
            unfold term
            rw [if_neg c0, if_pos c1]
          rw [this]
          rfl
      · refine iteS (fun u => c1 (by have := V.int.inj u; omega)) (iteT ?_)
        · have hc : (coef f p).natAbs ≠ 1 ∨ p = 0 := .inl c1
          refine ⟨_, rfl, _, rfl, _, rfl, by rw [ea]; exact log_60 bk, ?_⟩
          rw [ea]
          refine ⟨_, _, rfl, rfl, by show (num _).length + (Str.ofString "*").length ≤ _; have : (Str.ofString "*").length = 1 := (by decide +kernel); rw [this, sizeLine_eq]; omega, ?_⟩
          refine ⟨_, rfl, _, _, rfl, rfl, by rw [Str.length_append]; show (num _).length + (Str.ofString "*").length + T0.length ≤ _; have : (Str.ofString "*").length = 1 := (by decide +kernel); rw [this, sizeLine_eq]; omega, ?_⟩
          refine ⟨_, rfl, _, rfl, _, rfl, by rw [ea]; exact log_60 bk, ?_⟩
          rw [ea]
          refine ⟨len_ok rfl, fun p2 n2 => ?_⟩
          have k2 := same_new n2 (.lst [.str (num (coef f p).natAbs ++ Str.ofString "*" ++ T0), .str (num (coef f p).natAbs)])
          refine ⟨_, rfl, rfl, .inr ⟨_, rfl, ?_⟩⟩
          have hix2 : atI [V.str (num (coef f p).natAbs ++ Str.ofString "*" ++ T0), V.str (num (coef f p).natAbs)] (if decide (V.int (p : Int) = V.int 0) = true then 1 else 0) = some (.str (term (coef f p).natAbs p)) := by
            unfold term
            by_cases c0 : p = 0
            · rw [if_pos (decide_eq_true (by rw [c0]; rfl)), if_pos c0]; rfl
            · rw [if_neg (fun u => c0 (by have := V.int.inj (of_decide_eq_true u); omega)), if_neg c0, if_neg (hc.resolve_right c0), ← hlt, if_neg c0]; rfl
          refine ⟨p2, _, _, _, rfl, rfl, SqL.of upd_same, hix2, ?_⟩
          exact key _ _ ⟨g3.trans k2, rfl⟩
    case h2 =>
      rintro σ HM ⟨gM, rfl⟩
      have lt := term_lenW bk p12
      by_cases z : coef f p = 0
      · have hj0 : j ≠ 0 := fun y => by
          rw [y, Nat.sub_zero] at hp
          rw [hp] at z
          exact nf.last hf z
        have e : lw f (j + 1) = lw f j := by
          have := tld_skip hj0 (show coef f (f.length - 1 - j) = 0 by rw [← hp]; exact z)
          unfold tld at this
          rw [if_neg (by omega), if_neg hj0] at this
          unfold lw
          rw [if_neg (by omega), if_neg hj0]
          exact this
        refine ⟨_, rfl, rfl, _, rfl, iteNS (by rw [z]) (iteF ⟨_, rfl, rfl, _, rfl, iteNS (by rw [z]) ⟨gM, some (.int (p : Int)), some (.int (coef f p)), some (.str (term (coef f p).natAbs p)), ?_⟩⟩)⟩
        rw [e]
      · refine ⟨_, rfl, rfl, _, rfl, iteS (fun u => z (V.int.inj u)) ⟨_, rfl, rfl, _, rfl, ?_⟩⟩
        by_cases y : j = 0
        · refine iteY (by show V.str (lw f j) = V.str _; unfold lw; rw [if_pos y, s_em]) ?_
          refine ⟨len_ok rfl, fun p3 n3 => ?_⟩
          have k3 := same_new n3 (.lst [.str (Str.ofString ""), .str (Str.ofString "-")])
          refine ⟨_, rfl, _, _, rfl, rfl, .inr ⟨_, rfl, ?_⟩⟩
          have hix : atI [V.str (Str.ofString ""), V.str (Str.ofString "-")] (if decide (coef f p < 0) = true then 1 else 0) = some (.str (if coef f p < 0 then Str.ofString "-" else Str.empty)) := by
            by_cases v : coef f p < 0
            · rw [if_pos (decide_eq_true v), if_pos v]; rfl
            · rw [if_neg (fun u => v (of_decide_eq_true u)), if_neg v, ← s_em]; rfl
          refine ⟨p3, _, _, _, rfl, rfl, SqL.of upd_same, hix, ?_⟩
          have l3 : (if coef f p < 0 then Str.ofString "-" else Str.empty).length ≤ 1 := by split <;> decide +kernel
          refine ⟨_, rfl, _, _, rfl, rfl, by rw [sizeLine_eq]; omega, gM.trans k3, some (.int (p : Int)), some (.int (coef f p)), some (.str (term (coef f p).natAbs p)), ?_⟩
          have e : (if coef f p < 0 then Str.ofString "-" else Str.empty) ++ term (coef f p).natAbs p = lw f (j + 1) := by
            rw [lw_succ, y, tl_one hf nf, text_one, hp, y, Nat.sub_zero]
          rw [e]
          rfl
        · have ene : lw f j ≠ Str.empty := by
            unfold lw
            rw [if_neg y]
            obtain ⟨i, rfl⟩ : ∃ i, j = i + 1 := ⟨j - 1, by omega⟩
            exact text_ne (tl_ne hf nf i)
          refine iteN (fun u => ene (by have := V.str.inj u; rw [s_em] at this; exact this)) ?_
          refine ⟨_, rfl, rfl, _, rfl, iteS (fun u => z (V.int.inj u)) ?_⟩
          refine ⟨_, rfl, len_ok rfl, fun p3 n3 => ?_⟩
          have k3 := same_new n3 (.lst [.str (Str.ofString " + "), .str (Str.ofString " - ")])
          refine ⟨_, rfl, _, _, rfl, rfl, .inr ⟨_, rfl, ?_⟩⟩
          have hix : atI [V.str (Str.ofString " + "), V.str (Str.ofString " - ")] (if decide (coef f p < 0) = true then 1 else 0) = some (.str (if coef f p < 0 then Str.ofString " - " else Str.ofString " + ")) := by
            by_cases v : coef f p < 0
            · rw [if_pos (decide_eq_true v), if_pos v]; rfl
            · rw [if_neg (fun u => v (of_decide_eq_true u)), if_neg v]; rfl
          refine ⟨p3, _, _, _, rfl, rfl, SqL.of upd_same, hix, ?_⟩
          have l3 : (if coef f p < 0 then Str.ofString " - " else Str.ofString " + ").length = 3 := by split <;> decide +kernel
          refine ⟨_, _, rfl, rfl, by rw [sizeLine_eq]; omega, _, rfl, _, _, rfl, rfl, by rw [Str.length_append, sizeLine_eq]; omega, gM.trans k3, some (.int (p : Int)), some (.int (coef f p)), some (.str (term (coef f p).natAbs p)), ?_⟩
          have e : lw f j ++ (if coef f p < 0 then Str.ofString " - " else Str.ofString " + ") ++ term (coef f p).natAbs p = lw f (j + 1) := by
            obtain ⟨i, rfl⟩ : ∃ i, j = i + 1 := ⟨j - 1, by omega⟩
            have := tld_step hf nf (j := i) (by rw [← hp]; exact z)
            unfold tld at this
            rw [if_neg (by omega), if_neg (by omega), ← hp] at this
            rw [lw_succ, lw_succ]
            exact this.symm
          rw [e]
          rfl
  · rintro σ H2 ⟨g2, o1, o2, o3, rfl⟩
    refine ⟨_, rfl, rfl, _, rfl, ?_⟩
    by_cases hf : f = []
    · have e : lw f f.length = Str.ofString "" := by rw [hf, s_em]; rfl
      refine iteY (by show V.str _ = V.str _; rw [e]) ?_
      have := q _ g2
      rw [hf] at this
      have e0 : wr [] = Str.ofString "0" := by
        rw [s_0]
        exact cs_ext rfl
      rw [e0] at this
      exact this
    · have hl : 0 < f.length := List.length_pos_iff.mpr hf
      have e : lw f f.length = wr f := by
        unfold lw wr tms
        rw [if_neg (by omega), if_neg hf]
      rw [e]
      have ene : wr f ≠ Str.empty := text_ne (tms_goodW nf bf lf).ne
      refine iteN (fun u => ene (by have := V.str.inj u; rw [s_em] at this; exact this)) ⟨_, rfl, q _ g2⟩
end
section
variable {P : Program} {w : World} {K : PySem.W.Frag} {mg : Str → Option Value} {base : Heap}
def oV (o : Option Nat) : V := match o with
  | some n => .int (n : Int)
  | none => .non
def spVal : Sp := fun vs H Q _ => ∃ x : Str, vs = [.str x] ∧ Txo x ∧ ∀ H', Same H H' → Q (oV (lv x)) H'
theorem scal_strs : ∀ ts : List Str, scalDs (ts.map V.str) = some (ts.map PyData.str)
  | [] => rfl
  | t :: ts => by
    show (match scalD (V.str t), scalDs (ts.map V.str) with | some d, some ds => some (d :: ds) | _, _ => none) = _
    rw [scal_strs ts]; rfl
theorem shaped_strs {ts : List Str} (h : ∀ t ∈ ts, PyData.strOk t = true) : SeqAt.shaped (.list (ts.map PyData.str)) = true := by
  unfold SeqAt.shaped
  rw [Bool.and_eq_true]
  constructor
  · simp only [PyData.canLay0]
    exact canLayAll_of fun d hd => by
      obtain ⟨t, ht, rfl⟩ := List.mem_map.mp hd
      simp [PyData.canLay0, h t ht]
  · refine decide_eq_true ?_
    simp only [PyData.depth]
    have : PyData.depthAll (ts.map PyData.str) ≤ 1 := depthAll_of fun d hd => by
      obtain ⟨t, _, rfl⟩ := List.mem_map.mp hd
      simp [PyData.depth]
    omega
theorem eqv_strs (ts : List Str) : PyData.eqv (.list (ts.map PyData.str)) (.list (([] : List Str).map PyData.str)) = decide (ts = []) := by
  cases ts with
  | nil => simp [PyData.eqv, PyData.eqvAll]
  | cons t r => simp [PyData.eqv, PyData.eqvAll]
theorem neStr {H : Hp} {a b : Addr} {ts : List Str} {Q : VK} (h : ∀ t ∈ ts, PyData.strOk t = true) (ha : SqL K H a (ts.map V.str)) (hb : SqL K H b []) (q : Q (.bl (!decide (ts = []))) H) : rEqD K true (.ref a) (.ref b) H Q := by
  refine ⟨.list (ts.map PyData.str), .list (([] : List Str).map PyData.str), den_lst ha (scal_strs ts), den_lst hb (scal_strs []), shaped_strs h, shaped_strs (fun t ht => by simp at ht), ?_⟩
  rw [eqv_strs]
  exact q
theorem filt_nil {l : List Nat} : (l.filter fun c => !decide (48 ≤ c ∧ c ≤ 57)) = [] ↔ AllF l := by
  rw [List.filter_eq_nil_iff]
  constructor
  · intro h c hc
    have := h c hc
    rw [Bool.not_eq_true', Bool.eq_false_iff] at this
    by_cases z : 48 ≤ c ∧ c ≤ 57
    · exact z
    · exact absurd (fun y => z (of_decide_eq_true y)) this
  · intro h c hc
    rw [decide_eq_true (h c hc)]; decide
theorem ok_q_value (B : Blt mg) (F : Src K mg "_law_value" s_q_value ["_law_word"]) : Dfn P w K mg base 1 "_law_value" ["_law_word"] spVal := by
  refine F.ok sc_q_value (fun vs H Q E h => ?_) (fun fa cdv A outer s H vs Q E hr h => ?_)
  · obtain ⟨x, rfl, _⟩ := h; rfl
  obtain ⟨x, rfl, hx, q⟩ := h
  refine ⟨_, pss_cons (ps_if (PW.pt (pw_or (pt_cmpR op_eq (pv 0) pe_str (nomark _)) (pw_or (pt_cmpR op_gt (pe_callB call_lenT rfl B.«len» bt_len (pa_cons (pv 0) pa_nil)) pe_int (nomark _)) (pw_or1 (pt_cmpR (opK_neD (K := K) rfl hr.units) (pe_comp (compScope_mk (N := ["_law_sign"]) (sl := [none]) (defScope s_q_value) ["_law_word"] rfl rfl (by decide +kernel)) rfl (pi_str (pv 0)) (fun _ _ _ _ _ => (pg_name (i := 0) (by show List.Nodup (["_law_sign"] : List Str); decide +kernel) rfl (Or.inl rfl))) (fun _ _ _ _ _ => (pif_one (pt_cmpR op_notin_str (pv 0) pe_str (by with_unfolding_all rfl)))) (fun _ _ _ _ _ => (pv 0))) (pe_lst pa_nil) (nomark _))))))
      (pss_one (ps_ret pe_non))
      (pss_nil))
    (pss_cons (ps_if (PW.pt (pw_and (pt_cmpR op_eq (pe_ix ix_str (pv 0) pe_int (fun _ _ => rfl)) pe_str (nomark _)) (pw_and1 (pt_cmpR op_ne (pv 0) pe_str (nomark _)))))
      (pss_one (ps_ret pe_non))
      (pss_nil))
    (pss_one (ps_ret (pe_callTy call_intT rfl B.«int» bt_int (pa_cons (pv 0) pa_nil))))), ?_⟩
  have lx := hx.2
  have hz : x.length ≤ sizeLine := by rw [sizeLine_eq]; omega
  have no : ¬ IsF x → ∀ H', Same H H' → Q .non H' := fun c H' g => by
    have := q H' g
    unfold lv at this
    rw [if_neg fun z => c z.1] at this
    exact this
  refine ⟨_, rfl, rfl, _, rfl, ?_⟩
  by_cases c0 : x = Str.empty
  · refine iteY (by show V.str x = V.str _; rw [s_em, c0]) ?_
    exact iteT (no (fun z => by have := z.1; rw [c0] at this; exact absurd this (by decide)) H (Same.refl H))
  refine iteN (fun z => c0 (by have := V.str.inj z; rw [s_em] at this; exact this)) ?_
  have c0' : 1 ≤ x.length := by
    rw [← cs_len]
    exact List.length_pos_iff.mpr fun z => c0 (cs_ext z)
  refine ⟨_, rfl, _, rfl, hz, _, _, rfl, rfl, _, rfl, ?_⟩
  by_cases c1 : x.length ≤ 60
  · refine iteN (by omega) ?_
    refine ⟨_, rfl, _, rfl, asc_all hx.1, fun D hD => ?_⟩
    refine comp_str (fun i ys H2 => Same H H2 ∧ ys = ((((cs x).take i).filter fun c => !decide (48 ≤ c ∧ c ≤ 57)).map fun c => (⟨#[c]⟩ : Str)).map V.str) ⟨same_new hD _, rfl⟩ ?_ ?_
    · rintro i m c ys H2 hm hi hc hy hlen ⟨gg, rfl⟩
      refine ⟨_, rfl, _, _, rfl, rfl, _, rfl, ?_⟩
      have hc' : (cs x)[i]? = some c := by simpa using hc
      rw [fig_is]
      by_cases cf : 48 ≤ c ∧ c ≤ 57
      · refine iteNS cf (CW.skip hm hi hy hlen ⟨gg, ?_⟩)
        rw [List.take_succ, hc', List.filter_append]
        show _ = List.map V.str (List.map _ (_ ++ List.filter _ [c]))
        rw [List.filter_cons, decide_eq_true cf]
        simp
      · refine iteS cf ⟨_, rfl, CW.emit hm hi (by rw [sizeLine_eq]; omega) hy hlen ⟨Same.free_upd gg hD _, ?_⟩⟩
        rw [List.take_succ, hc', List.filter_append]
        show _ = List.map V.str (List.map _ (_ ++ List.filter _ [c]))
        rw [List.filter_cons, decide_eq_false cf]
        simp
    · rintro ys H2 hy ⟨gg, rfl⟩
      refine ⟨len_ok rfl, fun pe npe => ?_⟩
      have ke := same_new npe (.lst [])
      have gA := gg.trans ke
      have ex : (cs x).take x.length = cs x := by rw [← cs_len, List.take_length]
      rw [ex] at hy
      have hst : ∀ t ∈ (((cs x).filter fun c => !decide (48 ≤ c ∧ c ≤ 57)).map fun c => (⟨#[c]⟩ : Str)), PyData.strOk t = true := fun t ht => by
        obtain ⟨c, hc, rfl⟩ := List.mem_map.mp ht
        have := hx.1 c (List.mem_filter.mp hc).1
        show (#[c] : Array Nat).all _ = true
        simp
        omega
      refine neStr hst (SqL.of (ke _ _ hy)) (SqL.of upd_same) ⟨_, rfl, ?_⟩
      by_cases cf : AllF (cs x)
      · have hF : IsF x := ⟨c0', c1, cf⟩
        refine iteNS (by rw [filt_nil.mpr cf]; rfl) ?_
        obtain ⟨c, r, er⟩ : ∃ c r, cs x = c :: r := by
          cases e : cs x with
          | nil => exact absurd (cs_ext e) c0
          | cons c r => exact ⟨c, r, rfl⟩
        have hat : atI x.cps.toList 0 = some c := by
          show atI (cs x) 0 = _
          rw [er]
          unfold atI
          rw [ixN_nat (by omega) (by rw [List.length_cons]; omega)]
          rfl
        refine ⟨_, rfl, _, _, _, rfl, rfl, hz, hat, rfl, _, rfl, ?_⟩
        have hq : ((cs x)[0]? = some 48 → x = num 0) → Q (.int ((fv x : Nat) : Int)) _ := fun z => by
          have := q _ gA
          unfold lv at this
          rw [if_pos ⟨hF, z⟩] at this
          exact this
        have fin : ((cs x)[0]? = some 48 → x = num 0) → tRet (tCB (fun xs H Q => ∃ x n, xs = [V.str x] ∧ intText? x = some n ∧ x.length ≤ 640 ∧ Q (V.int n) H) (tCons (tVar 0) tNil)) { nx := fun x H' => Q V.non H', rt := Q } [some (V.str x)] (upd H2 pe (.lst [])) := fun z => ⟨_, rfl, _, _, rfl, fv_read hF, by omega, hq z⟩
        by_cases c3 : c = 48
        · refine iteY (by show V.str (⟨#[c]⟩ : Str) = _; rw [c3]; decide +kernel) ?_
          refine ⟨_, rfl, rfl, _, rfl, ?_⟩
          by_cases c4 : x = num 0
          · refine iteNS (by show V.str x = _; rw [c4, s_0]) (fin fun _ => c4)
          · refine iteS (fun z => c4 (by have := V.str.inj z; rw [s_0] at this; exact this)) ?_
            have := q _ gA
            unfold lv at this
            rw [if_neg fun z => c4 (z.2 (by rw [er, c3]; rfl))] at this
            exact this
        · refine iteN (fun z => c3 ?_) (iteF (fin fun z => ?_))
          · have z : (⟨#[c]⟩ : Str) = Str.ofString "0" := V.str.inj z
            have e0 : Str.ofString "0" = ⟨#[48]⟩ := by decide +kernel
            rw [e0] at z
            have := congrArg cs z
            exact (List.cons.inj this).1
          · rw [er] at z
            exact absurd (Option.some.inj z) c3
      · refine iteS (fun z => cf (filt_nil.mp (List.map_eq_nil_iff.mp z))) ?_
        exact no (fun z => cf z.2.2) _ gA
  · exact iteY (by omega) (iteT (no (fun z => c1 z.2.1) H (Same.refl H)))
def spTermL : Sp := fun vs H Q _ => ∃ x : Str, vs = [.str x] ∧ Txo x ∧ (∀ k p, lt x = some (k, p) → ∀ (t : Addr) (H' : Hp), Same H H' → H t = none → H' t = some (.tup [.int (k : Int), .int (p : Int)]) → Q (.ref t) H') ∧ (lt x = none → ∀ H', Same H H' → Q .non H')
theorem num1_txo : Txo (Str.ofString "1") := ⟨fun c hc => by
  have e : cs (Str.ofString "1") = [49] := by decide +kernel
  rw [e] at hc; rw [List.mem_singleton.mp hc]; decide, by decide +kernel⟩
theorem ok_q_term (B : Blt mg) (d_q_value : Dfn P w K mg base 1 "_law_value" ["_law_word"] spVal) (F : Src K mg "_law_term" s_q_term ["_law_word"]) : Dfn P w K mg base 2 "_law_term" ["_law_word"] spTermL := by
  refine F.ok sc_q_term (fun vs H Q E h => ?_) (fun fa cdv A outer s H vs Q E hr h => ?_)
  · obtain ⟨x, rfl, _⟩ := h; rfl
  obtain ⟨x, rfl, hx, q1, q2⟩ := h
  refine ⟨_, pss_cons (ps_asg (pe_bm PySem.F.plainAttrs_str PySem.F.slot_str_partition PySem.F.type_str_partition mt_part (pv 0) (pa_cons pe_str pa_nil)) (pgK_tup (n := 3) (K := K) rfl rfl (pgs_cons (pg_name (i := 1) sc_q_term.nd rfl (Or.inl rfl)) (pgs_cons (pg_name (i := 2) sc_q_term.nd rfl (Or.inl rfl)) (pgs_cons (pg_name (i := 3) sc_q_term.nd rfl (Or.inl rfl)) pgs_nil)))))
    (pss_cons (ps_if (PW.pt (pw_and (pt_cmpR op_eq (pv 2) pe_str (nomark _)) (pw_and1 (pt_cmpR op_notin_str pe_str (pv 0) (by with_unfolding_all rfl)))))
      (pss_one (ps_ret (pe_ifExp (pt_cmpR op_is (pe_def d_q_value hr (pa_cons (pv 0) pa_nil)) pe_non (nomark _)) pe_non (pe_tup (pa_cons (pe_def d_q_value hr (pa_cons (pv 0) pa_nil)) (pa_cons pe_int pa_nil))))))
      (pss_nil))
    (pss_cons (ps_if (pt_cmpR op_eq (pv 2) pe_str (nomark _))
      (pss_one (ps_par (i := 1) (j := 3) rfl sc_q_term.nd rfl rfl (by decide) rfl rfl (pa_cons pe_str (pa_cons (pv 0) pa_nil)) rfl))
      (pss_nil))
    (pss_cons (ps_set (i := 4) sc_q_term.nd rfl (Or.inl rfl) (pe_def d_q_value hr (pa_cons (pv 1) pa_nil)))
    (pss_cons (ps_set (i := 5) sc_q_term.nd rfl (Or.inl rfl) (pe_def d_q_value hr (pa_cons (pe_slice sl_str (pv 3) (po_some pe_int) po_none) pa_nil)))
    (pss_cons (ps_if (pt_cmpR op_eq (pv 3) pe_str (nomark _))
      (pss_one (ps_set (i := 5) sc_q_term.nd rfl (Or.inl rfl) pe_int))
      (pss_one (ps_if (pt_cmpR op_ne (pe_slice sl_str (pv 3) po_none (po_some pe_int)) pe_str (nomark _))
        (pss_one (ps_set (i := 5) sc_q_term.nd rfl (Or.inl rfl) pe_non))
        (pss_nil))))
    (pss_cons (ps_if (PW.pt (pw_or (pt_cmpR op_is (pv 4) pe_non (nomark _)) (pw_or (pt_cmpR op_is (pv 5) pe_non (nomark _)) (pw_or1 (pt_cmpR op_gt (pv 5) pe_int (nomark _))))))
      (pss_one (ps_ret pe_non))
      (pss_nil))
    (pss_one (ps_ret (pe_tup (pa_cons (pv 4) (pa_cons (pv 5) pa_nil))))))))))), ?_⟩
  have lx := hx.2
  refine ⟨_, rfl, rfl, _, _, rfl, rfl, by decide +kernel, by omega, ?_⟩
  rw [s_st]
  obtain ⟨sa, sb, la, lb⟩ := part_sub x ⟨#[42]⟩
  have elp : lparts x = if (Txt.partition x ⟨#[42]⟩).2.1 = Str.empty then (num 1, x) else ((Txt.partition x ⟨#[42]⟩).1, (Txt.partition x ⟨#[42]⟩).2.2) := rfl
  have elt : lt x = if (Txt.partition x ⟨#[42]⟩).2.1 = Str.empty ∧ 120 ∉ cs x then (lv x).map fun k => (k, 0)
    else (lv (lparts x).1).bind fun k => (lpow (lparts x).2).bind fun q => if q ≤ 12 then some (k, q) else none := rfl
  generalize Txt.partition x ⟨#[42]⟩ = pt at sa sb la lb elp elt
  obtain ⟨a, l, b⟩ := pt
  dsimp only at sa sb la lb elp elt ⊢
  have ta : Txo a := txo_sub hx sa la
  have tb : Txo b := txo_sub hx sb lb
  intro p1 n1
  have k1 := same_new n1 (.tup [.str a, .str l, .str b])
  refine ⟨p1, _, rfl, SqT.of upd_same, rfl, _, _, rfl, _, _, rfl, _, _, rfl, rfl, ?_⟩
  generalize upd H p1 _ = H1 at k1
  apply merge (M := fun σ HM => HM = H1 ∧ ¬ (l = Str.empty ∧ 120 ∉ cs x) ∧ σ = [some (V.str x), some (V.str a), some (V.str l), some (V.str b), none, none])
  case h1 =>
    intro key
    refine ⟨_, rfl, rfl, _, rfl, ?_⟩
    by_cases c0 : l = Str.empty
    · refine iteY (by show V.str l = V.str _; rw [s_em, c0]) ?_
      refine ⟨_, rfl, _, _, rfl, rfl, _, rfl, ?_⟩
      rw [s_x, StrLaws.found_one]
      by_cases cx : 120 ∈ cs x
      · exact iteNS cx (key _ _ ⟨rfl, fun z => z.2 cx, rfl⟩)
      · refine iteS cx ?_
        rw [if_pos ⟨c0, cx⟩] at elt
        refine ⟨_, rfl, x, rfl, hx, fun H2 g2 => ⟨rfl, _, rfl, ?_⟩⟩
        cases e : lv x with
        | none =>
          refine iteY rfl ?_
          exact q2 (by rw [elt, e]; rfl) _ (k1.trans g2)
        | some n =>
          refine iteN (fun z => by cases z) ?_
          refine ⟨_, rfl, x, rfl, hx, fun H3 g3 => ?_⟩
          rw [e]
          refine ⟨len_ok rfl, fun t nt => ?_⟩
          have gA := k1.trans (g2.trans g3)
          exact q1 n 0 (by rw [elt, e]; rfl) t _ (gA.trans (same_new nt _)) (gA.free nt) upd_same
    · exact iteN (fun z => c0 (by have := V.str.inj z; rw [s_em] at this; exact this)) (iteF (key _ _ ⟨rfl, fun z => c0 z.1, rfl⟩))
  case h2 =>
    rintro σ HM ⟨rfl, hno, rfl⟩
    rw [if_neg hno] at elt
    apply merge (M := fun σ HN => HN = HM ∧ ∃ y z, (y, z) = lparts x ∧ Txo y ∧ Txo z ∧ σ = [some (V.str x), some (V.str y), some (V.str l), some (V.str z), none, none])
    case h1 =>
      intro key
      refine ⟨_, rfl, rfl, _, rfl, ?_⟩
      by_cases c0 : l = Str.empty
      · rw [if_pos c0] at elp
        refine iteY (by show V.str l = V.str _; rw [s_em, c0]) ?_
        refine ⟨_, rfl, _, _, rfl, key _ _ ⟨rfl, Str.ofString "1", x, ?_, num1_txo, hx, rfl⟩⟩
        rw [elp, s_1]
      · rw [if_neg c0] at elp
        exact iteN (fun z => c0 (by have := V.str.inj z; rw [s_em] at this; exact this)) (key _ _ ⟨rfl, a, b, elp.symm, ta, tb, rfl⟩)
    case h2 =>
      rintro σ HM ⟨rfl, y, z, hyz, ty, tz, rfl⟩
      rw [← hyz] at elt
      have lz := tz.2
      have elt : lt x = (lv y).bind fun k => (lpow z).bind fun q => if q ≤ 12 then some (k, q) else none := elt
      refine ⟨_, rfl, y, rfl, ty, fun H2 g2 => ?_⟩
      refine ⟨_, rfl, _, rfl, _, rfl, by show z.length ≤ 100000; omega, _, rfl, txo_slice tz _ _, fun H3 g3 => ?_⟩
      have g13 := k1.trans (g2.trans g3)
      apply merge (M := fun σ HN => HN = H3 ∧ σ = [some (V.str x), some (V.str y), some (V.str l), some (V.str z), some (oV (lv y)), some (oV (lpow z))])
      case h1 =>
        intro key
        refine ⟨_, rfl, rfl, _, rfl, ?_⟩
        by_cases c1 : ¬ z = Str.ofString "x"
        · refine iteN (fun u => c1 (by rw [s_x]; exact V.str.inj u)) ?_
          refine ⟨_, rfl, _, rfl, _, rfl, by show z.length ≤ 100000; omega, rfl, _, rfl, ?_⟩
          by_cases c2 : Txt.slice z none (some 2) = Str.ofString "x^"
          · refine iteNS (by show V.str (Txt.slice z none (some 2)) = _; rw [c2]) (key _ _ ⟨rfl, ?_⟩)
            have : lpow z = lv (Txt.slice z (some 2) none) := by unfold lpow; rw [if_neg c1, if_neg (fun u => u c2)]
            rw [this]; rfl
          · refine iteS (fun u => c2 (V.str.inj u)) (key _ _ ⟨rfl, ?_⟩)
            have : lpow z = none := by unfold lpow; rw [if_neg c1, if_pos c2]
            rw [this]; rfl
        · have c1 : z = Str.ofString "x" := Classical.not_not.mp c1
          refine iteY (by show V.str z = _; rw [c1, s_x]) (key _ _ ⟨rfl, ?_⟩)
          have : lpow z = some 1 := by unfold lpow; rw [if_pos c1]
          rw [this]; rfl
      case h2 =>
        rintro σ HN ⟨rfl, rfl⟩
        refine ⟨_, rfl, rfl, _, rfl, ?_⟩
        cases e1 : lv y with
        | none =>
          rw [e1] at elt
          exact iteY rfl (iteT (q2 elt _ g13))
        | some k =>
          rw [e1] at elt
          refine iteN (fun u => by cases u) ?_
          refine ⟨_, rfl, rfl, _, rfl, ?_⟩
          cases e2 : lpow z with
          | none =>
            rw [e2] at elt
            exact iteY rfl (iteT (q2 elt _ g13))
          | some m =>
            rw [e2] at elt
            have elt : lt x = if m ≤ 12 then some (k, m) else none := elt
            refine iteN (fun u => by cases u) ?_
            refine ⟨_, rfl, _, _, rfl, rfl, _, rfl, ?_⟩
            by_cases c3 : m ≤ 12
            · rw [if_pos c3] at elt
              refine iteN (by omega) ?_
              refine ⟨_, rfl, _, rfl, len_ok rfl, fun t nt => ?_⟩
              exact q1 k m elt t _ (g13.trans (same_new nt _)) (g13.free nt) upd_same
            · rw [if_neg c3] at elt
              exact iteY (by omega) (q2 elt _ g13)
def spDue : Sp := fun vs H Q _ => ∃ x : Str, vs = [.str x] ∧ Txo x ∧ (∀ f, rd rdL x = some f → New H Q f) ∧ (rd rdL x = none → ∀ H', Same H H' → Q .non H')
theorem ok_q_due (B : Blt mg) (d_q_term : Dfn P w K mg base 2 "_law_term" ["_law_word"] spTermL) (d_q_written : Dfn P w K mg base 1 "_law_written" ["_law_f"] (spWrit K)) (F : Src K mg "_law_due" s_q_due ["_law_text"]) : Dfn P w K mg base 3 "_law_due" ["_law_text"] spDue := by
  refine F.ok sc_q_due (fun vs H Q E h => ?_) (fun fa cdv A outer s H vs Q E hr h => ?_)
  · obtain ⟨x, rfl, _⟩ := h; rfl
  obtain ⟨x, rfl, hx, q1, q2⟩ := h
  refine ⟨_, pss_cons (ps_set (i := 1) sc_q_due.nd rfl (Or.inl rfl) (pe_bm PySem.F.plainAttrs_str PySem.F.slot_str_split PySem.F.type_str_split mt_split (pe_op op_add_str pe_str (pv 0)) (pa_cons pe_str pa_nil)))
    (pss_cons (ps_if (pt_cmpR op_eq (pe_slice sl_str (pv 0) po_none (po_some pe_int)) pe_str (nomark _))
      (pss_one (ps_set (i := 1) sc_q_due.nd rfl (Or.inl rfl) (pe_bm PySem.F.plainAttrs_str PySem.F.slot_str_split PySem.F.type_str_split mt_split (pe_op op_add_str pe_str (pe_slice sl_str (pv 0) (po_some pe_int) po_none)) (pa_cons pe_str pa_nil))))
      (pss_nil))
    (pss_cons (ps_setC (i := 2) sc_q_due.nd rfl (Or.inl rfl) (compScope_mk (N := ["_law_k"]) (sl := [none]) (defScope s_q_due) ["_law_text", "_law_words", "_law_numbers", "_law_k", "_law_term_here"] rfl rfl (by decide +kernel)) rfl (pi_range1 rfl B.«range» (pa_cons pe_int pa_nil)) (fun _ _ _ _ _ => (pg_name (i := 0) (by show List.Nodup (["_law_k"] : List Str); decide +kernel) rfl (Or.inl rfl))) (fun _ _ _ _ _ => pif_none) (fun _ _ _ _ _ => pe_int))
    (pss_cons (ps_if (pt_cmpR op_eq (pe_op op_modN (pe_callB (callK_len (K := K) rfl) rfl B.«len» bt_len (pa_cons (pv 1) pa_nil)) pe_int) pe_int (nomark _))
      (pss_one (ps_ret pe_non))
      (pss_nil))
    (pss_cons (ps_for PassesOwn.never rfl (pi_rangeS rfl B.«range» (pa_cons pe_int (pa_cons (pe_callB (callK_len (K := K) rfl) rfl B.«len» bt_len (pa_cons (pv 1) pa_nil)) (pa_cons pe_int pa_nil)))) (pg_name (i := 3) sc_q_due.nd rfl (Or.inl rfl))
      (pss_cons (ps_set (i := 4) sc_q_due.nd rfl (Or.inl rfl) (pe_def d_q_term hr (pa_cons (pe_ix (ixK_list (K := K) rfl) (pv 1) (pe_op op_add (pv 3) pe_int) (fun _ _ => rfl)) pa_nil)))
      (pss_cons (ps_if (PW.pt (pw_or (pt_cmpR (opK_notIn (K := K) rfl) (pe_ix (ixK_list (K := K) rfl) (pv 1) (pv 3) (fun _ _ => rfl)) (pe_lst (pa_cons pe_str (pa_cons pe_str pa_nil))) (by with_unfolding_all rfl)) (pw_or1 (pt_cmpR op_is (pv 4) pe_non (nomark _)))))
        (pss_one (ps_ret pe_non))
        (pss_nil))
      (pss_one (ps_augS (pv 2) (pe_ix (ixK_tup (K := K) rfl) (pv 4) pe_int (fun _ _ => rfl)) (getK_list (K := K) rfl) (pe_op op_mulO (pe_ix (ixK_tup (K := K) rfl) (pv 4) pe_int (fun _ _ => rfl)) (pe_ix (ixK_list (K := K) rfl) (pe_lst (pa_cons (pe_un un_neg pe_int) (pa_cons pe_int pa_nil))) (pe_callTy call_int1 rfl B.«int» bt_int (pa_cons (pe_cmpR op_eq (pe_ix (ixK_list (K := K) rfl) (pv 1) (pv 3) (fun _ _ => rfl)) pe_str (nomark _)) pa_nil)) (fun _ _ => rfl))) ip_add set_list)))))
    (pss_cons (ps_while PassesOwn.never (PW.pt (pw_and (pt_cmpR (opK_neD (K := K) rfl hr.units) (pv 2) (pe_lst pa_nil) (nomark _)) (pw_and1 (pt_cmpR op_eq (pe_ix (ixK_list (K := K) rfl) (pv 2) (pe_un un_neg pe_int) (fun _ _ => rfl)) pe_int (nomark _)))))
      (pss_one (ps_expr (pe_bm0 PySem.F.plainAttrs_list PySem.F.slot_list_pop PySem.F.type_list_pop mt_pop (pv 2) ))))
    (pss_cons (ps_if (pt_cmpR op_ne (pe_def d_q_written hr (pa_cons (pv 2) pa_nil)) (pv 0) (nomark _))
      (pss_one (ps_ret pe_non))
      (pss_nil))
    (pss_one (ps_ret (pv 2))))))))), ?_⟩
  have lx := hx.2
  have hz : x.length ≤ sizeLine := by rw [sizeLine_eq]; omega
  obtain ⟨wo, wl⟩ := wds_ok hx
  have lw : ((wds x).map V.str).length = (wds x).length := List.length_map _
  have hsp : ∀ (a : Str) (y : Str), a.length = 1 → y.length ≤ 9000 → (a ++ ⟨#[32]⟩ ++ y).length ≤ 100000 := fun a y h1 h2 => by
    rw [Str.length_append, Str.length_append, h1]
    show 1 + 1 + _ ≤ _
    omega
  have h43 : 32 ∉ cs (Str.ofString "+") := by rw [cs_pl]; decide
  have h45 : 32 ∉ cs (Str.ofString "-") := by rw [cs_mi]; decide
  have tsl := txo_slice hx (some 1) none
  apply merge (M := fun σ HM => Same H HM ∧ ∃ p, HM p = some (.lst ((wds x).map V.str)) ∧ σ = [some (.str x), some (.ref p), none, none, none])
  case h1 =>
    intro key
    refine ⟨_, rfl, _, _, rfl, rfl, ?_, ?_⟩
    · rw [show (Str.ofString "+ ").length = 2 by decide +kernel, sizeLine_eq]; omega
    rw [s_plb]
    refine ⟨rfl, _, _, rfl, rfl, by decide +kernel, hsp _ _ (by decide +kernel) lx, ?_⟩
    rw [s_sp, split_pre h43]
    intro p1 n1
    have k1 := same_new n1 (.lst ((Str.ofString "+" :: Txt.split x ⟨#[32]⟩).map V.str))
    refine ⟨_, rfl, _, rfl, _, rfl, by omega, rfl, _, rfl, ?_⟩
    by_cases c : ¬ (cs x)[0]? = some 45
    · refine iteN (fun z => c ((slice_1 x).mp (V.str.inj z))) (key _ _ ⟨k1, p1, ?_, rfl⟩)
      rw [upd_same]
      unfold wds
      rw [if_neg c]
    · have c : (cs x)[0]? = some 45 := Classical.not_not.mp c
      refine iteY (by show V.str _ = V.str _; rw [(slice_1 x).mpr c]) ?_
      refine ⟨_, rfl, _, rfl, _, rfl, by omega, _, _, rfl, rfl, ?_, ?_⟩
      · rw [show (Str.ofString "- ").length = 2 by decide +kernel, sizeLine_eq]; have := tsl.2; omega
      rw [s_mib]
      refine ⟨rfl, _, _, rfl, rfl, by decide +kernel, hsp _ _ (by decide +kernel) tsl.2, ?_⟩
      rw [split_pre h45]
      intro p2 n2
      refine key _ _ ⟨k1.trans (same_new n2 _), p2, ?_, rfl⟩
      rw [upd_same]
      unfold wds
      rw [if_pos c]
  case h2 =>
    rintro σ HM ⟨gM, p, ep, rfl⟩
    refine ⟨_, rfl, by decide, by decide, fun D hD => ?_⟩
    refine comp_range (fun i ys H2 => Same HM H2 ∧ ys = (List.replicate i (0 : Int)).map V.int) ⟨same_new hD _, rfl⟩ (fun i m ys H2 hm hi hy hlen h => ?_) (fun ys H2 hy h => ?_)
    · obtain ⟨g2, rfl⟩ := h
      refine CW.emit hm hi (by rw [sizeLine_eq]; omega) hy hlen ⟨g2.free_upd hD _, ?_⟩
      rw [List.replicate_succ', List.map_append]; rfl
    · obtain ⟨g2, rfl⟩ := h
      show gName 2 (V.ref D) _ _ _
      have fD : H D = none := gM.free hD
      refine ⟨_, rfl, p, _, rfl, .inl (SqL.of (g2 _ _ ep)), ?_⟩
      rw [lw]
      have em : ∀ n : Nat, (V.int (((n : Nat) : Int).fmod 2) = V.int 1) ↔ n % 2 = 1 := fun n => by
        rw [Int.fmod_eq_emod_of_nonneg _ (by decide)]
        constructor
        · intro z; have := V.int.inj z; omega
        · intro z; congr 1; omega
      refine ⟨_, _, rfl, rfl, (by decide : (2 : Int) ≠ 0), rfl, _, rfl, ?_⟩
      by_cases c1 : (wds x).length % 2 = 1
      · exact iteY ((em _).mpr c1) (q2 (by unfold rd; rw [if_pos c1]) _ (gM.trans g2))
      · refine iteN (fun z => c1 ((em _).mp z)) ?_
        have erd : rd rdL x = (rdK rdL (wds x) ((wds x).length / 2)).bind fun T => if wr (trim (accL T)) = x then some (trim (accL T)) else none := by unfold rd; rw [if_neg c1]
        refine ⟨_, rfl, p, _, rfl, .inl (SqL.of (g2 _ _ ep)), ?_⟩
        rw [lw]
        refine ⟨_, _, rfl, ⟨by omega, by omega, by omega, by omega⟩, ?_⟩
        have ec : (if (0 : Int) < ((wds x).length : Int) then (((wds x).length : Int) - 0 - 1) / 2 + 1 else 0).toNat = (wds x).length / 2 := by split <;> omega
        rw [ec]
        refine for_step (fun k σ H3 => Same HM H3 ∧ ∃ (T : List Tm) (N : List Int) (o1 o2 : Option V), rdK rdL (wds x) k = some T ∧ σ = [some (.str x), some (.ref p), some (.ref D), o1, o2] ∧ H3 D = some (.lst (N.map V.int)) ∧ N.length = 13 ∧ ∀ q, q < 13 → coef N q = acc T q)
          ⟨g2, [], _, _, _, rfl, rfl, hy, by simp, fun q _ => coef_replicate _ _⟩ ?_ ?_
        · rintro k σ H3 hk ⟨g3, T, N, o1, o2, hT, rfl, eN, lN, hN⟩
          obtain ⟨sg, hs⟩ : ∃ sg, (wds x)[2 * k]? = some sg := ⟨(wds x)[2 * k], by simp [show 2 * k < (wds x).length by omega]⟩
          obtain ⟨wd, hw⟩ : ∃ wd, (wds x)[2 * k + 1]? = some wd := ⟨(wds x)[2 * k + 1], by simp [show 2 * k + 1 < (wds x).length by omega]⟩
          have w1 := str_ix hs
          have w2 := str_ix hw
          have e1 : (0 : Int) + (k : Int) * 2 + 1 = ((2 * k + 1 : Nat) : Int) := by omega
          have e0 : (0 : Int) + (k : Int) * 2 = ((2 * k : Nat) : Int) := by omega
          have etm : tmAt rdL (wds x) k = rdL sg wd := by unfold tmAt; rw [hs, hw]; rfl
          have erk : rdK rdL (wds x) (k + 1) = (rdL sg wd).bind fun t => some (T ++ [t]) := by
            show (rdK rdL (wds x) k).bind _ = _
            rw [hT]
            show (tmAt rdL (wds x) k).bind _ = _
            rw [etm]
          have bad : rdL sg wd = none → ∀ H', Same HM H' → Q .non H' := fun z H' g' => by
            rw [z] at erk
            exact q2 (by rw [erd, rdK_none erk _ (by omega)]; rfl) H' (gM.trans g')
          refine ⟨_, rfl, _, rfl, _, _, rfl, rfl, p, _, _, _, rfl, rfl, SqL.of (g3 _ _ ep), by rw [e1]; exact w2, ?_⟩
          refine ⟨wd, rfl, wo wd (List.mem_of_getElem? hw), fun n m hnm tu H4 g4 ntu etu => ?_, fun hn H4 g4 => ?_⟩
          · have hm := (lt_small hnm).2
            have g34 := g3.trans g4
            refine ⟨_, rfl, _, rfl, p, _, _, _, rfl, rfl, SqL.of (g34 _ _ ep), by rw [e0]; exact w1, len_ok rfl, fun pl nl => ?_⟩
            have kl := same_new nl (.lst [.str (Str.ofString "+"), .str (Str.ofString "-")])
            refine ⟨pl, _, rfl, .inl (SqL.of upd_same), rfl, rfl, ?_⟩
            rw [if_pos rfl, in_signs]
            have g35 := g34.trans kl
            have eN5 := kl _ _ (g4 _ _ eN)
            have etu5 := kl _ _ etu
            generalize upd H4 pl _ = H5 at kl g35 eN5 etu5
            refine ⟨_, rfl, ?_⟩
            by_cases cg : sg = Str.ofString "+" ∨ sg = Str.ofString "-"
            · refine iteNS cg ?_
              refine ⟨_, rfl, rfl, _, rfl, iteN (fun z => by cases z) ?_⟩
              have et : rdL sg wd = some ((n : Int) * (if sg = Str.ofString "+" then 1 else -1), m) := by unfold rdL; rw [if_pos cg, hnm]; rfl
              rw [et] at erk
              have erk : rdK rdL (wds x) (k + 1) = some (T ++ [((n : Int) * (if sg = Str.ofString "+" then 1 else -1), m)]) := erk
              refine ⟨_, rfl, _, rfl, tu, _, _, _, rfl, rfl, SqT.of etu5, rfl, D, _, _, .int (coef N m), rfl, rfl, SqL.of eN5, by omega, ?_, ?_⟩
              · rw [Int.toNat_natCast]; exact map_int_at (by omega)
              refine ⟨_, rfl, tu, _, _, _, rfl, rfl, SqT.of etu5, rfl, ?_⟩
              walk_at "rd"
              intro pl2 nl2
              have k2 := same_new nl2 (.lst [(fun i => V.int (-i)) (1 : Int), V.int 1])
              have hl2 : (upd H5 pl2 (.lst [(fun i => V.int (-i)) (1 : Int), V.int 1])) pl2 = some (.lst [V.int (-1), V.int 1]) := upd_same
              have g6 := g35.trans k2
              have eN6 := k2 _ _ eN5
              generalize upd H5 pl2 _ = H6 at hl2 g6 eN6
              refine ⟨_, rfl, _, rfl, p, _, _, _, rfl, rfl, SqL.of (g6 _ _ ep), by rw [e0]; exact w1, rfl, .inr ⟨_, rfl, ?_⟩⟩
              have hix : atI [V.int (-1), V.int 1] (if decide (V.str sg = V.str (Str.ofString "+")) = true then 1 else 0) = some (.int (if sg = Str.ofString "+" then 1 else -1)) := by
                by_cases v : sg = Str.ofString "+"
                · rw [if_pos (decide_eq_true (by rw [v])), if_pos v]; rfl
                · rw [if_neg (fun z => v (V.str.inj (of_decide_eq_true z))), if_neg v]; rfl
              have hmul : CMulO (n : Int) (if sg = Str.ofString "+" then 1 else -1) := by
                split
                · exact mulOkR (by decide) (by decide)
                · exact mulOkR (by decide) (by decide)
              refine ⟨pl2, _, _, _, rfl, rfl, SqL.of hl2, hix, ?_⟩
              refine ⟨_, _, rfl, rfl, hmul, _, _, rfl, rfl, D, _, _, m, rfl, rfl, eN6, by rw [List.length_map]; exact ixN_nat (by omega) (by omega), ?_⟩
              refine ⟨g6.free_upd hD _, _, N.set m (coef N m + (n : Int) * (if sg = Str.ofString "+" then 1 else -1)), _, _, erk, rfl, by rw [← map_int_set]; exact upd_same, by rw [List.length_set]; exact lN, fun q hq => ?_⟩
              rw [coef_set (by omega), acc_app]
              show _ = _ + ((if m = q then (n : Int) * (if sg = Str.ofString "+" then 1 else -1) else 0) + 0)
              by_cases y : q = m
              · rw [if_pos y, if_pos y.symm, hN m (by omega), y]; omega
              · rw [if_neg y, if_neg (fun z => y z.symm), hN q hq]; omega
            · refine iteS cg (iteT ?_)
              exact bad (by unfold rdL; rw [if_neg cg]) _ g35
          · have g34 := g3.trans g4
            refine ⟨_, rfl, _, rfl, p, _, _, _, rfl, rfl, SqL.of (g34 _ _ ep), by rw [e0]; exact w1, len_ok rfl, fun pl nl => ?_⟩
            have kl := same_new nl (.lst [.str (Str.ofString "+"), .str (Str.ofString "-")])
            refine ⟨pl, _, rfl, .inl (SqL.of upd_same), rfl, rfl, ?_⟩
            rw [if_pos rfl, in_signs]
            have g35 := g34.trans kl
            have bd := bad (by unfold rdL; rw [hn]; split <;> rfl) _ g35
            refine ⟨_, rfl, ?_⟩
            by_cases cg : sg = Str.ofString "+" ∨ sg = Str.ofString "-"
            · refine iteNS cg ⟨_, rfl, rfl, _, rfl, iteY rfl bd⟩
            · exact iteS cg (iteT bd)
        · rintro σ H3 ⟨g3, T, N, o1, o2, hT, rfl, eN, lN, hN⟩
          obtain ⟨lT, sT⟩ := rdK_len good_L hT
          have eT : trim N = trim (accL T) := trim_ext fun i => by
            by_cases h : i < 13
            · rw [hN i h]
              unfold accL
              rw [coef_map_range h]
            · rw [coef_ge (by omega), coef_ge (by unfold accL; rw [List.length_map, List.length_range]; omega)]
          rw [hT] at erd
          have erd : rd rdL x = if wr (trim (accL T)) = x then some (trim (accL T)) else none := erd
          have gd : Gd (trim (accL T)) := ⟨norm_trim _, by have := trim_le (f := accL T); rw [accL_len] at this; exact this, acc_gd sT (by omega)⟩
          refine while_in (fun σ H4 => (∃ o1 o2, σ = [some (.str x), some (.ref p), some (.ref D), o1, o2]) ∧ Same HM H4 ∧ ∃ m, m ≤ N.length ∧ (∀ i, coef (N.take m) i = coef N i) ∧ H4 D = some (.lst ((N.take m).map V.int))) (fun _ H4 => match H4 D with | some (.lst xs) => xs.length | _ => 0) ⟨⟨_, _, rfl⟩, g3, N.length, Nat.le_refl _, fun i => by rw [List.take_length], by rw [List.take_length]; exact eN⟩ ?_
          rintro σ H4 ⟨⟨o1, o2, rfl⟩, g4, m, hm, hc, e4⟩
          have hmu : (match H4 D with | some (.lst xs) => xs.length | _ => 0) = m := by
            rw [e4]
            show ((N.take m).map V.int).length = m
            rw [List.length_map, List.length_take]; omega
          refine ⟨_, rfl, len_ok rfl, fun pe npe => ?_⟩
          have ke := same_new npe (.lst [])
          have lt : (N.take m).length = m := by rw [List.length_take]; omega
          refine neL (xs := N.take m) (ys := []) (SqL.of (ke _ _ e4)) (SqL.of upd_same) ⟨_, rfl, ?_⟩
          have g5 := g4.trans ke
          have fin : Norm (N.take m) → ∀ (D2 : Ends) H5, Same HM H5 → H5 D = some (.lst ((N.take m).map V.int)) → D2.rt = Q → tSeq (tIfS (tTest (tOp rNe (tCall (spWrit K) [] E0 (tCons (tVar 2) tNil)) (tVar 0))) (tRet (tC V.non)) tNext) (tRet (tVar 2)) D2 [some (.str x), some (.ref p), some (.ref D), o1, o2] H5 := fun hn D2 H5 b5 e5 hD2 => by
            have ef : N.take m = trim (accL T) := by rw [← eT]; exact norm_ext hn (norm_trim _) fun i => by rw [coef_trim, hc i]
            rw [ef] at e5
            refine ⟨_, rfl, D, _, rfl, SqL.of e5, gd, fun H6 g6 => ?_⟩
            refine ⟨_, rfl, rfl, _, rfl, ?_⟩
            have gA := gM.trans (b5.trans g6)
            by_cases c2 : wr (trim (accL T)) = x
            · refine iteNS (by rw [c2]) ⟨_, rfl, ?_⟩
              rw [hD2]
              exact q1 _ (by rw [erd, if_pos c2]) D H6 gA fD (g6 _ _ e5)
            · refine iteS (fun z => c2 (V.str.inj z)) ?_
              show D2.rt _ _
              rw [hD2]
              exact q2 (by rw [erd, if_neg c2]) H6 gA
          by_cases c : N.take m = []
          · exact iteNS c (iteF (fin (.inl c) _ _ g5 (ke _ _ e4) rfl))
          · refine iteS c ⟨_, rfl, _, rfl, D, _, _, _, rfl, rfl, SqL.of (ke _ _ e4), atI_neg1 c, rfl, _, rfl, ?_⟩
            by_cases z : coef (N.take m) ((N.take m).length - 1) = 0
            · have hm1 : 1 ≤ m := by
                have := List.length_pos_iff.mpr c
                omega
              rw [hmu]
              refine iteY (by rw [z]) (win ?_)
              have ed : ((N.take m).map V.int).dropLast = (N.take (m - 1)).map V.int := by rw [List.dropLast_eq_take, List.length_map, lt, ← List.map_take, List.take_take, Nat.min_eq_left (by omega)]
              refine ⟨_, rfl, .inl ⟨rfl, _, SqL.of (ke _ _ e4)⟩, D, _, .int (coef (N.take m) (m - 1)), rfl, rfl, ke _ _ e4, by rw [List.length_map, lt]; exact map_int_at (by omega), ?_⟩
              rw [ed]
              refine ⟨⟨⟨_, _, rfl⟩, g5.free_upd hD _, m - 1, by omega, fun i => ?_, upd_same⟩, ?_⟩
              · rw [← hc i]
                by_cases ci : i < m - 1
                · rw [coef_lt (by rw [List.length_take]; omega), coef_lt (by rw [List.length_take]; omega), List.getElem_take, List.getElem_take]
                · by_cases cj : i = m - 1
                  · rw [coef_ge (by rw [List.length_take]; omega), cj]
                    rw [lt] at z
                    exact z.symm
                  · rw [coef_ge (by rw [List.length_take]; omega), coef_ge (by rw [List.length_take]; omega)]
              · show (match (L2.upd _ D (.lst ((N.take (m - 1)).map V.int))) D with | some (.lst xs) => xs.length | _ => 0) < m
                rw [upd_same]
                show ((N.take (m - 1)).map V.int).length < m
                rw [List.length_map, List.length_take]; omega
            · exact iteN (fun u => z (V.int.inj u)) (fin (.inr z) _ _ g5 (ke _ _ e4) rfl)
def spTold (K : PySem.W.Frag) : Sp := fun vs H Q _ => ∃ v : V, vs = [v] ∧ (∀ x, v = .str x → Txo x ∧ (∀ f, rd rdP x = some f → New H Q f) ∧ (rd rdP x = none → ∀ H', Same H H' → Q .non H')) ∧ ((∀ x, v ≠ .str x) → (∃ T, TyB K H v T ∧ PySem.W.kitOne K (.type T) (.type "str") = some false) ∧ ∀ H', Same H H' → Q .non H')
structure Exk (K : PySem.W.Frag) (N B : Addr) (cs : List Addr) : Prop where
  ex : PySem.W.exmOne K (.ref N) (.ref B) = some true
  k : ExcK K N
  no : PySem.W.kitAny K (.ref N) (cs.map Value.ref) = some false
  va : PySem.W.kitOne K (.ref N) (.type "ValueError") = some true
theorem bt_ValueError : bootBuiltins "ValueError" = some (.type "ValueError") := by decide +kernel
theorem ok_q_told {C_NoText C_BranchError C_NoPolynomial C_NoPrime C_NoRow C_NoSize C_NotPlain C_NoTower C_TooDeep : Addr} (xk : Exk K C_NoText C_BranchError [C_NoPolynomial, C_NoPrime, C_NoRow, C_NoSize, C_NotPlain, C_NoTower, C_TooDeep])
    (m_NoText : mg "NoText" = some (.ref C_NoText)) (m_BranchError : mg "BranchError" = some (.ref C_BranchError)) (m_NoPolynomial : mg "NoPolynomial" = some (.ref C_NoPolynomial)) (m_NoPrime : mg "NoPrime" = some (.ref C_NoPrime)) (m_NoRow : mg "NoRow" = some (.ref C_NoRow)) (m_NoSize : mg "NoSize" = some (.ref C_NoSize)) (m_NotPlain : mg "NotPlain" = some (.ref C_NotPlain)) (m_NoTower : mg "NoTower" = some (.ref C_NoTower)) (m_TooDeep : mg "TooDeep" = some (.ref C_TooDeep))
    (B : Blt mg) (d_read_polynomial : DfnE P w K mg base 5 "read_polynomial" ["text"] (spReadPoly K C_NoText)) (F : Src K mg "_law_told" s_q_told ["_law_thing"]) : Dfn P w K mg base 6 "_law_told" ["_law_thing"] (spTold K) := by
  refine F.ok sc_q_told (fun vs H Q E h => ?_) (fun fa cdv A outer s H vs Q E hr h => ?_)
  · obtain ⟨x, rfl, _⟩ := h; rfl
  obtain ⟨v, rfl, hs, hn⟩ := h
  refine ⟨_, pss_cons (ps_try (i := 1) ⟨rfl, rfl⟩ sc_q_told.nd rfl rfl rfl m_BranchError
      (fun pn E => pss_one (ps_ret (pe_defE d_read_polynomial pass_try hr (pa_cons (pv 0) pa_nil))))
      (fun ea => pss_cons (ps_if (pt_val (pe_callB (callK_isiE (K := K) rfl) rfl B.«isinstance» bt_isinstance (pa_cons (pv 1) (pa_cons (pe_tup (pa_cons (pe_glob (v := .ref C_NoPolynomial) rfl m_NoPolynomial rfl) (pa_cons (pe_glob (v := .ref C_NoPrime) rfl m_NoPrime rfl) (pa_cons (pe_glob (v := .ref C_NoRow) rfl m_NoRow rfl) (pa_cons (pe_glob (v := .ref C_NoSize) rfl m_NoSize rfl) (pa_cons (pe_glob (v := .ref C_NotPlain) rfl m_NotPlain rfl) (pa_cons (pe_glob (v := .ref C_NoTower) rfl m_NoTower rfl) (pa_cons (pe_glob (v := .ref C_TooDeep) rfl m_TooDeep rfl) pa_nil)))))))) pa_nil))))
        (pss_one (ps_ret pe_str))
        (pss_nil))
      (pss_one (ps_if (PW.pt (pw_or (pt_not (pt_val (pe_callB (callK_isiE (K := K) rfl) rfl B.«isinstance» bt_isinstance (pa_cons (pv 1) (pa_cons (pe_glob (v := .ref C_NoText) rfl m_NoText rfl) pa_nil))))) (pw_or1 (pt_not (pt_val (pe_callB (callK_isiE (K := K) rfl) rfl B.«isinstance» bt_isinstance (pa_cons (pv 1) (pa_cons (pe_bltn (v := .ty "ValueError") rfl B.«ValueError» bt_ValueError rfl) pa_nil))))))))
        (pss_one (ps_ret pe_str))
        (pss_nil)))))
    (pss_one (ps_ret pe_non)), ?_⟩
  refine ⟨_, rfl, v, rfl, fun x hx => ?_, fun hv => ?_⟩
  · obtain ⟨tx, q1, q2⟩ := hs x hx
    refine ⟨tx, q1, fun hno ea H1 g1 => ?_⟩
    have qn := q2 hno
    refine ⟨C_NoText, rfl, xk.ex, fun ea' σ' he hf hl => ?_⟩
    cases he
    obtain ⟨a0, b0, rfl⟩ : ∃ a0 b0, σ' = [a0, b0] := by
      match σ', hl with
      | [a0, b0], _ => exact ⟨a0, b0, rfl⟩
    have e1 : (upd H1 ea (.ext (ExAt ea C_NoText))) ea = some (.ext (ExAt ea C_NoText)) := upd_same
    have gE := g1.trans (same_new hf (.ext (ExAt ea C_NoText)))
    generalize upd H1 ea _ = H2 at e1 gE
    refine ⟨_, rfl, len_ok rfl, fun pt nt => ?_⟩
    have kt := same_new nt (.tup [.ref C_NoPolynomial, .ref C_NoPrime, .ref C_NoRow, .ref C_NoSize, .ref C_NotPlain, .ref C_NoTower, .ref C_TooDeep])
    refine ⟨ea, C_NoText, _, false, rfl, kt _ _ e1, xk.k, .tup (cs := [C_NoPolynomial, C_NoPrime, C_NoRow, C_NoSize, C_NotPlain, C_NoTower, C_TooDeep]) upd_same xk.no, _, rfl, iteF ?_⟩
    have e2 := kt _ _ e1
    have gT := gE.trans kt
    generalize upd H2 pt _ = H3 at e2 gT
    refine ⟨_, rfl, ea, C_NoText, _, true, rfl, e2, xk.k, .own (by unfold PySem.W.kitOne; rw [if_pos (by simp)]), _, rfl, iteF ?_⟩
    refine ⟨_, rfl, ea, C_NoText, _, true, rfl, e2, xk.k, .ty xk.va, _, rfl, iteF ?_⟩
    exact qn _ gT
  · obtain ⟨ty, qn⟩ := hn hv
    refine ⟨ty, fun ea H1 g1 => ?_⟩
    refine ⟨C_NoText, rfl, xk.ex, fun ea' σ' he hf hl => ?_⟩
    cases he
    obtain ⟨a0, b0, rfl⟩ : ∃ a0 b0, σ' = [a0, b0] := by
      match σ', hl with
      | [a0, b0], _ => exact ⟨a0, b0, rfl⟩
    have e1 : (upd H1 ea (.ext (ExAt ea C_NoText))) ea = some (.ext (ExAt ea C_NoText)) := upd_same
    have gE := g1.trans (same_new hf (.ext (ExAt ea C_NoText)))
    generalize upd H1 ea _ = H2 at e1 gE
    refine ⟨_, rfl, len_ok rfl, fun pt nt => ?_⟩
    have kt := same_new nt (.tup [.ref C_NoPolynomial, .ref C_NoPrime, .ref C_NoRow, .ref C_NoSize, .ref C_NotPlain, .ref C_NoTower, .ref C_TooDeep])
    refine ⟨ea, C_NoText, _, false, rfl, kt _ _ e1, xk.k, .tup (cs := [C_NoPolynomial, C_NoPrime, C_NoRow, C_NoSize, C_NotPlain, C_NoTower, C_TooDeep]) upd_same xk.no, _, rfl, iteF ?_⟩
    have e2 := kt _ _ e1
    have gT := gE.trans kt
    generalize upd H2 pt _ = H3 at e2 gT
    refine ⟨_, rfl, ea, C_NoText, _, true, rfl, e2, xk.k, .own (by unfold PySem.W.kitOne; rw [if_pos (by simp)]), _, rfl, iteF ?_⟩
    refine ⟨_, rfl, ea, C_NoText, _, true, rfl, e2, xk.k, .ty xk.va, _, rfl, iteF ?_⟩
    exact qn _ gT
structure Wx (x : Str) : Prop where
  asc : Asc x
  one : 1 ≤ x.length
  few : x.length ≤ 4001
  each : ∀ w ∈ Txt.split x ⟨#[32]⟩, w.length ≤ 131
  many : (Txt.split x ⟨#[32]⟩).length ≤ 26
theorem Wx.txo {x : Str} (h : Wx x) : Txo x := ⟨h.asc, by have := h.few; omega⟩
theorem wr_wx {f : List Int} (g : Gs f) : Wx (wr f) := by
  have gT := tms_goodW g.1 g.gd.2.2 g.2.1
  have asc := wr_asc f
  have few := text_lenW gT
  obtain ⟨t, r, hT⟩ : ∃ t r, tms f = t :: r := by
    cases h : tms f with
    | nil => exact absurd h gT.ne
    | cons t r => exact ⟨t, r, rfl⟩
  have ew : wr f = text (t :: r) := by unfold wr; rw [hT]
  rw [hT] at gT
  have hw : ∀ (U : List Tm), (∀ u ∈ U, u.1.natAbs < 10 ^ 64 ∧ u.2 ≤ 12) → ∀ w ∈ words U, w.length ≤ 130 := by
    intro U
    induction U with
    | nil => intro _ w h; simp [words] at h
    | cons u U ih =>
      intro hU w h
      rcases List.mem_cons.mp h with rfl | h
      · unfold sgs; split <;> decide +kernel
      · rcases List.mem_cons.mp h with rfl | h
        · exact term_lenW (hU u List.mem_cons_self).1 (hU u List.mem_cons_self).2
        · exact ih (fun v hv => hU v (List.mem_cons_of_mem _ hv)) w h
  have hr := hw r fun u hu => gT.each u (List.mem_cons_of_mem _ hu)
  have ht := term_lenW (gT.each t List.mem_cons_self).1 (gT.each t List.mem_cons_self).2
  have lr : (words r).length ≤ 24 := by
    have := gT.few
    have : (t :: r).length = r.length + 1 := rfl
    rw [words_len]; omega
  have es : ∃ a : Str, a.length ≤ 1 ∧ Txt.split (wr f) ⟨#[32]⟩ = (a ++ term t.1.natAbs t.2) :: words r := by
    have tfree : 32 ∉ cs (term t.1.natAbs t.2) := fun z => by have := term_sg _ _ _ z; omega
    by_cases v : t.1 < 0
    · refine ⟨Str.ofString "-", by decide +kernel, ?_⟩
      have e : wr f = Str.join ⟨#[32]⟩ ((Str.ofString "-" ++ term t.1.natAbs t.2) :: words r) := by
        rw [ew, text_tail0, if_pos v]
        refine cs_ext ?_
        show cs (Str.ofString "-" ++ Str.join ⟨#[32]⟩ (term t.1.natAbs t.2 :: words r)) = _
        rw [cs_app, join_cs, join_cs, cs_app, List.append_assoc]
      rw [e]
      refine split_join 32 (by simp) fun w hw => ?_
      rcases List.mem_cons.mp hw with y | y
      · rw [y, cs_app, cs_mi]
        intro z
        rcases List.mem_append.mp z with u | u
        · exact absurd (List.mem_singleton.mp u) (by decide)
        · exact tfree u
      · exact words_free r w y
    · refine ⟨Str.empty, by decide, ?_⟩
      have e0 : Str.empty ++ term t.1.natAbs t.2 = term t.1.natAbs t.2 := cs_ext (by rw [cs_app]; rfl)
      rw [ew, text_all v, split_tail, e0]
  obtain ⟨a, la, es⟩ := es
  refine ⟨asc, ?_, few, fun w hw => ?_, ?_⟩
  · have : wr f ≠ Str.empty := by rw [ew]; exact text_ne (by simp)
    rw [← cs_len]
    exact List.length_pos_iff.mpr fun z => this (cs_ext z)
  · rw [es] at hw
    rcases List.mem_cons.mp hw with y | y
    · rw [y, Str.length_append]; omega
    · have := hr w y; omega
  · rw [es, List.length_cons]; omega
def spChanged : Sp := fun vs H Q _ => ∃ (x : Str) (b : Addr) (g r : Int), vs = [.str x, .ref b] ∧ Wx x ∧ H b = some (.lst [.int g, .int r]) ∧ ∀ (y : Str) (H' : Hp), Txo y → But b H H' → Q (.str y) H'
theorem bdk {m : Int} (h0 : 0 ≤ m) (h1 : m < 1000000) : Bd 9000 m := Bd.mono (m := 64) (Bd.small (by omega) (by omega)) (by decide)
abbrev allS : Str := Str.ofString " !\"#$&'()*+,-./0123456789:;<=>?@ABCDEFGHIJKLMNOPQRSTUVWXYZ[\\]^_`abcdefghijklmnopqrstuvwxyz{|}~"
theorem allS_len : allS.length = 94 := by decide +kernel
theorem allS_asc : Asc allS := by unfold Asc; decide +kernel
theorem ten_len : (Str.ofString " +-*^x0123").length = 10 := by decide +kernel
theorem ten_asc : Asc (Str.ofString " +-*^x0123") := by unfold Asc; decide +kernel
theorem at_str {x : Str} {n : Nat} (h : n < x.length) : ∃ c, atI x.cps.toList (n : Int) = some c ∧ c ∈ cs x := by
  have h' : n < (cs x).length := by rw [cs_len]; exact h
  refine ⟨(cs x)[n], ?_, List.getElem_mem h'⟩
  unfold atI
  rw [ixN_nat (by omega) (by show (n : Int) < ((cs x).length : Int); omega)]
  show (cs x)[((n : Nat) : Int).toNat]? = _
  rw [Int.toNat_natCast]
  simp [h']
def Wks (ws : List Str) : Prop := (∀ w ∈ ws, Asc w ∧ w.length ≤ 131) ∧ ws.length ≤ 27
theorem map_erase {α β : Type} (g : α → β) : ∀ (l : List α) (k : Nat), (l.map g).eraseIdx k = (l.eraseIdx k).map g
  | [], _ => rfl
  | _ :: _, 0 => rfl
  | a :: l, k + 1 => by
    show g a :: (l.map g).eraseIdx k = g a :: (l.eraseIdx k).map g
    rw [map_erase g l k]
theorem sq_nat {k n : Nat} (h : k < n) : seqIndex? (k : Int) n = some k := by
  unfold seqIndex?
  simp
  omega
def W12 : List Str := [Str.ofString "x", Str.ofString "0", Str.ofString "+", Str.ofString "-", Str.ofString "x^2", Str.ofString "1*x", Str.ofString "0*x", Str.ofString "x^1", Str.ofString "3", Str.ofString "x^13", Str.ofString "x^0", Str.ofString ""]
theorem w12_ok : ∀ w ∈ W12, Asc w ∧ w.length ≤ 131 := by
  unfold Asc W12
  decide +kernel
theorem ok_q_changed (B : Blt mg) (d_q_take : Dfn P w K mg base 1 "_law_take" ["_law_bag_here", "_law_many"] (spTake K)) (F : Src K mg "_law_changed" s_q_changed ["_law_text", "_law_bag_here"]) : Dfn P w K mg base 2 "_law_changed" ["_law_text", "_law_bag_here"] spChanged := by
  refine F.ok sc_q_changed (fun vs H Q E h => ?_) (fun fa cdv A outer s H vs Q E hr h => ?_)
  · obtain ⟨x, b, g, r, rfl, _⟩ := h; rfl
  obtain ⟨x, b, g, r, rfl, wx, hb, q⟩ := h
  refine ⟨_, pss_cons (ps_set (i := 2) sc_q_changed.nd rfl (Or.inl rfl) pe_str)
    (pss_cons (ps_set (i := 3) sc_q_changed.nd rfl (Or.inl rfl) (pe_ix ix_str (pv 2) (pe_def d_q_take hr (pa_cons (pv 1) (pa_cons (pe_callB call_lenT rfl B.«len» bt_len (pa_cons (pv 2) pa_nil)) pa_nil))) (fun _ _ => rfl)))
    (pss_cons (ps_if (pt_cmpR op_gt (pe_def d_q_take hr (pa_cons (pv 1) (pa_cons pe_int pa_nil))) pe_int (nomark _))
      (pss_one (ps_set (i := 3) sc_q_changed.nd rfl (Or.inl rfl) (pe_ix ix_str pe_str (pe_def d_q_take hr (pa_cons (pv 1) (pa_cons pe_int pa_nil))) (fun _ _ => rfl))))
      (pss_nil))
    (pss_cons (ps_set (i := 4) sc_q_changed.nd rfl (Or.inl rfl) (pe_def d_q_take hr (pa_cons (pv 1) (pa_cons (pe_callB call_lenT rfl B.«len» bt_len (pa_cons (pv 0) pa_nil)) pa_nil))))
    (pss_cons (ps_set (i := 5) sc_q_changed.nd rfl (Or.inl rfl) (pe_def d_q_take hr (pa_cons (pv 1) (pa_cons pe_int pa_nil))))
    (pss_cons (ps_if (pt_cmpR op_lt (pv 5) pe_int (nomark _))
      (pss_one (ps_ret (pe_ix (ixK_list (K := K) rfl) (pe_lst (pa_cons (pe_op op_add_str (pe_op op_add_str (pe_slice sl_str (pv 0) po_none (po_some (pv 4))) (pv 3)) (pe_slice sl_str (pv 0) (po_some (pe_op op_add (pv 4) pe_int)) po_none)) (pa_cons (pe_op op_add_str (pe_slice sl_str (pv 0) po_none (po_some (pv 4))) (pe_slice sl_str (pv 0) (po_some (pe_op op_add (pv 4) pe_int)) po_none)) (pa_cons (pe_op op_add_str (pe_op op_add_str (pe_slice sl_str (pv 0) po_none (po_some (pv 4))) (pv 3)) (pe_slice sl_str (pv 0) (po_some (pv 4)) po_none)) pa_nil)))) (pv 5) (fun _ _ => rfl))))
      (pss_nil))
    (pss_cons (ps_set (i := 6) sc_q_changed.nd rfl (Or.inl rfl) (pe_bm PySem.F.plainAttrs_str PySem.F.slot_str_split PySem.F.type_str_split mt_split (pv 0) (pa_cons pe_str pa_nil)))
    (pss_cons (ps_set (i := 7) sc_q_changed.nd rfl (Or.inl rfl) (pe_def d_q_take hr (pa_cons (pv 1) (pa_cons (pe_callB (callK_len (K := K) rfl) rfl B.«len» bt_len (pa_cons (pv 6) pa_nil)) pa_nil))))
    (pss_cons (ps_if (pt_cmpR op_eq (pv 5) pe_int (nomark _))
      (pss_one (ps_expr (pe_bm PySem.F.plainAttrs_list PySem.F.slot_list_insert PySem.F.type_list_insert mt_insert (pv 6) (pa_cons (pv 7) (pa_cons (pe_ix (ixK_list (K := K) rfl) (pv 6) (pv 7) (fun _ _ => rfl)) pa_nil)))))
      (pss_one (ps_if (pt_cmpR op_eq (pv 5) pe_int (nomark _))
        (pss_one (ps_expr (pe_bm PySem.F.plainAttrs_list PySem.F.slot_list_pop PySem.F.type_list_pop mt_popAt (pv 6) (pa_cons (pv 7) pa_nil))))
        (pss_one (ps_if (pt_cmpR op_eq (pv 5) pe_int (nomark _))
          (pss_one (ps_asg (pe_ix (ixK_list (K := K) rfl) (pe_lst (pa_cons pe_str (pa_cons pe_str (pa_cons pe_str (pa_cons pe_str (pa_cons pe_str (pa_cons pe_str (pa_cons pe_str (pa_cons pe_str (pa_cons pe_str (pa_cons pe_str (pa_cons pe_str (pa_cons pe_str pa_nil))))))))))))) (pe_def d_q_take hr (pa_cons (pv 1) (pa_cons pe_int pa_nil))) (fun _ _ => rfl)) (pg_sub (pv 6) (pv 7) set_list)))
          (pss_one (ps_if (pt_cmpR op_eq (pv 5) pe_int (nomark _))
            (pss_one (ps_expr (pe_bm0 PySem.F.plainAttrs_list PySem.F.slot_list_reverse PySem.F.type_list_reverse mt_reverse (pv 6) )))
            (pss_one (ps_asg (pe_tup (pa_cons (pe_ix (ixK_list (K := K) rfl) (pv 6) pe_int (fun _ _ => rfl)) (pa_cons (pe_ix (ixK_list (K := K) rfl) (pv 6) (pv 7) (fun _ _ => rfl)) pa_nil))) (pgK_tup (n := 2) (K := K) rfl rfl (pgs_cons (pg_sub (pv 6) (pv 7) set_list) (pgs_cons (pg_sub (pv 6) pe_int set_list) pgs_nil))))))))))))
    (pss_one (ps_ret (pe_bm PySem.F.plainAttrs_str PySem.F.slot_str_join PySem.F.type_str_join (mtK_join (K := K) rfl) pe_str (pa_cons (pv 6) pa_nil)))))))))))), ?_⟩
  have one := wx.one
  have few := wx.few
  apply merge (M := fun σ HM => But b H HM ∧ (∃ g r, HM b = some (.lst [.int g, .int r])) ∧ ∃ c, c < 128 ∧ σ = [some (.str x), some (.ref b), some (.str allS), some (.str ⟨#[c]⟩), none, none, none, none])
  case h1 =>
    intro key
    refine ⟨_, rfl, _, rfl, _, rfl, _, rfl, by rw [allS_len, sizeLine_eq]; decide, b, g, r, _, rfl, hb, by rw [allS_len]; decide, bdk (by omega) (by rw [allS_len]; decide), fun n g1 r1 n0 n1 => ?_⟩
    rw [allS_len] at n1
    obtain ⟨n, rfl⟩ : ∃ k : Nat, n = (k : Int) := ⟨n.toNat, by omega⟩
    obtain ⟨c, hc, hm⟩ := at_str (x := allS) (n := n) (by rw [allS_len]; omega)
    refine ⟨_, _, c, rfl, rfl, by rw [allS_len, sizeLine_eq]; decide, hc, ?_⟩
    refine ⟨_, rfl, b, g1, r1, 4, rfl, upd_same, by decide, bdk (by decide) (by decide), fun m g2 r2 m0 m4 => ?_⟩
    have b2 := ((But.refl b H).upd (.lst [.int g1, .int r1])).upd (.lst [.int g2, .int r2])
    have e2 : (upd (upd H b (.lst [.int g1, .int r1])) b (.lst [.int g2, .int r2])) b = some (.lst [.int g2, .int r2]) := upd_same
    generalize upd (upd H b (.lst [.int g1, .int r1])) b (.lst [.int g2, .int r2]) = H2 at b2 e2
    refine ⟨_, _, rfl, rfl, _, rfl, ?_⟩
    by_cases c0 : ¬ 0 < m
    · exact iteN (by omega) (key _ _ ⟨b2, ⟨_, _, e2⟩, c, allS_asc c hm, rfl⟩)
    · refine iteY (by omega) ?_
      refine ⟨_, rfl, b, g2, r2, 10, rfl, e2, by decide, bdk (by decide) (by decide), fun n' g3 r3 n0' n1' => ?_⟩
      obtain ⟨n', rfl⟩ : ∃ k : Nat, n' = (k : Int) := ⟨n'.toNat, by omega⟩
      obtain ⟨c', hc', hm'⟩ := at_str (x := Str.ofString " +-*^x0123") (n := n') (by rw [ten_len]; omega)
      exact ⟨_, _, c', rfl, rfl, by rw [ten_len, sizeLine_eq]; decide, hc', key _ _ ⟨b2.upd _, ⟨_, _, upd_same⟩, c', ten_asc c' hm', rfl⟩⟩
  case h2 =>
    rintro σ HM ⟨bM, ⟨g, r, hb⟩, c, hc, rfl⟩
    have sA : Asc (⟨#[c]⟩ : Str) := fun d hd => by rw [List.mem_singleton.mp hd]; exact hc
    have sL : (⟨#[c]⟩ : Str).length = 1 := rfl
    have hz : x.length ≤ sizeLine := by rw [sizeLine_eq]; omega
    refine ⟨_, rfl, _, rfl, _, rfl, hz, b, g, r, _, rfl, hb, by omega, bdk (by omega) (by omega), fun a g1 r1 a0 a1 => ?_⟩
    refine ⟨_, rfl, b, g1, r1, 8, rfl, upd_same, by decide, bdk (by decide) (by decide), fun wy g2 r2 y0 y8 => ?_⟩
    have b2 := (bM.upd (.lst [.int g1, .int r1])).upd (.lst [.int g2, .int r2])
    have e2 : (upd (upd HM b (.lst [.int g1, .int r1])) b (.lst [.int g2, .int r2])) b = some (.lst [.int g2, .int r2]) := upd_same
    generalize upd (upd HM b (.lst [.int g1, .int r1])) b (.lst [.int g2, .int r2]) = H2 at b2 e2
    refine ⟨_, rfl, _, _, rfl, rfl, _, rfl, ?_⟩
    by_cases c3 : wy < 3
    · refine iteY c3 ?_
      have l1 := (slice_sub x none (some a)).1
      have l2 := (slice_sub x (some (a + 1)) none).1
      have l3 := (slice_sub x (some a) none).1
      have t1 := slice_asc wx.asc none (some a)
      have t2 := slice_asc wx.asc (some (a + 1)) none
      have t3 := slice_asc wx.asc (some a) none
      have z : x.length ≤ 100000 := by omega
      have cat : ∀ u v : Str, u.length ≤ 4002 → v.length ≤ 4001 → u.length + v.length ≤ sizeLine := fun u v h1 h2 => by rw [sizeLine_eq]; omega
      refine ⟨_, rfl, _, rfl, _, rfl, _, rfl, z, ?_⟩
      have sl1 : (Txt.slice x none (some a) ++ (⟨#[c]⟩ : Str)).length ≤ 4002 := by rw [Str.length_append, sL]; omega
      refine ⟨_, rfl, _, _, rfl, rfl, cat _ _ (by omega) (by rw [sL]; omega), ?_⟩
      refine ⟨_, rfl, _, rfl, _, _, rfl, rfl, _, rfl, _, rfl, z, _, _, rfl, rfl, cat _ _ sl1 (by omega), ?_⟩
      refine ⟨_, rfl, _, rfl, _, rfl, _, rfl, z, _, rfl, _, rfl, _, _, rfl, rfl, _, rfl, _, rfl, z, _, _, rfl, rfl, cat _ _ (by omega) (by omega), ?_⟩
      refine ⟨_, rfl, _, rfl, _, rfl, _, rfl, z, _, rfl, _, _, rfl, rfl, cat _ _ (by omega) (by rw [sL]; omega), ?_⟩
      refine ⟨_, rfl, _, rfl, _, rfl, _, rfl, z, _, _, rfl, rfl, cat _ _ sl1 (by omega), len_ok rfl, fun pl nl => ?_⟩
      have kl := same_new nl (.lst ([Txt.slice x none (some a) ++ ⟨#[c]⟩ ++ Txt.slice x (some (a + 1)) none, Txt.slice x none (some a) ++ Txt.slice x (some (a + 1)) none, Txt.slice x none (some a) ++ ⟨#[c]⟩ ++ Txt.slice x (some a) none].map V.str))
      obtain ⟨n, rfl⟩ : ∃ j : Nat, wy = (j : Int) := ⟨wy.toNat, by omega⟩
      have hn : n < 3 := by omega
      have all : ∀ y ∈ [Txt.slice x none (some a) ++ ⟨#[c]⟩ ++ Txt.slice x (some (a + 1)) none, Txt.slice x none (some a) ++ Txt.slice x (some (a + 1)) none, Txt.slice x none (some a) ++ ⟨#[c]⟩ ++ Txt.slice x (some a) none], Txo y := fun y hy => by
        simp only [List.mem_cons, List.not_mem_nil, or_false] at hy
        rcases hy with rfl | rfl | rfl
        · exact ⟨app_asc (app_asc t1 sA) t2, by rw [Str.length_append]; omega⟩
        · exact ⟨app_asc t1 t2, by rw [Str.length_append]; omega⟩
        · exact ⟨app_asc (app_asc t1 sA) t3, by rw [Str.length_append]; omega⟩
      obtain ⟨y, hy⟩ : ∃ y, [Txt.slice x none (some a) ++ ⟨#[c]⟩ ++ Txt.slice x (some (a + 1)) none, Txt.slice x none (some a) ++ Txt.slice x (some (a + 1)) none, Txt.slice x none (some a) ++ ⟨#[c]⟩ ++ Txt.slice x (some a) none][n]? = some y := ⟨_, List.getElem?_eq_getElem (by show n < 3; exact hn)⟩
      refine ⟨_, rfl, pl, _, _, _, rfl, rfl, SqL.of upd_same, str_ix hy, ?_⟩
      exact q y _ (all y (List.mem_of_getElem? hy)) (b2.trans (But.of (b := b) kl))
    · refine iteN c3 ?_
      have ep : Txt.split x (Str.ofString " ") = Txt.split x ⟨#[32]⟩ := by rw [s_sp]
      have l1 : 1 ≤ (Txt.split x ⟨#[32]⟩).length := List.length_pos_iff.mpr (split_ne _ _)
      have l26 := wx.many
      refine ⟨_, rfl, rfl, _, _, rfl, rfl, by decide +kernel, by omega, ?_⟩
      rw [ep]
      intro p np
      have hpb : p ≠ b := fun z => by rw [z, e2] at np; cases np
      have kp := same_new np (.lst ((Txt.split x ⟨#[32]⟩).map V.str))
      have e3 := kp _ _ e2
      have b3 := b2.trans (But.of (b := b) kp)
      have ew : (upd H2 p (.lst ((Txt.split x ⟨#[32]⟩).map V.str))) p = some (.lst ((Txt.split x ⟨#[32]⟩).map V.str)) := upd_same
      have fp : ∀ o, H p = some o → False := fun o z => by
        have := b2 p o hpb z
        rw [np] at this; cases this
      generalize upd H2 p (.lst ((Txt.split x ⟨#[32]⟩).map V.str)) = H3 at e3 b3 ew
      have lm : ((Txt.split x ⟨#[32]⟩).map V.str).length = (Txt.split x ⟨#[32]⟩).length := List.length_map _
      refine ⟨_, rfl, _, rfl, p, _, rfl, .inl (SqL.of ew), b, g2, r2, _, rfl, e3, by rw [lm]; omega, bdk (by omega) (by rw [lm]; omega), fun k g4 r4 k0 k1 => ?_⟩
      rw [lm] at k1
      obtain ⟨k, rfl⟩ : ∃ j : Nat, k = (j : Int) := ⟨k.toNat, by omega⟩
      have wk : Wks (Txt.split x ⟨#[32]⟩) := ⟨fun w hw => ⟨fun c hc => wx.asc c ((split_sub x _ w hw).1 c hc), wx.each w hw⟩, by omega⟩
      have b4 := b3.upd (.lst [.int g4, .int r4])
      have e4 : (upd H3 b (.lst [.int g4, .int r4])) b = some (.lst [.int g4, .int r4]) := upd_same
      have ew4 : (upd H3 b (.lst [.int g4, .int r4])) p = some (.lst ((Txt.split x ⟨#[32]⟩).map V.str)) := by rw [upd_ne hpb]; exact ew
      generalize upd H3 b (.lst [.int g4, .int r4]) = H4 at e4 b4 ew4
      generalize Txt.split x ⟨#[32]⟩ = ws at wk ew4 l1 l26 k1
      have k1' : k < ws.length := by omega
      obtain ⟨wd, hwd⟩ : ∃ wd, ws[k]? = some wd := ⟨ws[k], by simp [k1']⟩
      have mwd := List.mem_of_getElem? hwd
      have keepP : ∀ (H' : Hp) (o : HO), But b H H' → But b H (upd H' p o) := fun H' o h a o' hn ha => by
        have z : a ≠ p := fun z => fp o' (by rw [← z]; exact ha)
        rw [upd_ne z]
        exact h a o' hn ha
      apply merge (M := fun σ HN => But b H HN ∧ ∃ ws' : List Str, Wks ws' ∧ HN p = some (.lst (ws'.map V.str)) ∧ σ = [some (.str x), some (.ref b), some (.str allS), some (.str ⟨#[c]⟩), some (.int a), some (.int wy), some (.ref p), some (.int (k : Int))])
      case h1 =>
        intro key
        refine ⟨_, rfl, rfl, _, rfl, ?_⟩
        by_cases y3 : wy = 3
        · refine iteY (by rw [y3]) ?_
          refine ⟨_, rfl, .inl ⟨rfl, _, SqL.of ew4⟩, _, rfl, _, rfl, _, rfl, p, _, _, _, rfl, rfl, SqL.of ew4, str_ix hwd, p, _, k, _, rfl, rfl, ew4, by rw [List.length_map]; omega, by rw [List.length_map]; omega, ?_⟩
          refine key _ _ ⟨keepP _ _ b4, ws.take k ++ wd :: ws.drop k, ⟨fun w hw => ?_, by rw [List.length_append, List.length_cons, List.length_take, List.length_drop]; omega⟩, by rw [upd_same, List.map_append, List.map_cons, List.map_take, List.map_drop], rfl⟩
          rcases List.mem_append.mp hw with y | y
          · exact wk.1 w (List.mem_of_mem_take y)
          · rcases List.mem_cons.mp y with y | y
            · rw [y]; exact wk.1 wd mwd
            · exact wk.1 w (List.mem_of_mem_drop y)
        refine iteN (fun z => y3 (V.int.inj z)) ?_
        refine ⟨_, rfl, rfl, _, rfl, ?_⟩
        by_cases y4 : wy = 4
        · refine iteY (by rw [y4]) ?_
          refine ⟨_, rfl, .inl ⟨rfl, _, SqL.of ew4⟩, _, rfl, p, _, _, k, .str wd, rfl, rfl, ew4, by omega, by omega, ?_, ?_, ?_⟩
          · rw [List.length_map]; exact sq_nat k1'
          · rw [List.getElem?_map, hwd]; rfl
          · refine key _ _ ⟨keepP _ _ b4, ws.eraseIdx k, ⟨fun w hw => wk.1 w (List.mem_of_mem_eraseIdx hw), by have := len_erase ws k; omega⟩, by rw [upd_same, map_erase], rfl⟩
        refine iteN (fun z => y4 (V.int.inj z)) ?_
        refine ⟨_, rfl, rfl, _, rfl, ?_⟩
        by_cases y5 : wy = 5
        · refine iteY (by rw [y5]) ?_
          refine ⟨len_ok rfl, fun pl nl => ?_⟩
          have hlb : pl ≠ b := fun z => by rw [z, e4] at nl; cases nl
          have hlp : p ≠ pl := fun z => by rw [← z, ew4] at nl; cases nl
          have kl := same_new nl (.lst (W12.map V.str))
          refine ⟨_, rfl, b, g4, r4, 12, rfl, kl _ _ e4, by decide, bdk (by decide) (by decide), fun n g5 r5 n0 n12 => ?_⟩
          obtain ⟨n, rfl⟩ : ∃ j : Nat, n = (j : Int) := ⟨n.toNat, by omega⟩
          have hn : n < W12.length := by show n < 12; omega
          obtain ⟨nw, hnw⟩ : ∃ nw, W12[n]? = some nw := ⟨W12[n], by simp [hn]⟩
          have b5 := (b4.trans (But.of (b := b) kl)).upd (.lst [.int g5, .int r5])
          have ew5 : (upd (upd H4 pl (.lst (W12.map V.str))) b (.lst [.int g5, .int r5])) p = some (.lst (ws.map V.str)) := by rw [upd_ne hpb, upd_ne hlp]; exact ew4
          refine ⟨pl, _, _, _, rfl, rfl, SqL.of (xs := W12.map V.str) (by rw [upd_ne hlb]; exact upd_same), str_ix hnw, ?_⟩
          refine ⟨_, rfl, _, rfl, p, _, _, k, rfl, rfl, ew5, by rw [List.length_map]; exact ixN_nat (by omega) (by omega), ?_⟩
          refine key _ _ ⟨keepP _ _ b5, ws.set k nw, ⟨fun w hw => ?_, by rw [List.length_set]; omega⟩, by rw [upd_same, List.map_set], rfl⟩
          rcases List.mem_or_eq_of_mem_set hw with y | y
          · exact wk.1 w y
          · rw [y]; exact w12_ok nw (List.mem_of_getElem? hnw)
        refine iteN (fun z => y5 (V.int.inj z)) ?_
        refine ⟨_, rfl, rfl, _, rfl, ?_⟩
        by_cases y6 : wy = 6
        · refine iteY (by rw [y6]) ?_
          refine ⟨_, rfl, .inl ⟨rfl, _, SqL.of ew4⟩, p, _, rfl, rfl, ew4, ?_⟩
          exact key _ _ ⟨keepP _ _ b4, ws.reverse, ⟨fun w hw => wk.1 w (List.mem_reverse.mp hw), by rw [List.length_reverse]; omega⟩, by rw [upd_same, List.map_reverse], rfl⟩
        refine iteN (fun z => y6 (V.int.inj z)) ?_
        obtain ⟨w0, hw0⟩ : ∃ w0, ws[0]? = some w0 := ⟨ws[0], by simp⟩
        have m0 := List.mem_of_getElem? hw0
        refine ⟨_, rfl, p, _, _, _, rfl, rfl, SqL.of ew4, str_ix hw0, _, rfl, _, rfl, p, _, _, _, rfl, rfl, SqL.of ew4, str_ix hwd, len_ok rfl, fun pt nt => ?_⟩
        have kt := same_new nt (.tup [.str w0, .str wd])
        refine ⟨pt, _, rfl, SqT.of upd_same, rfl, _, _, rfl, _, rfl, _, rfl, p, _, _, k, rfl, rfl, kt _ _ ew4, by rw [List.length_map]; exact ixN_nat (by omega) (by omega), _, _, rfl, _, rfl, p, _, _, 0, rfl, rfl, upd_same, by rw [List.length_set, List.length_map]; exact ixN_nat (by omega) (by omega), rfl, ?_⟩
        refine key _ _ ⟨keepP _ _ (keepP _ _ (b4.trans (But.of (b := b) kt))), (ws.set k w0).set 0 wd, ⟨fun w hw => ?_, by rw [List.length_set, List.length_set]; omega⟩, by rw [upd_same, List.map_set, List.map_set], rfl⟩
        rcases List.mem_or_eq_of_mem_set hw with y | y
        · rcases List.mem_or_eq_of_mem_set y with z | z
          · exact wk.1 w z
          · rw [z]; exact wk.1 w0 m0
        · rw [y]; exact wk.1 wd mwd
      case h2 =>
        rintro σ HN ⟨bN, ws', wk', eN, rfl⟩
        have jf := StrLaws.joinFits (sep := Str.ofString " ") (texts := ws') (B := 131) (fun y hy => (wk'.1 y hy).2) (by
          have : (Str.ofString " ").length = 1 := by decide +kernel
          rw [this]
          have := wk'.2
          show ws'.length * 131 + ws'.length * 1 ≤ 16777216
          omega)
        refine ⟨rfl, _, rfl, _, p, ws', rfl, rfl, SqL.of eN, ?_, ?_⟩
        · unfold JoinOk
          rw [Bool.not_eq_true']
          exact jf
        · have ej : Txt.join (Str.ofString " ") ws' = Str.join ⟨#[32]⟩ ws' := by
            show Builtin.Str.glued _ _ = _
            rw [StrLaws.glued_eq_join, s_sp]
          rw [ej]
          refine q _ _ ⟨join_asc 32 (by decide) ws' fun w hw => (wk'.1 w hw).1, ?_⟩ bN
          have := join_len ⟨#[32]⟩ 131 ws' fun w hw => (wk'.1 w hw).2
          have h3 : (⟨#[32]⟩ : Str).length = 1 := rfl
          rw [h3] at this
          have : ws'.length * (131 + 1) ≤ 27 * 132 := Nat.mul_le_mul_right _ wk'.2
          omega
end
section
variable {P : Program} {w : World} {K : PySem.W.Frag} {mg : Str → Option Value} {base : Heap}
def badS : List Str := [Str.ofString "", Str.ofString " ", Str.ofString "x ", Str.ofString " x", Str.ofString "x + ", Str.ofString "+ x", Str.ofString "+x", Str.ofString "--x", Str.ofString "- x", Str.ofString "-0", Str.ofString "00", Str.ofString "01", Str.ofString "1*x", Str.ofString "x^1", Str.ofString "x^0", Str.ofString "x^01", Str.ofString "x^13", Str.ofString "0*x", Str.ofString "x + x", Str.ofString "1 + x", Str.ofString "x - 0", Str.ofString "x + -1", Str.ofString "x  + 1", Str.ofString "X", Str.ofString "y", Str.ofString "2x", Str.ofString "x*2", Str.ofString "2*3", Str.ofString "x^", Str.ofString "x^-1", Str.ofString "x*x", ⟨(List.replicate (61 : Int).toNat (Str.ofString "1").cps).foldl (· ++ ·) #[]⟩, Str.ofString "x + " ++ ⟨(List.replicate (61 : Int).toNat (Str.ofString "9").cps).foldl (· ++ ·) #[]⟩, Str.ofString "1.0", Str.ofString "1/2", Str.ofString "x\n", Str.ofString "x^2 + x^2"]
theorem bad_none : ∀ x ∈ badS, rd rdP x = none := by
  unfold badS
  decide +kernel
theorem bad_txo : ∀ x ∈ badS, Txo x := by
  unfold badS Txo Asc
  decide +kernel
def bads (p1 p2 : Addr) : List V := .non :: .int 5 :: .bl true :: .ref p1 :: .ref p2 :: badS.map V.str
def A1 (p1 p2 : Addr) : List V := [.non, .int 5, .bl true, .ref p1, .ref p2, .str (Str.ofString ""), .str (Str.ofString " "), .str (Str.ofString "x "), .str (Str.ofString " x"), .str (Str.ofString "x + "), .str (Str.ofString "+ x"), .str (Str.ofString "+x"), .str (Str.ofString "--x"), .str (Str.ofString "- x"), .str (Str.ofString "-0"), .str (Str.ofString "00"), .str (Str.ofString "01"), .str (Str.ofString "1*x")]
def A2 : List V := [.str (Str.ofString "x^1"), .str (Str.ofString "x^0"), .str (Str.ofString "x^01"), .str (Str.ofString "x^13"), .str (Str.ofString "0*x"), .str (Str.ofString "x + x"), .str (Str.ofString "1 + x"), .str (Str.ofString "x - 0"), .str (Str.ofString "x + -1"), .str (Str.ofString "x  + 1"), .str (Str.ofString "X"), .str (Str.ofString "y"), .str (Str.ofString "2x")]
def A3 : List V := [.str (Str.ofString "x*2"), .str (Str.ofString "2*3"), .str (Str.ofString "x^"), .str (Str.ofString "x^-1"), .str (Str.ofString "x*x"), .str ⟨(List.replicate (61 : Int).toNat (Str.ofString "1").cps).foldl (· ++ ·) #[]⟩, .str (Str.ofString "x + " ++ ⟨(List.replicate (61 : Int).toNat (Str.ofString "9").cps).foldl (· ++ ·) #[]⟩), .str (Str.ofString "1.0"), .str (Str.ofString "1/2"), .str (Str.ofString "x\n"), .str (Str.ofString "x^2 + x^2")]
def spLaw (K : PySem.W.Frag) : Sp := fun vs H Q _ => ∃ (a : Addr) (ns : List Int), vs = [.ref a] ∧ SqL K H a (ns.map V.int) ∧ ns.length ≤ 63 ∧ ∀ H', Q (.bl true) H'
theorem tdl {σ : St} {i : Nat} {x : Str} {H : Hp} {Q : VK} (hσ : σ[i]? = some (some (.str x))) (hx : Txo x) (q : ∀ H', Same H H' → Q (.bl false) H') : tOp (rEqD K true) (tCall (spTold K) [] E0 (tCons (tVar i) tNil)) (tCall spDue [] E0 (tCons (tVar i) tNil)) σ H Q := by
  have e := rd_same good_P good_L x
  refine ⟨_, hσ, .str x, rfl, fun y hy => ?_, fun hn => absurd rfl (hn x)⟩
  cases hy
  refine ⟨hx, fun f hf p1 H1 g1 n1 e1 => ?_, fun hn H1 g1 => ?_⟩
  · refine ⟨_, hσ, x, rfl, hx, fun f' hf' p2 H2 g2 n2 e2 => ?_, fun hn => ?_⟩
    · have : f' = f := by rw [← e, hf] at hf'; exact (Option.some.inj hf').symm
      subst this
      exact neL (SqL.of (g2 _ _ e1)) (SqL.of e2) (by rw [decide_eq_true rfl]; exact q _ (g1.trans g2))
    · rw [← e, hf] at hn; cases hn
  · refine ⟨_, hσ, x, rfl, hx, fun f' hf' => ?_, fun _ H2 g2 => ?_⟩
    · rw [← e, hn] at hf'; cases hf'
    · exact neSame (n := 1) .non .non .non (by decide) (q _ (g1.trans g2))
theorem ok_law (B : Blt mg) (d_q_bag : Dfn P w K mg base 1 "_law_bag" ["_law_script", "_law_at"] (spBag K)) (d_q_polynomial : Dfn P w K mg base 3 "_law_polynomial" ["_law_bag_here"] spPolyB) (d_q_written : Dfn P w K mg base 1 "_law_written" ["_law_f"] (spWrit K)) (d_q_changed : Dfn P w K mg base 2 "_law_changed" ["_law_text", "_law_bag_here"] spChanged) (d_q_told : Dfn P w K mg base 6 "_law_told" ["_law_thing"] (spTold K)) (d_q_due : Dfn P w K mg base 3 "_law_due" ["_law_text"] spDue)
    {f : Addr} {fd : FuncData} (F : Fun K "law" "law" s_law f fd) : FnOk P w K mg base CX0 7 f fd ["_law_script"] (spLaw K) := by
  refine F.ok sc_law (fun vs H Q E h => ?_) (fun cdv A outer s H vs Q E hr h => ?_)
  · obtain ⟨a, ns, rfl, _⟩ := h; rfl
  obtain ⟨a, ns, rfl, hS, hlen, q⟩ := h
  refine ⟨_, pss_cons (ps_for PassesOwn.never rfl (pi_rangeS rfl B.«range» (pa_cons pe_int (pa_cons (pe_callB (call_max2 rfl) rfl B.«max» bt_max (pa_cons pe_int (pa_cons (pe_callB (call_min2 rfl) rfl B.«min» bt_min (pa_cons pe_int (pa_cons (pe_callB (callK_len (K := K) rfl) rfl B.«len» bt_len (pa_cons (pv 0) pa_nil)) pa_nil))) pa_nil))) (pa_cons pe_int pa_nil)))) (pg_name (i := 1) sc_law.nd rfl (Or.inl rfl))
      (pss_cons (ps_set (i := 2) sc_law.nd rfl (Or.inl rfl) (pe_def d_q_written hr (pa_cons (pe_def d_q_polynomial hr (pa_cons (pe_def d_q_bag hr (pa_cons (pv 0) (pa_cons (pv 1) pa_nil))) pa_nil)) pa_nil)))
      (pss_cons (ps_set (i := 3) sc_law.nd rfl (Or.inl rfl) (pe_def d_q_changed hr (pa_cons (pv 2) (pa_cons (pe_def d_q_bag hr (pa_cons (pv 0) (pa_cons (pe_op op_add (pv 1) pe_int) pa_nil))) pa_nil))))
      (pss_one (ps_if (PW.pt (pw_or (pt_cmpR (opK_neD (K := K) rfl hr.units) (pe_def d_q_told hr (pa_cons (pv 3) pa_nil)) (pe_def d_q_due hr (pa_cons (pv 3) pa_nil)) (nomark _)) (pw_or (pt_cmpR (opK_neD (K := K) rfl hr.units) (pe_def d_q_told hr (pa_cons (pv 2) pa_nil)) (pe_def d_q_due hr (pa_cons (pv 2) pa_nil)) (nomark _)) (pw_or1 (pt_cmpR op_is (pe_def d_q_due hr (pa_cons (pv 2) pa_nil)) pe_non (nomark _))))))
        (pss_one (ps_ret pe_bl))
        (pss_nil))))))
    (pss_cons (ps_set (i := 4) sc_law.nd rfl (Or.inl rfl) (pe_lst (pa_cons pe_non (pa_cons pe_int (pa_cons pe_bl (pa_cons (pe_lst pa_nil) (pa_cons (pe_lst (pa_cons pe_str pa_nil)) (pa_cons pe_str (pa_cons pe_str (pa_cons pe_str (pa_cons pe_str (pa_cons pe_str (pa_cons pe_str (pa_cons pe_str (pa_cons pe_str (pa_cons pe_str (pa_cons pe_str (pa_cons pe_str (pa_cons pe_str (pa_cons pe_str pa_nil))))))))))))))))))))
    (pss_cons (ps_set (i := 4) sc_law.nd rfl (Or.inl rfl) (pe_op op_cat (pv 4) (pe_lst (pa_cons pe_str (pa_cons pe_str (pa_cons pe_str (pa_cons pe_str (pa_cons pe_str (pa_cons pe_str (pa_cons pe_str (pa_cons pe_str (pa_cons pe_str (pa_cons pe_str (pa_cons pe_str (pa_cons pe_str (pa_cons pe_str pa_nil))))))))))))))))
    (pss_cons (ps_set (i := 4) sc_law.nd rfl (Or.inl rfl) (pe_op op_cat (pv 4) (pe_lst (pa_cons pe_str (pa_cons pe_str (pa_cons pe_str (pa_cons pe_str (pa_cons pe_str (pa_cons (pe_op op_repS pe_str pe_int) (pa_cons (pe_op op_add_str pe_str (pe_op op_repS pe_str pe_int)) (pa_cons pe_str (pa_cons pe_str (pa_cons pe_str (pa_cons pe_str pa_nil))))))))))))))
    (pss_one (ps_ret (pe_cmpR (opK_eqD (K := K) rfl hr.units) (pe_comp (compScope_mk (N := ["_law_thing"]) (sl := [none]) (defScope s_law) ["_law_script", "_law_at", "_law_text", "_law_other", "_law_bad"] rfl rfl (by decide +kernel)) rfl (piK_list (K := K) rfl (pv 4)) (fun _ _ _ _ _ => (pg_name (i := 0) (by show List.Nodup (["_law_thing"] : List Str); decide +kernel) rfl (Or.inl rfl))) (fun _ _ _ _ _ => (pif_one (pt_cmpR op_isnot (pe_def d_q_told hr (pa_cons (pv 0) pa_nil)) pe_non (nomark _)))) (fun _ _ _ _ _ => (pv 0))) (pe_lst pa_nil) (nomark _))))))), ?_⟩
  have hn : (ns.map V.int).length = ns.length := List.length_map _
  walk_at "rd"
  refine ⟨a, _, rfl, .inl hS, _, _, rfl, _, _, rfl, ?_⟩
  rw [hn]
  have hrange : ∀ L : Int, 0 ≤ L → L ≤ 63 → ∀ x, x = (if (if L < 6 then L else 6) > 2 then (if L < 6 then L else 6) else 2) → 2 ≤ x ∧ x ≤ 6 := by
    intro L h0 h1 x hx
    rw [hx]
    repeat' split
    all_goals omega
  obtain ⟨r1, r2⟩ := hrange (ns.length : Int) (by omega) (by omega) _ rfl
  refine ⟨_, _, rfl, ⟨by decide, by decide, by omega, by omega⟩, ?_⟩
  refine for_step (fun k σ H2 => Same H H2 ∧ ∃ o1 o2 o3 o4, σ = [some (.ref a), o1, o2, o3, o4]) ⟨Same.refl H, _, _, _, _, rfl⟩ ?_ ?_
  · rintro k σ H0 hk ⟨g0, o1, o2, o3, o4, rfl⟩
    refine ⟨_, rfl, _, rfl, a, ns, _, rfl, g0.seq hS, by omega, fun pb g r H1 g1 n1 e1 => ?_⟩
    refine ⟨pb, g, r, rfl, e1, fun fp gs p H2 b2 n2 e2 => ?_⟩
    have g02 : Same H0 H2 := fun x o e => b2 _ _ (fun z => by rw [z, n1] at e; cases e) (g1 _ _ e)
    refine ⟨p, fp, rfl, SqL.of e2, gs.gd, fun H3 g3 => ?_⟩
    have gA := g0.trans (g02.trans g3)
    refine ⟨_, rfl, _, rfl, _, rfl, _, _, rfl, rfl, a, ns, _, rfl, gA.seq hS, by omega, fun pb2 g' r' H4 g4 n4 e4 => ?_⟩
    refine ⟨wr fp, pb2, g', r', rfl, wr_wx gs, e4, fun y H5 ty b5 => ?_⟩
    have g35 : Same H3 H5 := fun x o e => b5 _ _ (fun z => by rw [z, n4] at e; cases e) (g4 _ _ e)
    have gB := gA.trans g35
    refine tdl rfl ty fun H6 g6 => ⟨_, rfl, iteF ?_⟩
    refine tdl rfl (wr_wx gs).txo fun H7 g7 => ⟨_, rfl, iteF ?_⟩
    have e7 : rd rdL (wr fp) = some fp := by
      rw [rd_wr good_L gs.1 gs.2.1, if_pos fun t ht => ((tms_good gs.1 gs.2.2 gs.2.1).each t ht).1]
    refine ⟨_, rfl, wr fp, rfl, (wr_wx gs).txo, fun f' hf' p8 H8 g8 n8 e8 => ?_, fun hno => ?_⟩
    · refine ⟨rfl, _, rfl, iteN (fun z => by cases z) ?_⟩
      exact ⟨gB.trans (g6.trans (g7.trans g8)), _, _, _, _, rfl⟩
    · rw [e7] at hno; cases hno
  · rintro σ H0 ⟨g0, o1, o2, o3, o4, rfl⟩
    walk_at "rd"
    intro p1 n1
    have k1 := same_new n1 (.lst [])
    walk_at "rd"
    intro p2 n2
    have k2 := same_new n2 (.lst [.str (Str.ofString "x")])
    have e1 := k2 _ _ (upd_same (H := H0) (a := p1) (o := .lst []))
    have e2 : (upd (upd H0 p1 (.lst [])) p2 (.lst [.str (Str.ofString "x")])) p2 = some (.lst [.str (Str.ofString "x")]) := upd_same
    generalize upd (upd H0 p1 (.lst [])) p2 (.lst [.str (Str.ofString "x")]) = H1 at e1 e2
    walk_at "rd"
    intro p3 n3
    show gName 4 (V.ref p3) _ _ _
    generalize hH2 : upd H1 p3 _ = H2
    have e3 : H2 p3 = some (.lst (A1 p1 p2)) := by rw [← hH2]; exact upd_same
    have g3 : Same H1 H2 := by rw [← hH2]; exact same_new n3 _
    refine ⟨_, rfl, ?_⟩
    walk_at "rd"
    intro p4 n4
    generalize hH3 : upd H2 p4 _ = H3
    have e4 : H3 p4 = some (.lst A2) := by rw [← hH3]; exact upd_same
    have g4 : Same H2 H3 := by rw [← hH3]; exact same_new n4 _
    refine ⟨p3, p4, _, _, rfl, rfl, g4 _ _ e3, e4, by rw [sizeLine_eq]; show 18 + 13 ≤ 16777216; decide, fun p5 n5 => ?_⟩
    show gName 4 (V.ref p5) _ _ _
    generalize hH4 : upd H3 p5 _ = H4
    have e5 : H4 p5 = some (.lst (A1 p1 p2 ++ A2)) := by rw [← hH4]; exact upd_same
    have g5 : Same H3 H4 := by rw [← hH4]; exact same_new n5 _
    refine ⟨_, rfl, ?_⟩
    refine ⟨_, _, rfl, rfl, by decide, by decide, by decide +kernel, by decide +kernel, ?_⟩
    refine ⟨_, _, rfl, rfl, by decide, by decide, by decide +kernel, by decide +kernel, _, _, rfl, rfl, by decide +kernel, ?_⟩
    walk_at "rd"
    intro p6 n6
    generalize hH5 : upd H4 p6 _ = H5
    have e6 : H5 p6 = some (.lst A3) := by rw [← hH5]; exact upd_same
    have g6 : Same H4 H5 := by rw [← hH5]; exact same_new n6 _
    refine ⟨p5, p6, _, _, rfl, rfl, g6 _ _ e5, e6, by rw [sizeLine_eq]; show 31 + 11 ≤ 16777216; decide, fun p7 n7 => ?_⟩
    show gName 4 (V.ref p7) _ _ _
    generalize hH6 : upd H5 p7 _ = H6
    have e7 : H6 p7 = some (.lst (bads p1 p2)) := by rw [← hH6]; exact upd_same
    have g7 : Same H5 H6 := by rw [← hH6]; exact same_new n7 _
    have gA := (((g3.trans g4).trans g5).trans g6).trans g7
    have t1 := gA _ _ e1
    have t2 := gA _ _ e2
    clear hH2 hH3 hH4 hH5 hH6 e3 e4 e5 e6 g3 g4 g5 g6 g7 gA
    have lb : (bads p1 p2).length = 42 := rfl
    refine ⟨_, rfl, p7, rfl, ⟨_, SqL.of e7⟩, fun D hD => ?_⟩
    refine comp_list (xs := bads p1 p2) (fun i ys H7 => Same H6 H7 ∧ ys = []) ⟨same_new hD _, rfl⟩ (fun i ys H7 _ h => SqL.of (h.1 _ _ e7)) ?_ ?_
    · rintro i m x ys H7 hm hi hx hy hlen ⟨gg, rfl⟩
      have fin : ∀ H8, Same H7 H8 → CW (bads p1 p2).length D (fun i ys H7 => Same H6 H7 ∧ ys = []) (i + 1) ((bads p1 p2).length - (i + 1)) H8 → True := fun _ _ _ => trivial
      have stop : ∀ H8, Same H7 H8 → ∃ m', m' < m ∧ CW (bads p1 p2).length D (fun i ys H7 => Same H6 H7 ∧ ys = []) (i + 1) m' H8 := fun H8 g8 => CW.skip hm hi (g8 _ _ hy) hlen ⟨gg.trans g8, rfl⟩
      refine ⟨_, rfl, x, rfl, fun y hyx => ?_, fun hns => ⟨?_, fun H8 g8 => ⟨rfl, _, rfl, iteNS rfl (stop H8 g8)⟩⟩⟩
      · have my : y ∈ badS := by
          have := List.mem_of_getElem? hx
          rw [hyx] at this
          simp only [bads, List.mem_cons, reduceCtorEq, false_or] at this
          obtain ⟨z, hz, e⟩ := List.mem_map.mp this
          rw [← V.str.inj e]; exact hz
        refine ⟨bad_txo y my, fun f hf => ?_, fun _ H8 g8 => ⟨rfl, _, rfl, iteNS rfl (stop H8 g8)⟩⟩
        rw [bad_none y my] at hf; cases hf
      · have := List.mem_of_getElem? hx
        simp only [bads, List.mem_cons] at this
        rcases this with rfl | rfl | rfl | rfl | rfl | h
        · exact ⟨_, .non, by with_unfolding_all rfl⟩
        · exact ⟨_, .int 5, by with_unfolding_all rfl⟩
        · exact ⟨_, .bl true, by with_unfolding_all rfl⟩
        · exact ⟨_, .lst (SqL.of (gg _ _ t1)), by with_unfolding_all rfl⟩
        · exact ⟨_, .lst (SqL.of (gg _ _ t2)), by with_unfolding_all rfl⟩
        · obtain ⟨z, _, e⟩ := List.mem_map.mp h
          exact absurd e.symm (hns z)
    · rintro ys H7 hy ⟨gg, rfl⟩
      refine ⟨len_ok rfl, fun pe npe => ?_⟩
      have ke := same_new npe (.lst [])
      exact eqL (xs := []) (ys := []) (SqL.of (ke _ _ hy)) (SqL.of upd_same) (q _)
end
theorem all_mk {l : PySem.W.OpenLaw} {w : World} {K : PySem.W.Frag} {h : Heap} {mg : Str → Option Value} {fa : Addr} (X : K.In h) (G : h.Ns mainGlobals mg) (hfa : mg "law" = some (.ref fa))
    {f0 : Addr} {od0 an0 : Option Addr} {sl0 : Array (Option Value)} {oc0 kV0 dc0 pm0 cd0 ct0 : Value}
    {f1 : Addr} {od1 an1 : Option Addr} {sl1 : Array (Option Value)} {oc1 kV1 dc1 pm1 cd1 ct1 : Value}
    {f2 : Addr} {od2 an2 : Option Addr} {sl2 : Array (Option Value)} {oc2 kV2 dc2 pm2 cd2 ct2 : Value}
    {f3 : Addr} {od3 an3 : Option Addr} {sl3 : Array (Option Value)} {oc3 kV3 dc3 pm3 cd3 ct3 : Value}
    {f4 : Addr} {od4 an4 : Option Addr} {sl4 : Array (Option Value)} {oc4 kV4 dc4 pm4 cd4 ct4 : Value}
    {f5 : Addr} {od5 an5 : Option Addr} {sl5 : Array (Option Value)} {oc5 kV5 dc5 pm5 cd5 ct5 : Value}
    {f6 : Addr} {od6 an6 : Option Addr} {sl6 : Array (Option Value)} {oc6 kV6 dc6 pm6 cd6 ct6 : Value}
    {f7 : Addr} {od7 an7 : Option Addr} {sl7 : Array (Option Value)} {oc7 kV7 dc7 pm7 cd7 ct7 : Value}
    {f8 : Addr} {od8 an8 : Option Addr} {sl8 : Array (Option Value)} {oc8 kV8 dc8 pm8 cd8 ct8 : Value}
    {f9 : Addr} {od9 an9 : Option Addr} {sl9 : Array (Option Value)} {oc9 kV9 dc9 pm9 cd9 ct9 : Value}
    {f10 : Addr} {od10 an10 : Option Addr} {sl10 : Array (Option Value)} {oc10 kV10 dc10 pm10 cd10 ct10 : Value}
    {f11 : Addr} {od11 an11 : Option Addr} {sl11 : Array (Option Value)} {oc11 kV11 dc11 pm11 cd11 ct11 : Value}
    {f12 : Addr} {od12 an12 : Option Addr} {sl12 : Array (Option Value)} {oc12 kV12 dc12 pm12 cd12 ct12 : Value}
    {f13 : Addr} {od13 an13 : Option Addr} {sl13 : Array (Option Value)} {oc13 kV13 dc13 pm13 cd13 ct13 : Value}
    {f14 : Addr} {od14 an14 : Option Addr} {sl14 : Array (Option Value)} {oc14 kV14 dc14 pm14 cd14 ct14 : Value}
    {f15 : Addr} {od15 an15 : Option Addr} {sl15 : Array (Option Value)} {oc15 kV15 dc15 pm15 cd15 ct15 : Value}
    {f16 : Addr} {od16 an16 : Option Addr} {sl16 : Array (Option Value)} {oc16 kV16 dc16 pm16 cd16 ct16 : Value}
    {f17 : Addr} {od17 an17 : Option Addr} {sl17 : Array (Option Value)} {oc17 kV17 dc17 pm17 cd17 ct17 : Value}
    {f18 : Addr} {od18 an18 : Option Addr} {sl18 : Array (Option Value)} {oc18 kV18 dc18 pm18 cd18 ct18 : Value}
    {f19 : Addr} {od19 an19 : Option Addr} {sl19 : Array (Option Value)} {oc19 kV19 dc19 pm19 cd19 ct19 : Value}
    {C_BranchError : Addr}
    {C_NoPrime : Addr}
    {C_NoPolynomial : Addr}
    {C_NotPlain : Addr}
    {C_TooDeep : Addr}
    {C_NoTower : Addr}
    {C_NoSize : Addr}
    {C_NoText : Addr}
    {C_NoRow : Addr}
    {t_FIGURES : Tok}
    {t_MOST_FIGURES : Tok}
    {t_MOST_POWER : Tok}
    (a0 : PySem.W.nsIn K mainGlobals "without_noughts_behind" = some (some (.ref f0))) (l0 : K.lookup f0 = some ⟨oc0, od0, .func (PySem.W.fnOf "without_noughts_behind" "without_noughts_behind" (defArgs s_without_noughts_behind) (defBody s_without_noughts_behind) (defScope s_without_noughts_behind) .none kV0 dc0 pm0 an0 cd0 ct0), sl0⟩) (c0 : PySem.W.codeIn K cd0 "without_noughts_behind" = true) (k0 : PySem.W.keepIn K (.ref f0) = true)
    (a1 : PySem.W.nsIn K mainGlobals "number_text" = some (some (.ref f1))) (l1 : K.lookup f1 = some ⟨oc1, od1, .func (PySem.W.fnOf "number_text" "number_text" (defArgs s_number_text) (defBody s_number_text) (defScope s_number_text) .none kV1 dc1 pm1 an1 cd1 ct1), sl1⟩) (c1 : PySem.W.codeIn K cd1 "number_text" = true) (k1 : PySem.W.keepIn K (.ref f1) = true)
    (a2 : PySem.W.nsIn K mainGlobals "is_figures" = some (some (.ref f2))) (l2 : K.lookup f2 = some ⟨oc2, od2, .func (PySem.W.fnOf "is_figures" "is_figures" (defArgs s_is_figures) (defBody s_is_figures) (defScope s_is_figures) .none kV2 dc2 pm2 an2 cd2 ct2), sl2⟩) (c2 : PySem.W.codeIn K cd2 "is_figures" = true) (k2 : PySem.W.keepIn K (.ref f2) = true)
    (a3 : PySem.W.nsIn K mainGlobals "term_text" = some (some (.ref f3))) (l3 : K.lookup f3 = some ⟨oc3, od3, .func (PySem.W.fnOf "term_text" "term_text" (defArgs s_term_text) (defBody s_term_text) (defScope s_term_text) .none kV3 dc3 pm3 an3 cd3 ct3), sl3⟩) (c3 : PySem.W.codeIn K cd3 "term_text" = true) (k3 : PySem.W.keepIn K (.ref f3) = true)
    (a4 : PySem.W.nsIn K mainGlobals "written" = some (some (.ref f4))) (l4 : K.lookup f4 = some ⟨oc4, od4, .func (PySem.W.fnOf "written" "written" (defArgs s_written) (defBody s_written) (defScope s_written) .none kV4 dc4 pm4 an4 cd4 ct4), sl4⟩) (c4 : PySem.W.codeIn K cd4 "written" = true) (k4 : PySem.W.keepIn K (.ref f4) = true)
    (a5 : PySem.W.nsIn K mainGlobals "read_figures" = some (some (.ref f5))) (l5 : K.lookup f5 = some ⟨oc5, od5, .func (PySem.W.fnOf "read_figures" "read_figures" (defArgs s_read_figures) (defBody s_read_figures) (defScope s_read_figures) .none kV5 dc5 pm5 an5 cd5 ct5), sl5⟩) (c5 : PySem.W.codeIn K cd5 "read_figures" = true) (k5 : PySem.W.keepIn K (.ref f5) = true)
    (a6 : PySem.W.nsIn K mainGlobals "read_term" = some (some (.ref f6))) (l6 : K.lookup f6 = some ⟨oc6, od6, .func (PySem.W.fnOf "read_term" "read_term" (defArgs s_read_term) (defBody s_read_term) (defScope s_read_term) .none kV6 dc6 pm6 an6 cd6 ct6), sl6⟩) (c6 : PySem.W.codeIn K cd6 "read_term" = true) (k6 : PySem.W.keepIn K (.ref f6) = true)
    (a7 : PySem.W.nsIn K mainGlobals "read_words" = some (some (.ref f7))) (l7 : K.lookup f7 = some ⟨oc7, od7, .func (PySem.W.fnOf "read_words" "read_words" (defArgs s_read_words) (defBody s_read_words) (defScope s_read_words) .none kV7 dc7 pm7 an7 cd7 ct7), sl7⟩) (c7 : PySem.W.codeIn K cd7 "read_words" = true) (k7 : PySem.W.keepIn K (.ref f7) = true)
    (a8 : PySem.W.nsIn K mainGlobals "read_polynomial" = some (some (.ref f8))) (l8 : K.lookup f8 = some ⟨oc8, od8, .func (PySem.W.fnOf "read_polynomial" "read_polynomial" (defArgs s_read_polynomial) (defBody s_read_polynomial) (defScope s_read_polynomial) .none kV8 dc8 pm8 an8 cd8 ct8), sl8⟩) (c8 : PySem.W.codeIn K cd8 "read_polynomial" = true) (k8 : PySem.W.keepIn K (.ref f8) = true)
    (a9 : PySem.W.nsIn K mainGlobals "_law_bag" = some (some (.ref f9))) (l9 : K.lookup f9 = some ⟨oc9, od9, .func (PySem.W.fnOf "_law_bag" "_law_bag" (defArgs s_q_bag) (defBody s_q_bag) (defScope s_q_bag) .none kV9 dc9 pm9 an9 cd9 ct9), sl9⟩) (c9 : PySem.W.codeIn K cd9 "_law_bag" = true) (k9 : PySem.W.keepIn K (.ref f9) = true)
    (a10 : PySem.W.nsIn K mainGlobals "_law_take" = some (some (.ref f10))) (l10 : K.lookup f10 = some ⟨oc10, od10, .func (PySem.W.fnOf "_law_take" "_law_take" (defArgs s_q_take) (defBody s_q_take) (defScope s_q_take) .none kV10 dc10 pm10 an10 cd10 ct10), sl10⟩) (c10 : PySem.W.codeIn K cd10 "_law_take" = true) (k10 : PySem.W.keepIn K (.ref f10) = true)
    (a11 : PySem.W.nsIn K mainGlobals "_law_number" = some (some (.ref f11))) (l11 : K.lookup f11 = some ⟨oc11, od11, .func (PySem.W.fnOf "_law_number" "_law_number" (defArgs s_q_number) (defBody s_q_number) (defScope s_q_number) .none kV11 dc11 pm11 an11 cd11 ct11), sl11⟩) (c11 : PySem.W.codeIn K cd11 "_law_number" = true) (k11 : PySem.W.keepIn K (.ref f11) = true)
    (a12 : PySem.W.nsIn K mainGlobals "_law_polynomial" = some (some (.ref f12))) (l12 : K.lookup f12 = some ⟨oc12, od12, .func (PySem.W.fnOf "_law_polynomial" "_law_polynomial" (defArgs s_q_polynomial) (defBody s_q_polynomial) (defScope s_q_polynomial) .none kV12 dc12 pm12 an12 cd12 ct12), sl12⟩) (c12 : PySem.W.codeIn K cd12 "_law_polynomial" = true) (k12 : PySem.W.keepIn K (.ref f12) = true)
    (a13 : PySem.W.nsIn K mainGlobals "_law_written" = some (some (.ref f13))) (l13 : K.lookup f13 = some ⟨oc13, od13, .func (PySem.W.fnOf "_law_written" "_law_written" (defArgs s_q_written) (defBody s_q_written) (defScope s_q_written) .none kV13 dc13 pm13 an13 cd13 ct13), sl13⟩) (c13 : PySem.W.codeIn K cd13 "_law_written" = true) (k13 : PySem.W.keepIn K (.ref f13) = true)
    (a14 : PySem.W.nsIn K mainGlobals "_law_value" = some (some (.ref f14))) (l14 : K.lookup f14 = some ⟨oc14, od14, .func (PySem.W.fnOf "_law_value" "_law_value" (defArgs s_q_value) (defBody s_q_value) (defScope s_q_value) .none kV14 dc14 pm14 an14 cd14 ct14), sl14⟩) (c14 : PySem.W.codeIn K cd14 "_law_value" = true) (k14 : PySem.W.keepIn K (.ref f14) = true)
    (a15 : PySem.W.nsIn K mainGlobals "_law_term" = some (some (.ref f15))) (l15 : K.lookup f15 = some ⟨oc15, od15, .func (PySem.W.fnOf "_law_term" "_law_term" (defArgs s_q_term) (defBody s_q_term) (defScope s_q_term) .none kV15 dc15 pm15 an15 cd15 ct15), sl15⟩) (c15 : PySem.W.codeIn K cd15 "_law_term" = true) (k15 : PySem.W.keepIn K (.ref f15) = true)
    (a16 : PySem.W.nsIn K mainGlobals "_law_due" = some (some (.ref f16))) (l16 : K.lookup f16 = some ⟨oc16, od16, .func (PySem.W.fnOf "_law_due" "_law_due" (defArgs s_q_due) (defBody s_q_due) (defScope s_q_due) .none kV16 dc16 pm16 an16 cd16 ct16), sl16⟩) (c16 : PySem.W.codeIn K cd16 "_law_due" = true) (k16 : PySem.W.keepIn K (.ref f16) = true)
    (a17 : PySem.W.nsIn K mainGlobals "_law_told" = some (some (.ref f17))) (l17 : K.lookup f17 = some ⟨oc17, od17, .func (PySem.W.fnOf "_law_told" "_law_told" (defArgs s_q_told) (defBody s_q_told) (defScope s_q_told) .none kV17 dc17 pm17 an17 cd17 ct17), sl17⟩) (c17 : PySem.W.codeIn K cd17 "_law_told" = true) (k17 : PySem.W.keepIn K (.ref f17) = true)
    (a18 : PySem.W.nsIn K mainGlobals "_law_changed" = some (some (.ref f18))) (l18 : K.lookup f18 = some ⟨oc18, od18, .func (PySem.W.fnOf "_law_changed" "_law_changed" (defArgs s_q_changed) (defBody s_q_changed) (defScope s_q_changed) .none kV18 dc18 pm18 an18 cd18 ct18), sl18⟩) (c18 : PySem.W.codeIn K cd18 "_law_changed" = true) (k18 : PySem.W.keepIn K (.ref f18) = true)
    (a19 : PySem.W.nsIn K mainGlobals "law" = some (some (.ref f19))) (l19 : K.lookup f19 = some ⟨oc19, od19, .func (PySem.W.fnOf "law" "law" (defArgs s_law) (defBody s_law) (defScope s_law) .none kV19 dc19 pm19 an19 cd19 ct19), sl19⟩) (c19 : PySem.W.codeIn K cd19 "law" = true) (k19 : PySem.W.keepIn K (.ref f19) = true)
    (aC_BranchError : PySem.W.nsIn K mainGlobals "BranchError" = some (some (.ref C_BranchError)))
    (aC_NoPrime : PySem.W.nsIn K mainGlobals "NoPrime" = some (some (.ref C_NoPrime)))
    (aC_NoPolynomial : PySem.W.nsIn K mainGlobals "NoPolynomial" = some (some (.ref C_NoPolynomial)))
    (aC_NotPlain : PySem.W.nsIn K mainGlobals "NotPlain" = some (some (.ref C_NotPlain)))
    (aC_TooDeep : PySem.W.nsIn K mainGlobals "TooDeep" = some (some (.ref C_TooDeep)))
    (aC_NoTower : PySem.W.nsIn K mainGlobals "NoTower" = some (some (.ref C_NoTower)))
    (aC_NoSize : PySem.W.nsIn K mainGlobals "NoSize" = some (some (.ref C_NoSize)))
    (aC_NoText : PySem.W.nsIn K mainGlobals "NoText" = some (some (.ref C_NoText)))
    (aC_NoRow : PySem.W.nsIn K mainGlobals "NoRow" = some (some (.ref C_NoRow)))
    (q_NoText : PySem.W.excIn K C_NoText [.type "ValueError", .type "Exception", .type "BaseException", .type "object"] "ValueError.__new__" = true)
    (x_ga : PySem.W.findIn K (.ref C_NoText) "__getattribute__" = some (some (.builtin "BaseException.__getattribute__")))
    (x_no : PySem.W.findIn K (.ref C_NoText) "__getattr__" = some none)
    (x_at : PySem.W.findIn K (.ref C_NoText) "__class__" = some (some (.builtin "object.__class__")))
    (x_get : PySem.W.specialIn K (.builtin "object.__class__") "__get__" = some (some (.builtin "getset_descriptor.__get__")))
    (x_tk : PySem.W.takesIn K (.builtin "object.__class__") = some true)
    (x_ob : PySem.W.mroIn K C_NoText (.type "object") = some true)
    (x_be : PySem.W.mroIn K C_NoText (.type "BaseException") = some true)
    (x_nn : PySem.W.subIn K (.ref C_NoText) (.ref C_NoText) = some true)
    (x_va : PySem.W.subIn K (.ref C_NoText) (.type "ValueError") = some true)
    (x_bb : PySem.W.subIn K (.ref C_BranchError) (.type "BaseException") = some true)
    (xm_BranchError : PySem.W.mroIn K C_BranchError (.type "object") = some true)
    (xt_BranchError : PySem.W.typeIn K (.ref C_BranchError) = some (.type "type"))
    (xs_BranchError : PySem.W.subIn K (.ref C_NoText) (.ref C_BranchError) = some true)
    (xm_NoPolynomial : PySem.W.mroIn K C_NoPolynomial (.type "object") = some true)
    (xt_NoPolynomial : PySem.W.typeIn K (.ref C_NoPolynomial) = some (.type "type"))
    (xs_NoPolynomial : PySem.W.subIn K (.ref C_NoText) (.ref C_NoPolynomial) = some false)
    (xm_NoPrime : PySem.W.mroIn K C_NoPrime (.type "object") = some true)
    (xt_NoPrime : PySem.W.typeIn K (.ref C_NoPrime) = some (.type "type"))
    (xs_NoPrime : PySem.W.subIn K (.ref C_NoText) (.ref C_NoPrime) = some false)
    (xm_NoRow : PySem.W.mroIn K C_NoRow (.type "object") = some true)
    (xt_NoRow : PySem.W.typeIn K (.ref C_NoRow) = some (.type "type"))
    (xs_NoRow : PySem.W.subIn K (.ref C_NoText) (.ref C_NoRow) = some false)
    (xm_NoSize : PySem.W.mroIn K C_NoSize (.type "object") = some true)
    (xt_NoSize : PySem.W.typeIn K (.ref C_NoSize) = some (.type "type"))
    (xs_NoSize : PySem.W.subIn K (.ref C_NoText) (.ref C_NoSize) = some false)
    (xm_NotPlain : PySem.W.mroIn K C_NotPlain (.type "object") = some true)
    (xt_NotPlain : PySem.W.typeIn K (.ref C_NotPlain) = some (.type "type"))
    (xs_NotPlain : PySem.W.subIn K (.ref C_NoText) (.ref C_NotPlain) = some false)
    (xm_NoTower : PySem.W.mroIn K C_NoTower (.type "object") = some true)
    (xt_NoTower : PySem.W.typeIn K (.ref C_NoTower) = some (.type "type"))
    (xs_NoTower : PySem.W.subIn K (.ref C_NoText) (.ref C_NoTower) = some false)
    (xm_TooDeep : PySem.W.mroIn K C_TooDeep (.type "object") = some true)
    (xt_TooDeep : PySem.W.typeIn K (.ref C_TooDeep) = some (.type "type"))
    (xs_TooDeep : PySem.W.subIn K (.ref C_NoText) (.ref C_TooDeep) = some false)
    (y_FIGURES : PySem.W.nsIn K mainGlobals "FIGURES" = some (some (.str (Str.ofString "0123456789") t_FIGURES)))
    (y_MOST_FIGURES : PySem.W.nsIn K mainGlobals "MOST_FIGURES" = some (some (.int 60 t_MOST_FIGURES)))
    (y_MOST_POWER : PySem.W.nsIn K mainGlobals "MOST_POWER" = some (some (.int 12 t_MOST_POWER)))
    (z_ValueError : PySem.W.nsIn K mainGlobals "ValueError" = some none)
    (z_abs : PySem.W.nsIn K mainGlobals "abs" = some none)
    (z_all : PySem.W.nsIn K mainGlobals "all" = some none)
    (z_int : PySem.W.nsIn K mainGlobals "int" = some none)
    (z_isinstance : PySem.W.nsIn K mainGlobals "isinstance" = some none)
    (z_len : PySem.W.nsIn K mainGlobals "len" = some none)
    (z_max : PySem.W.nsIn K mainGlobals "max" = some none)
    (z_min : PySem.W.nsIn K mainGlobals "min" = some none)
    (z_range : PySem.W.nsIn K mainGlobals "range" = some none)
    (z_reversed : PySem.W.nsIn K mainGlobals "reversed" = some none)
    (z_str : PySem.W.nsIn K mainGlobals "str" = some none) :
    ∃ fd : FuncData, (∀ (s : Shared) (v : Value), BindsTo s fd ⟨[v], []⟩ [("_law_script", v)]) ∧ ∀ base : Heap, K.In base → base.Ns mainGlobals mg → FnOk l.prog w K mg base CX0 7 fa fd ["_law_script"] (spLaw K) := by
  have e := hfa.symm.trans (PySem.W.mg_of X G a19)
  cases e
  have S_without_noughts_behind : Src K mg "without_noughts_behind" s_without_noughts_behind ["numbers"] := src_mk X G a0 l0 c0 k0 fun _ _ _ _ _ _ us hl => match us, hl with | [_], _ => rfl
  have S_number_text : Src K mg "number_text" s_number_text ["k"] := src_mk X G a1 l1 c1 k1 fun _ _ _ _ _ _ us hl => match us, hl with | [_], _ => rfl
  have S_is_figures : Src K mg "is_figures" s_is_figures ["text"] := src_mk X G a2 l2 c2 k2 fun _ _ _ _ _ _ us hl => match us, hl with | [_], _ => rfl
  have S_term_text : Src K mg "term_text" s_term_text ["k", "power"] := src_mk X G a3 l3 c3 k3 fun _ _ _ _ _ _ us hl => match us, hl with | [_, _], _ => rfl
  have S_written : Src K mg "written" s_written ["f"] := src_mk X G a4 l4 c4 k4 fun _ _ _ _ _ _ us hl => match us, hl with | [_], _ => rfl
  have S_read_figures : Src K mg "read_figures" s_read_figures ["text"] := src_mk X G a5 l5 c5 k5 fun _ _ _ _ _ _ us hl => match us, hl with | [_], _ => rfl
  have S_read_term : Src K mg "read_term" s_read_term ["word"] := src_mk X G a6 l6 c6 k6 fun _ _ _ _ _ _ us hl => match us, hl with | [_], _ => rfl
  have S_read_words : Src K mg "read_words" s_read_words ["words"] := src_mk X G a7 l7 c7 k7 fun _ _ _ _ _ _ us hl => match us, hl with | [_], _ => rfl
  have S_read_polynomial : Src K mg "read_polynomial" s_read_polynomial ["text"] := src_mk X G a8 l8 c8 k8 fun _ _ _ _ _ _ us hl => match us, hl with | [_], _ => rfl
  have S_q_bag : Src K mg "_law_bag" s_q_bag ["_law_script", "_law_at"] := src_mk X G a9 l9 c9 k9 fun _ _ _ _ _ _ us hl => match us, hl with | [_, _], _ => rfl
  have S_q_take : Src K mg "_law_take" s_q_take ["_law_bag_here", "_law_many"] := src_mk X G a10 l10 c10 k10 fun _ _ _ _ _ _ us hl => match us, hl with | [_, _], _ => rfl
  have S_q_number : Src K mg "_law_number" s_q_number ["_law_bag_here"] := src_mk X G a11 l11 c11 k11 fun _ _ _ _ _ _ us hl => match us, hl with | [_], _ => rfl
  have S_q_polynomial : Src K mg "_law_polynomial" s_q_polynomial ["_law_bag_here"] := src_mk X G a12 l12 c12 k12 fun _ _ _ _ _ _ us hl => match us, hl with | [_], _ => rfl
  have S_q_written : Src K mg "_law_written" s_q_written ["_law_f"] := src_mk X G a13 l13 c13 k13 fun _ _ _ _ _ _ us hl => match us, hl with | [_], _ => rfl
  have S_q_value : Src K mg "_law_value" s_q_value ["_law_word"] := src_mk X G a14 l14 c14 k14 fun _ _ _ _ _ _ us hl => match us, hl with | [_], _ => rfl
  have S_q_term : Src K mg "_law_term" s_q_term ["_law_word"] := src_mk X G a15 l15 c15 k15 fun _ _ _ _ _ _ us hl => match us, hl with | [_], _ => rfl
  have S_q_due : Src K mg "_law_due" s_q_due ["_law_text"] := src_mk X G a16 l16 c16 k16 fun _ _ _ _ _ _ us hl => match us, hl with | [_], _ => rfl
  have S_q_told : Src K mg "_law_told" s_q_told ["_law_thing"] := src_mk X G a17 l17 c17 k17 fun _ _ _ _ _ _ us hl => match us, hl with | [_], _ => rfl
  have S_q_changed : Src K mg "_law_changed" s_q_changed ["_law_text", "_law_bag_here"] := src_mk X G a18 l18 c18 k18 fun _ _ _ _ _ _ us hl => match us, hl with | [_, _], _ => rfl
  have F_law := fun_mk (st := s_law) l19 c19 k19
  have m_BranchError : mg "BranchError" = some (.ref C_BranchError) := PySem.W.mg_of X G aC_BranchError
  have m_NoPrime : mg "NoPrime" = some (.ref C_NoPrime) := PySem.W.mg_of X G aC_NoPrime
  have m_NoPolynomial : mg "NoPolynomial" = some (.ref C_NoPolynomial) := PySem.W.mg_of X G aC_NoPolynomial
  have m_NotPlain : mg "NotPlain" = some (.ref C_NotPlain) := PySem.W.mg_of X G aC_NotPlain
  have m_TooDeep : mg "TooDeep" = some (.ref C_TooDeep) := PySem.W.mg_of X G aC_TooDeep
  have m_NoTower : mg "NoTower" = some (.ref C_NoTower) := PySem.W.mg_of X G aC_NoTower
  have m_NoSize : mg "NoSize" = some (.ref C_NoSize) := PySem.W.mg_of X G aC_NoSize
  have m_NoText : mg "NoText" = some (.ref C_NoText) := PySem.W.mg_of X G aC_NoText
  have m_NoRow : mg "NoRow" = some (.ref C_NoRow) := PySem.W.mg_of X G aC_NoRow
  have B : Blt mg := ⟨PySem.W.mg_none_of X G z_ValueError, PySem.W.mg_none_of X G z_abs, PySem.W.mg_none_of X G z_all, PySem.W.mg_none_of X G z_int, PySem.W.mg_none_of X G z_isinstance, PySem.W.mg_none_of X G z_len, PySem.W.mg_none_of X G z_max, PySem.W.mg_none_of X G z_min, PySem.W.mg_none_of X G z_range, PySem.W.mg_none_of X G z_reversed, PySem.W.mg_none_of X G z_str⟩
  refine ⟨PySem.W.fnOf "law" "law" (defArgs s_law) (defBody s_law) (defScope s_law) .none kV19 dc19 pm19 an19 cd19 ct19, fun s v => .of_eq rfl, fun base _ _ => ?_⟩
  have m1 := PySem.W.mg_of X G y_FIGURES
  have m2 := PySem.W.mg_of X G y_MOST_FIGURES
  have m3 := PySem.W.mg_of X G y_MOST_POWER
  have xk : Exk K C_NoText C_BranchError [C_NoPolynomial, C_NoPrime, C_NoRow, C_NoSize, C_NotPlain, C_NoTower, C_TooDeep] := ⟨exm_yes xm_BranchError xt_BranchError x_bb xs_BranchError, ⟨x_ga, x_no, x_at, x_get, x_tk, x_ob, x_be⟩, kitAny_no (kit_no x_nn xm_NoPolynomial xt_NoPolynomial xs_NoPolynomial) (kitAny_no (kit_no x_nn xm_NoPrime xt_NoPrime xs_NoPrime) (kitAny_no (kit_no x_nn xm_NoRow xt_NoRow xs_NoRow) (kitAny_no (kit_no x_nn xm_NoSize xt_NoSize xs_NoSize) (kitAny_no (kit_no x_nn xm_NotPlain xt_NotPlain xs_NotPlain) (kitAny_no (kit_no x_nn xm_NoTower xt_NoTower xs_NoTower) (kitAny_no (kit_no x_nn xm_TooDeep xt_TooDeep xs_TooDeep) (rfl))))))), kit_ty (by decide +kernel) x_va⟩
  have dt := ok_without_noughts_behind (P := l.prog) (w := w) (base := base) B S_without_noughts_behind
  have dn := ok_number_text (P := l.prog) (w := w) (base := base) B S_number_text
  have dw := ok_written B (ok_term_text B dn S_term_text) S_written
  have di := ok_is_figures (P := l.prog) (w := w) (base := base) B m1 m2 S_is_figures
  have dm := ok_read_term m_NoText q_NoText B m3 (ok_read_figures m_NoText q_NoText B di S_read_figures) S_read_term
  have dr := ok_read_polynomial m_NoText q_NoText B (ok_read_words B m3 dm dt S_read_words) dw S_read_polynomial
  have db := ok_q_bag (P := l.prog) (w := w) (base := base) B S_q_bag
  have dk := ok_q_take (P := l.prog) (w := w) (base := base) B S_q_take
  have dp := ok_q_polynomial B dk (ok_q_number B dk S_q_number) S_q_polynomial
  have dv := ok_q_written (P := l.prog) (w := w) (base := base) B S_q_written
  have dc := ok_q_changed B dk S_q_changed
  have dd := ok_q_due B (ok_q_term B (ok_q_value (P := l.prog) (w := w) (base := base) B S_q_value) S_q_term) dv S_q_due
  have dl := ok_q_told xk m_NoText m_BranchError m_NoPolynomial m_NoPrime m_NoRow m_NoSize m_NotPlain m_NoTower m_TooDeep B dr S_q_told
  exact ok_law B db dp dv dc dl dd F_law
theorem walk {l : PySem.W.OpenLaw} {q : Program} {loose : List Str} {XP : (Str → Option Value) → Heap → Prop} {YP : World → Heap → Prop} {d : DefRec} {K : Params → PySem.W.Frag} (hn : l.most = some 63) (hdf : d.params.defaults = [])
    (hY : ∀ (w : World) (h : Heap), YP w h → (K w.params).In h)
    (F : ∀ (w : World) (mg : Str → Option Value) (fa : Addr) (h : Heap), (K w.params).In h → h.Ns mainGlobals mg → mg d.name = some (.ref fa) →
      ∃ fd : FuncData, (∀ (s : Shared) (u : Value), BindsTo s fd ⟨[u], []⟩ [("_law_script", u)]) ∧ ∀ base : Heap, (K w.params).In base → base.Ns mainGlobals mg → FnOk l.prog w (K w.params) mg base CX0 7 fa fd ["_law_script"] (spLaw (K w.params))) :
    PySem.W.WalkO q loose XP YP l.row.toRowW d [] (fun f vs => PySem.call f vs) :=
  L2.walk_of (n := 63) (k := 7) (x := "_law_script") (CX := fun _ => CX0) (sp := fun w => spLaw (K w.params)) hn (by decide) hdf ⟨rfl, by decide, by decide, rfl⟩ hY F (fun _ _ a ns hl _ hS => ⟨a, ns, rfl, hS, hl, fun _ => rfl⟩) fun _ _ _ _ _ z => z
end K75
def PySem.W.Fast.tw8558835682456618047 : Nat := 0
def PySem.W.Fast.tw13620516409246892901 : Nat := 0
def PySem.W.Fast.tw16527477554215880439 : Nat := 0
def PySem.W.Fast.tw3283067284846098584 : Nat := 0
def PySem.W.Fast.tw16427546054839001757 : Nat := 0
def PySem.W.Fast.tw1773107308222976373 : Nat := 0
def PySem.W.Fast.tw4695504830826463889 : Nat := 0
def PySem.W.Fast.tw14039778378864135020 : Nat := 0
def PySem.W.Fast.tw3338440817224109706 : Nat := 0
def PySem.W.Fast.tw12196049056112489143 : Nat := 0
def PySem.W.Fast.tw14487960472684822668 : Nat := 0
def PySem.W.Fast.tw17599320918963746269 : Nat := 0
def PySem.W.Fast.tw13288008305080443462 : Nat := 0
def PySem.W.Fast.tw17116040015633732782 : Nat := 0
def PySem.W.Fast.tw13379436377042775558 : Nat := 0
def PySem.W.Fast.tw15715919983337022000 : Nat := 0
def PySem.W.Fast.tw10858765619258157750 : Nat := 0
def PySem.W.Fast.tw3220058327334921371 : Nat := 0
def PySem.W.Fast.tw59337746420905278 : Nat := 0
def PySem.W.Fast.tw11775232746372200061 : Nat := 0
def PySem.W.Fast.tw5083562366472504258 : Nat := 0
def PySem.W.Fast.tw5034945629691023589 : Nat := 0
def PySem.W.Fast.tw1306686401649059425 : Nat := 0
def PySem.W.Fast.tw16246774347683019134 : Nat := 0
def PySem.W.Fast.tw17353526572481500854 : Nat := 0
def PySem.W.Fast.tw9692875201130511432 : Nat := 0
def PySem.W.Fast.tw13633329931520723289 : Nat := 0
def PySem.W.Fast.tw8321461300629284093 : Nat := 0
def PySem.W.Fast.tw9292951062249103635 : Nat := 0
def PySem.W.Fast.tw5237667012238193932 : Nat := 0
open PySem PySem.W PyProof.Rows
set_option maxRecDepth 100000 in
set_option maxHeartbeats 0 in
theorem PySem.Challenge.cw_branchdepth_k75_texts_of_no_polynomial_holds : PySem.Challenge.rw_branchdepth_k75_texts_of_no_polynomial.Holds := by
  w_on; o_law; k_head; (case hw => w_witness2)
  k_fill
  refine K75.walk (l := PySem.Challenge.rw_branchdepth_k75_texts_of_no_polynomial) rfl rfl (fun w h Y => PySem.W.kIn_of Y) ?F
  case F =>
    intro w mg fa h KX G hmg
    refine' K75.all_mk KX G hmg ?a0 ?l0 ?c0 ?k0 ?a1 ?l1 ?c1 ?k1 ?a2 ?l2 ?c2 ?k2 ?a3 ?l3 ?c3 ?k3 ?a4 ?l4 ?c4 ?k4 ?a5 ?l5 ?c5 ?k5 ?a6 ?l6 ?c6 ?k6 ?a7 ?l7 ?c7 ?k7 ?a8 ?l8 ?c8 ?k8 ?a9 ?l9 ?c9 ?k9 ?a10 ?l10 ?c10 ?k10 ?a11 ?l11 ?c11 ?k11 ?a12 ?l12 ?c12 ?k12 ?a13 ?l13 ?c13 ?k13 ?a14 ?l14 ?c14 ?k14 ?a15 ?l15 ?c15 ?k15 ?a16 ?l16 ?c16 ?k16 ?a17 ?l17 ?c17 ?k17 ?a18 ?l18 ?c18 ?k18 ?a19 ?l19 ?c19 ?k19 ?aC_BranchError ?aC_NoPrime ?aC_NoPolynomial ?aC_NotPlain ?aC_TooDeep ?aC_NoTower ?aC_NoSize ?aC_NoText ?aC_NoRow ?q_NoText ?x_ga ?x_no ?x_at ?x_get ?x_tk ?x_ob ?x_be ?x_nn ?x_va ?x_bb ?xm_BranchError ?xt_BranchError ?xs_BranchError ?xm_NoPolynomial ?xt_NoPolynomial ?xs_NoPolynomial ?xm_NoPrime ?xt_NoPrime ?xs_NoPrime ?xm_NoRow ?xt_NoRow ?xs_NoRow ?xm_NoSize ?xt_NoSize ?xs_NoSize ?xm_NotPlain ?xt_NotPlain ?xs_NotPlain ?xm_NoTower ?xt_NoTower ?xs_NoTower ?xm_TooDeep ?xt_TooDeep ?xs_TooDeep ?y_FIGURES ?y_MOST_FIGURES ?y_MOST_POWER ?z_ValueError ?z_abs ?z_all ?z_int ?z_isinstance ?z_len ?z_max ?z_min ?z_range ?z_reversed ?z_str
    (case a0 => k_is)
    (case l0 => k_is)
    (case c0 => k_is)
    (case k0 => k_is)
    (case a1 => k_is)
    (case l1 => k_is)
    (case c1 => k_is)
    (case k1 => k_is)
    (case a2 => k_is)
    (case l2 => k_is)
    (case c2 => k_is)
    (case k2 => k_is)
    (case a3 => k_is)
    (case l3 => k_is)
    (case c3 => k_is)
    (case k3 => k_is)
    (case a4 => k_is)
    (case l4 => k_is)
    (case c4 => k_is)
    (case k4 => k_is)
    (case a5 => k_is)
    (case l5 => k_is)
    (case c5 => k_is)
    (case k5 => k_is)
    (case a6 => k_is)
    (case l6 => k_is)
    (case c6 => k_is)
    (case k6 => k_is)
    (case a7 => k_is)
    (case l7 => k_is)
    (case c7 => k_is)
    (case k7 => k_is)
    (case a8 => k_is)
    (case l8 => k_is)
    (case c8 => k_is)
    (case k8 => k_is)
    (case a9 => k_is)
    (case l9 => k_is)
    (case c9 => k_is)
    (case k9 => k_is)
    (case a10 => k_is)
    (case l10 => k_is)
    (case c10 => k_is)
    (case k10 => k_is)
    (case a11 => k_is)
    (case l11 => k_is)
    (case c11 => k_is)
    (case k11 => k_is)
    (case a12 => k_is)
    (case l12 => k_is)
    (case c12 => k_is)
    (case k12 => k_is)
    (case a13 => k_is)
    (case l13 => k_is)
    (case c13 => k_is)
    (case k13 => k_is)
    (case a14 => k_is)
    (case l14 => k_is)
    (case c14 => k_is)
    (case k14 => k_is)
    (case a15 => k_is)
    (case l15 => k_is)
    (case c15 => k_is)
    (case k15 => k_is)
    (case a16 => k_is)
    (case l16 => k_is)
    (case c16 => k_is)
    (case k16 => k_is)
    (case a17 => k_is)
    (case l17 => k_is)
    (case c17 => k_is)
    (case k17 => k_is)
    (case a18 => k_is)
    (case l18 => k_is)
    (case c18 => k_is)
    (case k18 => k_is)
    (case a19 => k_is)
    (case l19 => k_is)
    (case c19 => k_is)
    (case k19 => k_is)
    (case aC_BranchError => k_is)
    (case aC_NoPrime => k_is)
    (case aC_NoPolynomial => k_is)
    (case aC_NotPlain => k_is)
    (case aC_TooDeep => k_is)
    (case aC_NoTower => k_is)
    (case aC_NoSize => k_is)
    (case aC_NoText => k_is)
    (case aC_NoRow => k_is)
    (case q_NoText => k_exc)
    (case x_ga => k_is)
    (case x_no => k_is)
    (case x_at => k_is)
    (case x_get => k_is)
    (case x_tk => k_is)
    (case x_ob => k_is)
    (case x_be => k_is)
    (case x_nn => k_is)
    (case x_va => k_is)
    (case x_bb => k_is)
    (case xm_BranchError => k_is)
    (case xt_BranchError => k_is)
    (case xs_BranchError => k_is)
    (case xm_NoPolynomial => k_is)
    (case xt_NoPolynomial => k_is)
    (case xs_NoPolynomial => k_is)
    (case xm_NoPrime => k_is)
    (case xt_NoPrime => k_is)
    (case xs_NoPrime => k_is)
    (case xm_NoRow => k_is)
    (case xt_NoRow => k_is)
    (case xs_NoRow => k_is)
    (case xm_NoSize => k_is)
    (case xt_NoSize => k_is)
    (case xs_NoSize => k_is)
    (case xm_NotPlain => k_is)
    (case xt_NotPlain => k_is)
    (case xs_NotPlain => k_is)
    (case xm_NoTower => k_is)
    (case xt_NoTower => k_is)
    (case xs_NoTower => k_is)
    (case xm_TooDeep => k_is)
    (case xt_TooDeep => k_is)
    (case xs_TooDeep => k_is)
    (case y_FIGURES => k_is)
    (case y_MOST_FIGURES => k_is)
    (case y_MOST_POWER => k_is)
    (case z_ValueError => k_is)
    (case z_abs => k_is)
    (case z_all => k_is)
    (case z_int => k_is)
    (case z_isinstance => k_is)
    (case z_len => k_is)
    (case z_max => k_is)
    (case z_min => k_is)
    (case z_range => k_is)
    (case z_reversed => k_is)
    (case z_str => k_is)

