/-
  Contracts of package kinds: which schemas and rows may be.
-/
import Derived.Test.YtdjnjhlcdcmeaaaK3
namespace Go.Proofs.Ytdjnjhlcdcmeaaa
open Go.RowKit
/-- A column: its kind, whether it may be null. -/
structure Kn.C where
  k : Int
  null : Bool
abbrev Kn.C.val (c : Kn.C) : Value := .agg #[.int .i64 c.k, .bool c.null]
/-- Columns that lie one behind the other. -/
structure Kn.Cols (w : World) (v : Value) (l : List Kn.C) : Prop where
  is : ∃ a c, v = .slice a l.length c ∧ (l = [] ∨ ∃ b o, a = some ⟨b, o, none⟩ ∧ b < w.heap.size ∧ l.length ≤ 9223372036854775807 ∧
    ∀ i x, l[i]? = some x → w.cell? ⟨b, o + i * 2, none⟩ = some (.int .i64 x.k) ∧ w.cell? ⟨b, o + i * 2 + 1, none⟩ = some (.bool x.null))
/-- Values that lie one behind the other. -/
structure Kn.Vals (w : World) (v : Value) (l : List Kn.V) : Prop where
  is : ∃ a c, v = .slice a l.length c ∧ (l = [] ∨ ∃ b o, a = some ⟨b, o, none⟩ ∧ b < w.heap.size ∧ l.length ≤ 9223372036854775807 ∧ ∀ i x, l[i]? = some x → Kn.At w b (o + i * 3) x)
theorem Kn.Cols.later {w w' : World} {v : Value} {l : List Kn.C} (h : Kn.Cols w v l) (g : Below w.heap.size w w') : Kn.Cols w' v l := by
  obtain ⟨a, c, rfl, h⟩ := h
  refine ⟨a, c, rfl, ?_⟩
  rcases h with h | ⟨b, o, rfl, hlt, hm, h⟩
  · exact .inl h
  · refine .inr ⟨b, o, rfl, Nat.lt_of_lt_of_le hlt g.size, hm, fun i x hx => ?_⟩
    exact ⟨(g.cell (p := ⟨b, o + i * 2, none⟩) hlt).trans (h i x hx).1, (g.cell (p := ⟨b, o + i * 2 + 1, none⟩) hlt).trans (h i x hx).2⟩
theorem Kn.Vals.later {w w' : World} {v : Value} {l : List Kn.V} (h : Kn.Vals w v l) (g : Below w.heap.size w w') : Kn.Vals w' v l := by
  obtain ⟨a, c, rfl, h⟩ := h
  refine ⟨a, c, rfl, ?_⟩
  rcases h with h | ⟨b, o, rfl, hlt, hm, h⟩
  · exact .inl h
  · exact .inr ⟨b, o, rfl, Nat.lt_of_lt_of_le hlt g.size, hm, fun i x hx => (h i x hx).later g⟩
/-- The kind is one of the two. -/
def Kn.C.good (c : Kn.C) : Bool := !((c.k != 1) && (c.k != 2))
/-- The first column, if there is one, has no nulls. -/
def Kn.headOk : List Kn.C → Bool
  | [] => true
  | c :: _ => !c.null
/-- Which schemas may be. -/
def Kn.right (l : List Kn.C) : Bool := decide (1 ≤ l.length) && decide (l.length ≤ 6) && Kn.headOk l && l.all Kn.C.good
/-- Which value fits a column. -/
def Kn.fits (c : Kn.C) (v : Kn.V) : Bool :=
  if v.null = true then c.null && (v.n == 0) && (v.s.toList == (⟨#[]⟩ : ByteArray).toList)
  else if c.k = 1 then v.s.toList == (⟨#[]⟩ : ByteArray).toList
  else (v.n == 0) && decide (v.s.size ≤ 64)
theorem Kn.retb {x y : Bool} (h : x = y) : Ending.returned (.bool x) = Ending.returned (.bool y) := by rw [h]
theorem Kn.reti {k : IntKind} {x y : Int} (h : x = y) : Ending.returned (.int k x) = Ending.returned (.int k y) := by rw [h]
theorem Kn.right_long (l : List Kn.C) (h : 6 < l.length) : Kn.right l = false := by
  unfold Kn.right
  rw [decide_eq_false (p := l.length ≤ 6) (by omega)]
  simp
theorem Kn.right_null (l : List Kn.C) (x : Kn.C) (h : l[0]? = some x) (hn : x.null = true) : Kn.right l = false := by
  cases l with
  | nil => cases h
  | cons y t =>
    obtain rfl : y = x := by simpa using h
    simp [Kn.right, Kn.headOk, hn]
theorem Kn.right_bad (l : List Kn.C) (k : Nat) (x : Kn.C) (h : l[k]? = some x) (hb : x.good = false) : Kn.right l = false := by
  have : l.all Kn.C.good = false := by
    rw [Bool.eq_false_iff]
    intro e
    have := List.all_eq_true.1 e x (List.mem_of_getElem? h)
    rw [hb] at this; cases this
  unfold Kn.right
  rw [this]
  simp
theorem Kn.all_step (l : List Kn.C) (k : Nat) (x : Kn.C) (h : l[k]? = some x) (hg : x.good = true) (ha : (l.take k).all Kn.C.good = true) : (l.take (k + 1)).all Kn.C.good = true := by
  rw [List.take_add_one, h, List.all_append, ha]
  simp [hg]
theorem Kn.right_good (l : List Kn.C) (x : Kn.C) (h : l[0]? = some x) (hn : x.null = false) (h6 : l.length ≤ 6) (ha : (l.take l.length).all Kn.C.good = true) : Kn.right l = true := by
  cases l with
  | nil => cases h
  | cons y t =>
    obtain rfl : y = x := by simpa using h
    rw [List.take_length] at ha
    have e : Kn.headOk (y :: t) = true := by show (!y.null) = true; rw [hn]; rfl
    unfold Kn.right
    rw [ha, e, decide_eq_true (by simp), decide_eq_true h6]
    rfl
theorem Kn.good_ways (x : Kn.C) : (x.good = true ∧ (x.k != 1) = false) ∨ (x.good = true ∧ (x.k != 1) = true ∧ (x.k != 2) = false) ∨ (x.good = false ∧ (x.k != 1) = true ∧ (x.k != 2) = true) := by
  unfold Kn.C.good
  cases (x.k != 1) <;> cases (x.k != 2) <;> simp
end Go.Proofs.Ytdjnjhlcdcmeaaa
