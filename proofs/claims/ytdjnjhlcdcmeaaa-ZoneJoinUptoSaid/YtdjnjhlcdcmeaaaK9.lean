/-
  Contracts of package kinds: keys in a range. The document's answer. The laws' own 'lives'.
-/
import Derived.Test.YtdjnjhlcdcmeaaaK8
namespace Go.Proofs.Ytdjnjhlcdcmeaaa
open Go.RowKit
/-- A range of keys. -/
structure Kn.R where
  from_ : Bool
  til : Bool
  lo : Kn.V
  hi : Kn.V
abbrev Kn.R.val (r : Kn.R) : Value := .agg #[.bool r.from_, .bool r.til, .bool r.lo.null, .int .i64 r.lo.n, .string r.lo.s, .bool r.hi.null, .int .i64 r.hi.n, .string r.hi.s]
/-- The range lies in a block. -/
structure Kn.RAt (w : World) (b : Nat) (r : Kn.R) : Prop where
  c0 : w.cell? ⟨b, 0, none⟩ = some (.bool r.from_)
  c1 : w.cell? ⟨b, 1, none⟩ = some (.bool r.til)
  lo : Kn.At w b 2 r.lo
  hi : Kn.At w b 5 r.hi
theorem Kn.RAt.later {w w' : World} {b : Nat} {r : Kn.R} (h : Kn.RAt w b r) (g : Below w.heap.size w w') : Kn.RAt w' b r :=
  ⟨(g.cell (p := ⟨b, 0, none⟩) h.lo.lt).trans h.c0, (g.cell (p := ⟨b, 1, none⟩) h.lo.lt).trans h.c1, h.lo.later g, h.hi.later g⟩
theorem Kn.RAt.new (w : World) (r : Kn.R) (t : TypeId) : Kn.RAt (w.alloc (.cells #[.bool r.from_, .bool r.til, .bool r.lo.null, .int .i64 r.lo.n, .string r.lo.s, .bool r.hi.null, .int .i64 r.hi.n, .string r.hi.s] t)) w.heap.size r :=
  ⟨Kn.cell_new w _ t 0 _ rfl, Kn.cell_new w _ t 1 _ rfl, ⟨Kn.cell_new w _ t 2 _ rfl, Kn.cell_new w _ t 3 _ rfl, Kn.cell_new w _ t 4 _ rfl⟩, ⟨Kn.cell_new w _ t 5 _ rfl, Kn.cell_new w _ t 6 _ rfl, Kn.cell_new w _ t 7 _ rfl⟩⟩
theorem Kn.RAt.alloc {w : World} {b : Nat} {r : Kn.R} (h : Kn.RAt w b r) (x : Obj) : Kn.RAt (w.alloc x) b r := h.later ((Below.refl _ w).alloc (Nat.le_refl _) x)
/-- Is a key in a range? -/
def Kn.inR (r : Kn.R) (k : Kn.V) : Bool := (!r.from_ || !decide (Kn.cmp k r.lo < 0)) && (!r.til || decide (Kn.cmp k r.hi < 0))
/-- A range and a value boxed, one behind the other. -/
theorem Kn.boxedR (w : World) (r : Kn.R) (k : Kn.V) (t t' : TypeId) : Kn.RAt ((w.alloc (.cells #[.bool r.from_, .bool r.til, .bool r.lo.null, .int .i64 r.lo.n, .string r.lo.s, .bool r.hi.null, .int .i64 r.hi.n, .string r.hi.s] t)).alloc (.cells #[.bool k.null, .int .i64 k.n, .string k.s] t')) w.heap.size r ∧
    Kn.At ((w.alloc (.cells #[.bool r.from_, .bool r.til, .bool r.lo.null, .int .i64 r.lo.n, .string r.lo.s, .bool r.hi.null, .int .i64 r.hi.n, .string r.hi.s] t)).alloc (.cells #[.bool k.null, .int .i64 k.n, .string k.s] t')) (w.heap.size + 1) 0 k := by
  refine ⟨(Kn.RAt.new w r t).alloc _, ?_⟩
  have := Kn.At.new (w.alloc (.cells #[.bool r.from_, .bool r.til, .bool r.lo.null, .int .i64 r.lo.n, .string r.lo.s, .bool r.hi.null, .int .i64 r.hi.n, .string r.hi.s] t)) k t'
  rwa [World.size_alloc] at this
theorem Kn.box2 (w : World) (x y : Obj) : Below w.heap.size w ((w.alloc x).alloc y) := ((Below.refl _ w).alloc (Nat.le_refl _) _).alloc (by simp) _
/-- The ways of the test of a range. -/
theorem Kn.in_ways (r : Kn.R) (k : Kn.V) : (r.from_ = false ∧ r.til = false ∧ Kn.inR r k = true) ∨ (r.from_ = false ∧ r.til = true ∧ Kn.inR r k = decide (Kn.cmp k r.hi < 0)) ∨ (r.from_ = true ∧ Kn.cmp k r.lo < 0 ∧ Kn.inR r k = false) ∨ (r.from_ = true ∧ ¬ Kn.cmp k r.lo < 0 ∧ r.til = false ∧ Kn.inR r k = true) ∨ (r.from_ = true ∧ ¬ Kn.cmp k r.lo < 0 ∧ r.til = true ∧ Kn.inR r k = decide (Kn.cmp k r.hi < 0)) := by
  unfold Kn.inR
  by_cases h : Kn.cmp k r.lo < 0
  · cases r.from_ <;> cases r.til <;> simp [h]
  · cases r.from_ <;> cases r.til <;> simp [h] <;> omega
end Go.Proofs.Ytdjnjhlcdcmeaaa
