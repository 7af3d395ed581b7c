/-
  The laws' own 'lives' of kinds answers true.
-/
import Derived.Test.YtdjnjhlcdcmeaaaK9
namespace Go.Proofs.Ytdjnjhlcdcmeaaa
open Go.RowKit
theorem Kn.cols2 (w : World) (x y : Kn.C) (t : TypeId) : Kn.Cols (w.alloc (.cells #[.int .i64 x.k, .bool x.null, .int .i64 y.k, .bool y.null] t)) (.slice (some ⟨w.heap.size, 0, none⟩) 2 2) [x, y] := by
  refine ⟨_, _, rfl, .inr ⟨w.heap.size, 0, rfl, by simp, by simp, fun i z hz => ?_⟩⟩
  match i, hz with
  | 0, hz => obtain rfl : x = z := by simpa using hz
             exact ⟨Kn.cell_new w _ t 0 _ rfl, Kn.cell_new w _ t 1 _ rfl⟩
  | 1, hz => obtain rfl : y = z := by simpa using hz
             exact ⟨Kn.cell_new w _ t 2 _ rfl, Kn.cell_new w _ t 3 _ rfl⟩
  | i + 2, hz => simp at hz
theorem Kn.vals2 (w : World) (x y : Kn.V) (t : TypeId) : Kn.Vals (w.alloc (.cells #[.bool x.null, .int .i64 x.n, .string x.s, .bool y.null, .int .i64 y.n, .string y.s] t)) (.slice (some ⟨w.heap.size, 0, none⟩) 2 2) [x, y] := by
  refine ⟨_, _, rfl, .inr ⟨w.heap.size, 0, rfl, by simp, by simp, fun i z hz => ?_⟩⟩
  match i, hz with
  | 0, hz => obtain rfl : x = z := by simpa using hz
             exact ⟨Kn.cell_new w _ t 0 _ rfl, Kn.cell_new w _ t 1 _ rfl, Kn.cell_new w _ t 2 _ rfl⟩
  | 1, hz => obtain rfl : y = z := by simpa using hz
             exact ⟨Kn.cell_new w _ t 3 _ rfl, Kn.cell_new w _ t 4 _ rfl, Kn.cell_new w _ t 5 _ rfl⟩
  | i + 2, hz => simp at hz
theorem Kn.Cols.alloc {w : World} {v : Value} {l : List Kn.C} (h : Kn.Cols w v l) (x : Obj) : Kn.Cols (w.alloc x) v l := h.later ((Below.refl _ w).alloc (Nat.le_refl _) x)
theorem Kn.Vals.alloc {w : World} {v : Value} {l : List Kn.V} (h : Kn.Vals w v l) (x : Obj) : Kn.Vals (w.alloc x) v l := h.later ((Below.refl _ w).alloc (Nat.le_refl _) x)
theorem Kn.empty_toList : (⟨#[]⟩ : ByteArray).toList = [] := by rw [ByteArray.toList_eq]
end Go.Proofs.Ytdjnjhlcdcmeaaa
