/-
  The laws' own 'lives' of kinds answers true.
-/
import Derived.Test.YtaignjeokophlaaK9
namespace Go.Proofs.Ytaignjeokophlaa
open Go.RowKit
theorem Kn.cols2 (w : World) (x y : Kn.C) (t : TypeId) : Kn.Cols (w.alloc (.cells #[.int .i64 x.k, .bool x.null, .int .i64 y.k, .bool y.null] t)) (.slice (some ⟨w.heap.size, 0, none⟩) 2 2) [x, y] := by
  refine ⟨_, _, rfl, .inr ⟨w.heap.size, 0, rfl, by simp, by simp, fun i z hz => ?_⟩⟩
  match i, hz with
  | 0, hz => obtain rfl : x = z := by simpa using hz
             exact ⟨Kn.cell_new w _ t 0 _ rfl, Kn.cell_new w _ t 1 _ rfl⟩
  | 1, hz => obtain rfl : y = z := by simpa using hz
             exact ⟨Kn.cell_new w _ t 2 _ rfl, Kn.cell_new w _ t 3 _ rfl⟩
  | i + 2, hz => simp at hz
theorem Kn.vals2 (w : World) (x y : Kn.V) (t : TypeId) : Kn.Vals (w.alloc (.cells #[.bool x.null, .int .i64 x.n, .string x.s, .bool y.null, .int .i64 y.n, .string y.s] t)) (.slice (some ⟨w.heap.size, 0, none⟩) 2 2) [x, y] := by
  refine ⟨_, _, rfl, .inr ⟨w.heap.size, 0, rfl, by simp, by simp, fun i z hz => ?_⟩⟩
  match i, hz with
  | 0, hz => obtain rfl : x = z := by simpa using hz
             exact ⟨Kn.cell_new w _ t 0 _ rfl, Kn.cell_new w _ t 1 _ rfl, Kn.cell_new w _ t 2 _ rfl⟩
  | 1, hz => obtain rfl : y = z := by simpa using hz
             exact ⟨Kn.cell_new w _ t 3 _ rfl, Kn.cell_new w _ t 4 _ rfl, Kn.cell_new w _ t 5 _ rfl⟩
  | i + 2, hz => simp at hz
theorem Kn.Cols.alloc {w : World} {v : Value} {l : List Kn.C} (h : Kn.Cols w v l) (x : Obj) : Kn.Cols (w.alloc x) v l := h.later ((Below.refl _ w).alloc (Nat.le_refl _) x)
theorem Kn.Vals.alloc {w : World} {v : Value} {l : List Kn.V} (h : Kn.Vals w v l) (x : Obj) : Kn.Vals (w.alloc x) v l := h.later ((Below.refl _ w).alloc (Nat.le_refl _) x)
theorem Kn.empty_toList : (⟨#[]⟩ : ByteArray).toList = [] := by rw [ByteArray.toList_eq]
set_option maxHeartbeats 1000000 in
theorem Kn.lives_c (w : World) :
    Calls Try.prog 10 #[] w fun e w' => e = .returned (.bool true) ∧ Below w.heap.size w w' := by
  have hR : Kn.right [⟨1, false⟩, ⟨2, true⟩] = true := by decide
  have h1 : Kn.fitsE [⟨1, false⟩, ⟨2, true⟩] [⟨false, 3, ⟨#[]⟩⟩, ⟨true, 0, ⟨#[]⟩⟩] = 0 := by
    simp [Kn.fitsE, hR, Kn.fitsAll, Kn.fits]
  have h2 : Kn.fitsE [⟨1, false⟩, ⟨2, true⟩] [⟨false, 3, ⟨#[]⟩⟩, ⟨false, 1, ⟨#[]⟩⟩] = 6 := by
    simp [Kn.fitsE, hR, Kn.fitsAll, Kn.fits]
  have h3 : Kn.cmp ⟨false, 1, ⟨#[]⟩⟩ ⟨false, 2, ⟨#[]⟩⟩ = -1 := by
    simp [Kn.cmp, Kn.or2, Kn.ncmp]
  have cR := Kn.right_c (.slice (some ⟨w.heap.size, 0, none⟩) 2 2) [⟨1, false⟩, ⟨2, true⟩] _ (Kn.cols2 w ⟨1, false⟩ ⟨2, true⟩ 43)
  rw [hR] at cR
  have hC := Kn.cols2 w ⟨1, false⟩ ⟨2, true⟩ 43
  have hb : Below w.heap.size w (w.alloc (.cells #[.int .i64 1, .bool false, .int .i64 2, .bool true] 43)) := (Below.refl _ _).alloc (Nat.le_refl _) _
  simp only at hC cR
  clear hR
  go_enter Try.func10, Try.ntmps10
  go_wp2_with fail
  refine cR.mono ?_
  rintro e w1 ⟨rfl, g1⟩
  have hC1 := hC.later g1
  have hb1 := hb.trans (g1.mono hb.size)
  clear cR hb hC g1
  have hV := Kn.vals2 w1 ⟨false, 3, ⟨#[]⟩⟩ ⟨true, 0, ⟨#[]⟩⟩ 26
  have hC2 := hC1.alloc (.cells #[.bool false, .int .i64 3, .string ⟨#[]⟩, .bool true, .int .i64 0, .string ⟨#[]⟩] 26)
  have cF := Kn.fits_c _ _ _ _ _ hC2 hV
  rw [h1] at cF
  have hb2 := hb1.alloc hb1.size (.cells #[.bool false, .int .i64 3, .string ⟨#[]⟩, .bool true, .int .i64 0, .string ⟨#[]⟩] 26)
  simp only at cF hV
  clear hV hC1 hb1 h1
  go_wp2_with fail
  refine cF.mono ?_
  rintro e w2 ⟨rfl, g2⟩
  have hC3 := hC2.later g2
  have hb3 := hb2.trans (g2.mono hb2.size)
  clear cF hb2 hC2 g2
  have hV := Kn.vals2 w2 ⟨false, 3, ⟨#[]⟩⟩ ⟨false, 1, ⟨#[]⟩⟩ 26
  have hC4 := hC3.alloc (.cells #[.bool false, .int .i64 3, .string ⟨#[]⟩, .bool false, .int .i64 1, .string ⟨#[]⟩] 26)
  have cF := Kn.fits_c _ _ _ _ _ hC4 hV
  rw [h2] at cF
  have hb4 := hb3.alloc hb3.size (.cells #[.bool false, .int .i64 3, .string ⟨#[]⟩, .bool false, .int .i64 1, .string ⟨#[]⟩] 26)
  simp only at cF hV
  clear hV hC3 hb3 h2 hC4
  go_wp2_with fail
  refine cF.mono ?_
  rintro e w3 ⟨rfl, g3⟩
  have hb5 := hb4.trans (g3.mono hb4.size)
  clear cF hb4 g3
  have cC := Kn.compare_c ⟨false, 1, ⟨#[]⟩⟩ ⟨false, 2, ⟨#[]⟩⟩
  rw [h3] at cC
  simp only [Kn.V.val] at cC
  clear h3
  go_wp2_with fail
  refine (cC _).mono ?_
  rintro e w4 ⟨rfl, g4⟩
  go_wp2
  go_ret
  exact ⟨rfl, hb5.trans (g4.mono hb5.size)⟩
end Go.Proofs.Ytaignjeokophlaa
