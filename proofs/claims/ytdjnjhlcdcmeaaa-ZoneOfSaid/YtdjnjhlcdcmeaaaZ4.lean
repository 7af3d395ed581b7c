/-
  Contracts of the document's answers for zone: which values hold. Written by gen_z4.py.
-/
import Derived.Test.YtdjnjhlcdcmeaaaZ3
namespace Go.Proofs.Ytdjnjhlcdcmeaaa
open Go.RowKit
theorem Zn.geq (x : Int) : decide (0 ≤ x) = !decide (x < 0) := by
  rw [Bool.eq_iff_iff, Bool.not_eq_true', decide_eq_true_iff, decide_eq_false_iff_not]
  omega
set_option maxHeartbeats 1000000 in
set_option maxRecDepth 100000 in
theorem Zn.rholds_c (a : Zn.As) (v : Kn.V) (ha : Kn.Z a.v) (hv : Kn.Z v) (w : World) : Calls Try.prog 10 #[a.val, v.val] w fun e w' => e = .returned (.bool (Zn.holds a v)) ∧ Below w.heap.size w w' := by
  obtain ⟨⟨a0, a1, a2, a3, a4⟩, ⟨v0, v1, v2⟩, hb⟩ := Zn.boxedA w a v 25 23
  have cC := Kn.rCompare_c v a.v hv ha
  have cA := Kn.rAhead_c v a.v hv ha
  clear ha hv
  obtain ⟨op, col, ⟨an, ai, sa⟩⟩ := a
  obtain ⟨vn, vi, sv⟩ := v
  unfold Kn.V.val at cC cA
  simp only at a0 a1 a2 a3 a4 v0 v1 v2 hb cC cA
  unfold Kn.V.val
  have HB := Lib.hid hb
  have HC : Hid (∀ w, _) := Lib.hid cC
  have HA : Hid (∀ w, _) := Lib.hid cA
  clear hb cC cA
  rcases Zn.ops op with rfl | rfl | rfl | rfl | rfl | rfl | ⟨h0, h1, h2, h3, h4, h5, n0, n1, n2, n3, n4, n5⟩
  · have hB : Zn.holds ⟨0, col, ⟨an, ai, sa⟩⟩ ⟨vn, vi, sv⟩ = true := by simp [Zn.holds]
    rw [hB]
    clear hB
    cases vn <;> cases an
    all_goals
      go_enter Try.func10, Try.ntmps10
      go_wp2
      go_ret
      exact ⟨rfl, HB.out⟩
  · have hB : Zn.holds ⟨4, col, ⟨an, ai, sa⟩⟩ ⟨vn, vi, sv⟩ = vn := by simp [Zn.holds]
    rw [hB]
    clear hB
    cases vn <;> cases an
    all_goals
      go_enter Try.func10, Try.ntmps10
      go_wp2
      go_ret
      exact ⟨rfl, HB.out⟩
  · have hB : Zn.holds ⟨5, col, ⟨an, ai, sa⟩⟩ ⟨vn, vi, sv⟩ = !vn := by simp [Zn.holds]
    rw [hB]
    clear hB
    cases vn <;> cases an
    all_goals
      go_enter Try.func10, Try.ntmps10
      go_wp2
      go_ret
      exact ⟨rfl, HB.out⟩
  · cases vn <;> cases an
    · have hB : Zn.holds ⟨1, col, ⟨false, ai, sa⟩⟩ ⟨false, vi, sv⟩ = (Kn.cmp ⟨false, vi, sv⟩ ⟨false, ai, sa⟩ == 0) := by simp [Zn.holds]
      rw [hB]
      clear hB
      go_enter Try.func10, Try.ntmps10
      go_wp2_with fail
      with_reducible refine (HC.out _).mono ?_
      rintro e w1 ⟨rfl, g1⟩
      go_wp2
      go_ret
      exact ⟨rfl, HB.out.trans (g1.mono HB.out.size)⟩
    all_goals
      have hB : ∀ x y, x = true ∨ y = true → Zn.holds ⟨1, col, ⟨x, ai, sa⟩⟩ ⟨y, vi, sv⟩ = false := by intro x y h; cases x <;> cases y <;> simp [Zn.holds] at h ⊢
      rw [hB _ _ (by decide)]
      clear hB
      go_enter Try.func10, Try.ntmps10
      go_wp2
      go_ret
      exact ⟨rfl, HB.out⟩
  · cases vn <;> cases an
    · have hB : Zn.holds ⟨2, col, ⟨false, ai, sa⟩⟩ ⟨false, vi, sv⟩ = (decide (Kn.cmp ⟨false, vi, sv⟩ ⟨false, ai, sa⟩ < 0)) := by simp [Zn.holds]
      rw [hB]
      clear hB
      go_enter Try.func10, Try.ntmps10
      go_wp2_with fail
      with_reducible refine (HA.out _).mono ?_
      rintro e w1 ⟨rfl, g1⟩
      go_wp2
      go_ret
      exact ⟨rfl, HB.out.trans (g1.mono HB.out.size)⟩
    all_goals
      have hB : ∀ x y, x = true ∨ y = true → Zn.holds ⟨2, col, ⟨x, ai, sa⟩⟩ ⟨y, vi, sv⟩ = false := by intro x y h; cases x <;> cases y <;> simp [Zn.holds] at h ⊢
      rw [hB _ _ (by decide)]
      clear hB
      go_enter Try.func10, Try.ntmps10
      go_wp2
      go_ret
      exact ⟨rfl, HB.out⟩
  · cases vn <;> cases an
    · have hB : Zn.holds ⟨3, col, ⟨false, ai, sa⟩⟩ ⟨false, vi, sv⟩ = (!decide (Kn.cmp ⟨false, vi, sv⟩ ⟨false, ai, sa⟩ < 0)) := by rw [← Zn.geq]; simp [Zn.holds]
      rw [hB]
      clear hB
      go_enter Try.func10, Try.ntmps10
      go_wp2_with fail
      with_reducible refine (HA.out _).mono ?_
      rintro e w1 ⟨rfl, g1⟩
      go_wp2
      go_ret
      exact ⟨rfl, HB.out.trans (g1.mono HB.out.size)⟩
    all_goals
      have hB : ∀ x y, x = true ∨ y = true → Zn.holds ⟨3, col, ⟨x, ai, sa⟩⟩ ⟨y, vi, sv⟩ = false := by intro x y h; cases x <;> cases y <;> simp [Zn.holds] at h ⊢
      rw [hB _ _ (by decide)]
      clear hB
      go_enter Try.func10, Try.ntmps10
      go_wp2
      go_ret
      exact ⟨rfl, HB.out⟩
  · have hB : Zn.holds ⟨op, col, ⟨an, ai, sa⟩⟩ ⟨vn, vi, sv⟩ = false := by simp [Zn.holds, n0, n1, n2, n3, n4, n5]
    rw [hB]
    clear hB n0 n1 n2 n3 n4 n5
    cases vn <;> cases an
    all_goals
      go_enter Try.func10, Try.ntmps10
      go_wp2
      go_ret
      exact ⟨rfl, HB.out⟩
end Go.Proofs.Ytdjnjhlcdcmeaaa
