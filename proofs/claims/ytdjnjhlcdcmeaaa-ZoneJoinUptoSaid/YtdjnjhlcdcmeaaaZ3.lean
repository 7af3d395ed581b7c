/-
  Contracts of package zone: which values hold; the document's answer.
-/
import Derived.Test.YtdjnjhlcdcmeaaaZ2
import Derived.Test.YtdjnjhlcdcmeaaaK3
import Derived.Test.YtdjnjhlcdcmeaaaL21
namespace Go.Proofs.Ytdjnjhlcdcmeaaa
open Go.RowKit
theorem Zn.ops (x : Int) : x = 0 ∨ x = 4 ∨ x = 5 ∨ x = 1 ∨ x = 2 ∨ x = 3 ∨ ((x == 0) = false ∧ (x == 1) = false ∧ (x == 2) = false ∧ (x == 3) = false ∧ (x == 4) = false ∧ (x == 5) = false ∧ x ≠ 0 ∧ x ≠ 1 ∧ x ≠ 2 ∧ x ≠ 3 ∧ x ≠ 4 ∧ x ≠ 5) := by
  simp only [beq_eq_false_iff_ne]
  omega
/-- The condition and the value, boxed one behind the other. -/
theorem Zn.boxedA (w : World) (a : Zn.As) (v : Kn.V) (t t' : TypeId) : Zn.ABlk ((w.alloc (.cells #[.int .i64 a.op, .int .i64 a.col, .bool a.v.null, .int .i64 a.v.n, .string a.v.s] t)).alloc (.cells #[.bool v.null, .int .i64 v.n, .string v.s] t')) w.heap.size a ∧
    Kn.At ((w.alloc (.cells #[.int .i64 a.op, .int .i64 a.col, .bool a.v.null, .int .i64 a.v.n, .string a.v.s] t)).alloc (.cells #[.bool v.null, .int .i64 v.n, .string v.s] t')) (w.heap.size + 1) 0 v ∧
    Below w.heap.size w ((w.alloc (.cells #[.int .i64 a.op, .int .i64 a.col, .bool a.v.null, .int .i64 a.v.n, .string a.v.s] t)).alloc (.cells #[.bool v.null, .int .i64 v.n, .string v.s] t')) := by
  refine ⟨(Zn.ABlk.new w a t).kept ((Below.refl _ _).alloc (Nat.le_refl _) _), ?_, ((Below.refl _ w).alloc (Nat.le_refl _) _).alloc (by simp) _⟩
  have := Kn.At.new (w.alloc (.cells #[.int .i64 a.op, .int .i64 a.col, .bool a.v.null, .int .i64 a.v.n, .string a.v.s] t)) v t'
  rwa [World.size_alloc] at this
set_option maxHeartbeats 1000000 in
set_option maxRecDepth 100000 in
theorem Zn.holds_c (a : Zn.As) (v : Kn.V) (w : World) : Calls Try.prog 9 #[a.val, v.val] w fun e w' => e = .returned (.bool (Zn.holds a v)) ∧ Below w.heap.size w w' := by
  obtain ⟨⟨a0, a1, a2, a3, a4⟩, ⟨v0, v1, v2⟩, hb⟩ := Zn.boxedA w a v 25 23
  have cC := Kn.compare_c v a.v
  obtain ⟨op, col, ⟨an, ai, sa⟩⟩ := a
  obtain ⟨vn, vi, sv⟩ := v
  unfold Kn.V.val at cC
  simp only at a0 a1 a2 a3 a4 v0 v1 v2 hb cC
  unfold Kn.V.val
  have HB := Lib.hid hb
  have HC : Hid (∀ w, _) := Lib.hid cC
  clear hb cC
  rcases Zn.ops op with rfl | rfl | rfl | rfl | rfl | rfl | ⟨h0, h1, h2, h3, h4, h5, n0, n1, n2, n3, n4, n5⟩
  · have hB : Zn.holds ⟨0, col, ⟨an, ai, sa⟩⟩ ⟨vn, vi, sv⟩ = true := by simp [Zn.holds]
    rw [hB]
    clear hB
    go_enter Try.func9, Try.ntmps9
    go_wp2
    go_ret
    exact ⟨rfl, HB.out⟩
  · have hB : Zn.holds ⟨4, col, ⟨an, ai, sa⟩⟩ ⟨vn, vi, sv⟩ = vn := by simp [Zn.holds]
    rw [hB]
    clear hB
    go_enter Try.func9, Try.ntmps9
    go_wp2
    go_ret
    exact ⟨rfl, HB.out⟩
  · have hB : Zn.holds ⟨5, col, ⟨an, ai, sa⟩⟩ ⟨vn, vi, sv⟩ = !vn := by simp [Zn.holds]
    rw [hB]
    clear hB
    go_enter Try.func9, Try.ntmps9
    go_wp2
    go_ret
    exact ⟨rfl, HB.out⟩
  · cases vn <;> cases an
    · have hB : Zn.holds ⟨1, col, ⟨false, ai, sa⟩⟩ ⟨false, vi, sv⟩ = (Kn.cmp ⟨false, vi, sv⟩ ⟨false, ai, sa⟩ == 0) := by simp [Zn.holds]
      rw [hB]
      clear hB
      go_enter Try.func9, Try.ntmps9
      go_wp2_with fail
      with_reducible refine (HC.out _).mono ?_
      rintro e w1 ⟨rfl, g1⟩
      go_wp2
      go_ret
      exact ⟨rfl, HB.out.trans (g1.mono HB.out.size)⟩
    all_goals
      have hB : ∀ x y, x = true ∨ y = true → Zn.holds ⟨1, col, ⟨x, ai, sa⟩⟩ ⟨y, vi, sv⟩ = false := by intro x y h; cases x <;> cases y <;> simp [Zn.holds] at h ⊢
      rw [hB _ _ (by decide)]
      clear hB
      go_enter Try.func9, Try.ntmps9
      go_wp2
      go_ret
      exact ⟨rfl, HB.out⟩
  · cases vn <;> cases an
    · have hB : Zn.holds ⟨2, col, ⟨false, ai, sa⟩⟩ ⟨false, vi, sv⟩ = decide (Kn.cmp ⟨false, vi, sv⟩ ⟨false, ai, sa⟩ < 0) := by simp [Zn.holds]
      rw [hB]
      clear hB
      go_enter Try.func9, Try.ntmps9
      go_wp2_with fail
      with_reducible refine (HC.out _).mono ?_
      rintro e w1 ⟨rfl, g1⟩
      go_wp2
      go_ret
      exact ⟨rfl, HB.out.trans (g1.mono HB.out.size)⟩
    all_goals
      have hB : ∀ x y, x = true ∨ y = true → Zn.holds ⟨2, col, ⟨x, ai, sa⟩⟩ ⟨y, vi, sv⟩ = false := by intro x y h; cases x <;> cases y <;> simp [Zn.holds] at h ⊢
      rw [hB _ _ (by decide)]
      clear hB
      go_enter Try.func9, Try.ntmps9
      go_wp2
      go_ret
      exact ⟨rfl, HB.out⟩
  · cases vn <;> cases an
    · have hB : Zn.holds ⟨3, col, ⟨false, ai, sa⟩⟩ ⟨false, vi, sv⟩ = decide (0 ≤ Kn.cmp ⟨false, vi, sv⟩ ⟨false, ai, sa⟩) := by simp [Zn.holds]
      rw [hB]
      clear hB
      go_enter Try.func9, Try.ntmps9
      go_wp2_with fail
      with_reducible refine (HC.out _).mono ?_
      rintro e w1 ⟨rfl, g1⟩
      go_wp2
      go_ret
      exact ⟨rfl, HB.out.trans (g1.mono HB.out.size)⟩
    all_goals
      have hB : ∀ x y, x = true ∨ y = true → Zn.holds ⟨3, col, ⟨x, ai, sa⟩⟩ ⟨y, vi, sv⟩ = false := by intro x y h; cases x <;> cases y <;> simp [Zn.holds] at h ⊢
      rw [hB _ _ (by decide)]
      clear hB
      go_enter Try.func9, Try.ntmps9
      go_wp2
      go_ret
      exact ⟨rfl, HB.out⟩
  · have hB : Zn.holds ⟨op, col, ⟨an, ai, sa⟩⟩ ⟨vn, vi, sv⟩ = false := by simp [Zn.holds, n0, n1, n2, n3, n4, n5]
    rw [hB]
    clear hB n0 n1 n2 n3 n4 n5
    cases vn <;> cases an
    all_goals
      go_enter Try.func9, Try.ntmps9
      go_wp2
      go_ret
      exact ⟨rfl, HB.out⟩
end Go.Proofs.Ytdjnjhlcdcmeaaa
