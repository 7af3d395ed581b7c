/-
  Contracts of package kinds: which value is ahead.
-/
import Derived.Test.YtdjnjhlcdcmeaaaK1
import Derived.WalkKit
import Derived.WalkSpells
import Derived.WalkLawsBesides
import Derived.Laws.StructEq
import Derived.Lib.QuietBelow
import Derived.Deep.RegionWith
import Derived.Deep.DeepCutAuto
import Derived.BigQuiet
import Derived.StillTailTactics
import Derived.Lib.Hide
import Derived.Deep.QuietTactic
import Derived.IntWalk
namespace Go.Proofs.Ytdjnjhlcdcmeaaa
open Go.RowKit
theorem Kn.isNaNi_c (a : Int) (w : World) : Calls Try.prog 30 #[.int .i64 a] w fun e w' => e = .returned (.bool false) ∧ w' = w := by
  go_enter Try.func30, Try.ntmps30
  go_wp2
  go_ret
  exact ⟨rfl, rfl⟩
theorem Kn.isNaNs_c (a : ByteArray) (w : World) : Calls Try.prog 31 #[.string a] w fun e w' => e = .returned (.bool false) ∧ w' = w := by
  go_enter Try.func31, Try.ntmps31
  go_wp2
  go_ret
  exact ⟨rfl, rfl⟩
theorem Kn.cmpi_c (a b : Int) (w : World) : Calls Try.prog 25 #[.int .i64 a, .int .i64 b] w fun e w' => e = .returned (.int .i64 (Kn.ncmp a b)) ∧ w' = w := by
  have hc : (a < b ∧ Kn.ncmp a b = -1) ∨ (¬ a < b ∧ b < a ∧ Kn.ncmp a b = 1) ∨ (¬ a < b ∧ ¬ b < a ∧ Kn.ncmp a b = 0) := by unfold Kn.ncmp; repeat' split <;> omega
  rcases hc with ⟨h1, h⟩ | ⟨h1, h2, h⟩ | ⟨h1, h2, h⟩
  all_goals
    rw [h]
    go_enter Try.func25, Try.ntmps25
    go_wp2_with fail
    refine (Kn.isNaNi_c _ _).mono ?_
    rintro e w1 ⟨rfl, rfl⟩
    go_wp2_with fail
    refine (Kn.isNaNi_c _ _).mono ?_
    rintro e w1 ⟨rfl, rfl⟩
    go_wp2
    go_ret
    exact ⟨rfl, rfl⟩
theorem Kn.cmps_c (a b : ByteArray) (w : World) : Calls Try.prog 26 #[.string a, .string b] w fun e w' => e = .returned (.int .i64 (Kn.scmp a b)) ∧ w' = w := by
  have hc : (Op.bytesLess a.toList b.toList = true ∧ Kn.scmp a b = -1) ∨ (Op.bytesLess a.toList b.toList = false ∧ (a.toList == b.toList) = false ∧ Kn.scmp a b = 1) ∨ (Op.bytesLess a.toList b.toList = false ∧ (a.toList == b.toList) = true ∧ Kn.scmp a b = 0) := by
    unfold Kn.scmp Kn.lcmp
    rcases Kn.bl_total a.toList b.toList with h | h | h
    · left; rw [h]; exact ⟨rfl, rfl⟩
    · right; right; rw [h, Kn.bl_irrefl]; exact ⟨rfl, by simp, rfl⟩
    · right; left; rw [h, (Kn.bl_ne h).1]; exact ⟨rfl, by rw [beq_eq_false_iff_ne]; exact fun e => (Kn.bl_ne h).2 e.symm, rfl⟩
  rcases hc with ⟨h1, h⟩ | ⟨h1, h2, h⟩ | ⟨h1, h2, h⟩
  all_goals
    rw [h]
    go_enter Try.func26, Try.ntmps26
    go_wp2_with fail
    refine (Kn.isNaNs_c _ _).mono ?_
    rintro e w1 ⟨rfl, rfl⟩
    go_wp2_with fail
    refine (Kn.isNaNs_c _ _).mono ?_
    rintro e w1 ⟨rfl, rfl⟩
    go_wp2
    go_ret
    exact ⟨rfl, rfl⟩
theorem Kn.or_c (b : Nat) (x y : Int) (w : World) (h0 : w.cell? ⟨b, 0, none⟩ = some (.int .i64 x)) (h1 : w.cell? ⟨b, 1, none⟩ = some (.int .i64 y)) :
    Calls Try.prog 24 #[.slice (some ⟨b, 0, none⟩) 2 2] w fun e w' => e = .returned (.int .i64 (Kn.or2 x y)) ∧ w' = w := by
  have hc : ((x != 0) = true ∧ Kn.or2 x y = x) ∨ ((x != 0) = false ∧ (y != 0) = true ∧ Kn.or2 x y = y) ∨ ((x != 0) = false ∧ (y != 0) = false ∧ Kn.or2 x y = 0) := by
    unfold Kn.or2
    by_cases hx : x = 0 <;> by_cases hy : y = 0 <;> simp [hx, hy]
  rcases hc with ⟨h2, h⟩ | ⟨h2, h3, h⟩ | ⟨h2, h3, h⟩
  · rw [h]
    go_enter Try.func24, Try.ntmps24
    go_wp2_with fail
    refine wp_loop_rounds 3 ?_; rw [rounds_succ]
    go_wp2
    go_ret
    exact ⟨rfl, rfl⟩
  · rw [h]
    go_enter Try.func24, Try.ntmps24
    go_wp2_with fail
    refine wp_loop_rounds 3 ?_; rw [rounds_succ]
    go_wp2
    rw [rounds_succ]
    go_wp2
    go_ret
    exact ⟨rfl, rfl⟩
  · rw [h]
    go_enter Try.func24, Try.ntmps24
    go_wp2_with fail
    refine wp_loop_rounds 3 ?_; rw [rounds_succ]
    go_wp2
    rw [rounds_succ]
    go_wp2
    rw [rounds_succ]
    go_wp2
    go_ret
    exact ⟨rfl, rfl⟩
theorem Kn.new2 (w : World) (x y : Value) (t : TypeId) (b : Nat) (hb : b = w.heap.size) : (w.alloc (.cells #[x, y] t)).drew.cell? ⟨b, 0, none⟩ = some x ∧ (w.alloc (.cells #[x, y] t)).drew.cell? ⟨b, 1, none⟩ = some y := by
  subst hb
  have h := heap_alloc_new w (.cells #[x, y] t)
  show (w.alloc (.cells #[x, y] t)).cell? ⟨w.heap.size, 0, none⟩ = some x ∧ (w.alloc (.cells #[x, y] t)).cell? ⟨w.heap.size, 1, none⟩ = some y
  unfold World.cell?
  simp only [h]
  exact ⟨rfl, rfl⟩
set_option maxHeartbeats 400000 in
/-- Compare: which value is ahead. -/
theorem Kn.compare_c (a b : Kn.V) (w : World) : Calls Try.prog 16 #[a.val, b.val] w fun e w' => e = .returned (.int .i64 (Kn.cmp a b)) ∧ Below w.heap.size w w' := by
  obtain ⟨an, ai, sa⟩ := a
  obtain ⟨bn, bi, sb⟩ := b
  unfold Kn.V.val
  cases an <;> cases bn
  · have h : Kn.cmp ⟨false, ai, sa⟩ ⟨false, bi, sb⟩ = Kn.or2 (Kn.ncmp ai bi) (Kn.scmp sa sb) := rfl
    rw [h]
    go_enter Try.func16, Try.ntmps16
    go_wp2_with fail
    refine wp_region_still_tail 10 (by kernel_rfl) (by kernel_rfl) ?_
    simp only [List.take_succ_cons, List.take_zero, List.drop_succ_cons, List.drop_zero]
    change wpStill _ _ (World.drew _) (fun a' => wpList _ _ _ _ a' (World.drew _)) _ _
    still_step
    still_step
    still_step
    still_step
    still_call (Kn.cmpi_c ai bi _)
    still_step
    still_step
    still_step
    still_step
    still_call (Kn.cmps_c sa sb _)
    refine wpStill_nil ?_
    go_wp2_with fail
    refine (Kn.or_c _ (Kn.ncmp ai bi) (Kn.scmp sa sb) _ (Kn.new2 _ _ _ _ _ (by simp)).1 (Kn.new2 _ _ _ _ _ (by simp)).2).mono ?_
    rintro e wc ⟨rfl, rfl⟩
    go_wp2
    go_ret
    exact ⟨rfl, ((((Below.refl _ w).alloc (Nat.le_refl _) _).alloc (by simp) _).alloc (by simp; omega) _).drew⟩
  all_goals
    go_enter Try.func16, Try.ntmps16
    go_wp2
    go_ret
    exact ⟨rfl, ((Below.refl _ w).alloc (Nat.le_refl _) _).alloc (by simp) _⟩
end Go.Proofs.Ytdjnjhlcdcmeaaa
