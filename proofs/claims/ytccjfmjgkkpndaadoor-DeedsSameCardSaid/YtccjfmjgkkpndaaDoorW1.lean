/-
  Contracts of package tally: the form of a number.
-/
import Derived.Test.YtccjfmjgkkpndaaDoorRows
import Derived.Test.YtccjfmjgkkpndaaDoorM1
import Derived.WalkKit
import Derived.WalkSpells
import Derived.WalkLawsBesides
namespace Go.Proofs.YtccjfmjgkkpndaaDoor
open Go.RowKit

/-- The blocks below this one hold the tables. -/
def Ty.G : Nat := Nat.max 0 1 + 1
/-- The four sizes and the four bounds lie in the program's tables. -/
structure Ty.Tabs (w : World) : Prop where
  z0 : w.cell? ⟨0, 0, none⟩ = some (.int .i64 1)
  z1 : w.cell? ⟨0, 1, none⟩ = some (.int .i64 2)
  z2 : w.cell? ⟨0, 2, none⟩ = some (.int .i64 4)
  z3 : w.cell? ⟨0, 3, none⟩ = some (.int .i64 9)
  s0 : w.cell? ⟨1, 0, none⟩ = some (.int .u64 0)
  s1 : w.cell? ⟨1, 1, none⟩ = some (.int .u64 64)
  s2 : w.cell? ⟨1, 2, none⟩ = some (.int .u64 16384)
  s3 : w.cell? ⟨1, 3, none⟩ = some (.int .u64 1073741824)
  two : Ty.G ≤ w.heap.size

set_option maxHeartbeats 400000 in
theorem Ty.formOf_c (n : Nat) (w : World) (h : Ty.Tabs w) :
    Calls Tryd.prog 63 #[.int .u64 n] w fun e w' => e = .returned (.int .i64 (Ty.form n)) ∧ w' = w := by
  obtain ⟨z0, z1, z2, z3, s0, s1, s2, s3, _⟩ := h
  go_enter Tryd.func63, Tryd.ntmps63
  go_wp2
  go_loop [3] (fun i => ∃ k : Nat, k ≤ 3 ∧ i = .int .i64 k ∧ Ty.form n ≤ k) (fun i => (intOf i).toNat)
  case atStart => exact ⟨3, by omega, by simp, Ty.form_le n⟩
  case round =>
    obtain ⟨k, hk, rfl, hf⟩ := hrel
    have hb := Ty.form_is n
    have hc : (k = 0 ∧ Ty.form n = 0) ∨ (k = 1 ∧ (n : Int) < 64 ∧ Ty.form n ≤ 0) ∨ (k = 1 ∧ ¬ (n : Int) < 64 ∧ Ty.form n = 1) ∨ (k = 2 ∧ (n : Int) < 16384 ∧ Ty.form n ≤ 1) ∨ (k = 2 ∧ ¬ (n : Int) < 16384 ∧ Ty.form n = 2) ∨ (k = 3 ∧ (n : Int) < 1073741824 ∧ Ty.form n ≤ 2) ∨ (k = 3 ∧ ¬ (n : Int) < 1073741824 ∧ Ty.form n = 3) := by omega
    clear hb
    rcases hc with ⟨rfl, hz⟩ | ⟨rfl, hl, hx⟩ | ⟨rfl, hl, hz⟩ | ⟨rfl, hl, hx⟩ | ⟨rfl, hl, hz⟩ | ⟨rfl, hl, hx⟩ | ⟨rfl, hl, hz⟩
    · have h0 : ¬ (n : Int) < 0 := by omega
      go_wp2
      go_ret
      exact ⟨rfl, rfl⟩
    · go_wp2
      go_round
      case rel => exact ⟨0, by omega, by simp, hx⟩
      case measure => simp [intOf]
    · go_wp2
      go_ret
      exact ⟨rfl, rfl⟩
    · go_wp2
      go_round
      case rel => exact ⟨1, by omega, by simp, hx⟩
      case measure => simp [intOf]
    · go_wp2
      go_ret
      exact ⟨rfl, rfl⟩
    · go_wp2
      go_round
      case rel => exact ⟨2, by omega, by simp, hx⟩
      case measure => simp [intOf]
    · go_wp2
      go_ret
      exact ⟨rfl, rfl⟩
end Go.Proofs.YtccjfmjgkkpndaaDoor
