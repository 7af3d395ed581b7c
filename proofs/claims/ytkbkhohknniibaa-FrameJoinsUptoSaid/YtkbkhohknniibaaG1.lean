/-
  Package frame: the table of sixteen; half a byte of the register.
-/
import Derived.Test.YtkbkhohknniibaaF3
import Derived.Test.YtkbkhohknniibaaB5
import Derived.Laws.Rows
import Derived.Laws.Tables
import Derived.Laws.CopyOwn
namespace Go.Proofs.Ytkbkhohknniibaa
open Go.RowKit
def Fr.half (j : Nat) : Value := .int .u32 ((Fr.Tn 4 j : Nat) : Int)
theorem Fr.nib (r : Nat) : Fr.Tn 4 r = r / 16 ^^^ Fr.Tn 4 (r % 16) := Fr.Tn_split 4 r
theorem Fr.Tn8 (r : Nat) : Fr.Tn 8 r = Fr.Tn 4 (Fr.Tn 4 r) := Fr.Tn_add 4 4 r
/-- Half a byte of the register. -/
theorem Fr.nib_eq {X Y Z : Nat} (hX : X < 4294967296) (hY : Y = X / 16) (hZ : Z = X % 16) : bits .xor .u32 (Y : Int) ((Fr.Tn 4 Z : Nat) : Int) = ((Fr.Tn 4 X : Nat) : Int) := by
  have h : bits .xor .u32 (Y : Int) ((Fr.Tn 4 Z : Nat) : Int) = ((Y ^^^ Fr.Tn 4 Z : Nat) : Int) := u32_xor_nat _ _ (by omega) (Fr.Tn_lt (by omega))
  rw [h, hY, hZ, ← Fr.nib]
/-- Sixteen cells, all zero. -/
def Fr.zeros : Array Value := #[.int .u32 0, .int .u32 0, .int .u32 0, .int .u32 0, .int .u32 0, .int .u32 0, .int .u32 0, .int .u32 0, .int .u32 0, .int .u32 0, .int .u32 0, .int .u32 0, .int .u32 0, .int .u32 0, .int .u32 0, .int .u32 0]
/-- The table lies in block g. -/
def Fr.Tab (w : World) (g : Nat) : Prop := g < w.heap.size ∧ ∀ j, j < 16 → w.cell? ⟨g, j, none⟩ = some (.int .u32 ((Fr.Tn 4 j : Nat) : Int))
theorem Fr.Tab.kept {w w' : World} {g : Nat} (h : Fr.Tab w g) (b : Below w.heap.size w w') : Fr.Tab w' g := by
  refine ⟨Nat.lt_of_lt_of_le h.1 b.size, fun j hj => ?_⟩
  have := h.2 j hj
  unfold World.cell? at this ⊢
  rw [b.block g h.1]
  exact this
set_option maxHeartbeats 1000000 in
set_option maxRecDepth 100000 in
theorem Fr.half_c (g X : Nat) (hX : X < 4294967296) (w : World) (hT : Fr.Tab w g) :
    Calls Try.prog 27 #[.pointer (some ⟨g, 0, none⟩), .int .u32 (X : Int)] w fun e w' => e = .returned (.int .u32 ((Fr.Tn 4 X : Nat) : Int)) ∧ w' = w := by
  obtain ⟨Y, hY⟩ : ∃ Y, Y = X / 16 := ⟨_, rfl⟩
  obtain ⟨Z, hZ⟩ : ∃ Z, Z = X % 16 := ⟨_, rfl⟩
  have hd : (X : Int) / 16 = (Y : Int) := by omega
  have ha : bits .and .u32 (X : Int) 15 = (Z : Int) := by
    have := u32_and_nat X 15 hX (by decide)
    refine this.trans ?_
    rw [hZ, show (15 : Nat) = 2 ^ 4 - 1 from rfl, Nat.and_two_pow_sub_one_eq_mod]
  have hZ16 : Z < 16 := by omega
  have hZi : (Z : Int) < 16 := by omega
  have hZ0 : (0 : Int) ≤ (Z : Int) := by omega
  have c0 := hT.2 Z hZ16
  have hn := Fr.nib_eq hX hY hZ
  generalize Fr.Tn 4 Z = U at c0 hn
  generalize Fr.Tn 4 X = X1 at hn ⊢
  clear hY hZ hT
  go_enter Try.func27, Try.ntmps27
  go_wp2
  go_ret
  exact ⟨rfl, rfl⟩
set_option maxHeartbeats 1000000 in
set_option maxRecDepth 100000 in
theorem Fr.steps_c (w : World) : Calls Try.prog 20 #[] w fun e w' => ∃ g, e = .returned (.pointer (some ⟨g, 0, none⟩)) ∧ Fr.Tab w' g ∧ Below w.heap.size w w' := by
  have hb2 : Below w.heap.size w (w.alloc (.cells Fr.zeros 49)) := (Below.refl _ w).alloc (Nat.le_refl _) _
  have h1 : (w.alloc (.cells Fr.zeros 49)).rowIs w.heap.size 49 16 (Bt.upTo 0 Fr.half (.int .u32 0)) := by
    refine ⟨Fr.zeros, heap_alloc_new w (.cells Fr.zeros 49), rfl, fun i hi => ?_⟩
    have e : Bt.upTo 0 Fr.half (.int .u32 0) i = .int .u32 0 := by unfold Bt.upTo; rw [if_neg (by omega)]
    rw [e]
    rcases (by omega : i = 0 ∨ i = 1 ∨ i = 2 ∨ i = 3 ∨ i = 4 ∨ i = 5 ∨ i = 6 ∨ i = 7 ∨ i = 8 ∨ i = 9 ∨ i = 10 ∨ i = 11 ∨ i = 12 ∨ i = 13 ∨ i = 14 ∨ i = 15) with rfl | rfl | rfl | rfl | rfl | rfl | rfl | rfl | rfl | rfl | rfl | rfl | rfl | rfl | rfl | rfl <;> rfl
  have HLT : Hid (∀ j k, k < 16 → Fr.Tn j k < 4294967296) := Lib.hid fun j k hk => Fr.Tn_lt (by omega)
  have HB2 := Lib.hid hb2
  have H1 := Lib.hid h1
  clear hb2 h1
  go_enter Try.func20, Try.ntmps20
  go_wp2
  change Code.wp _ _ _ _ (w.alloc (.cells Fr.zeros 49))
  generalize w.alloc (.cells Fr.zeros 49) = w2 at HB2 H1 ⊢
  go_loopw [7] (fun i wr => ∃ k : Nat, k ≤ 16 ∧ i = .int .i64 k ∧ wr.rowIs w.heap.size 49 16 (Bt.upTo k Fr.half (.int .u32 0)) ∧ Below w.heap.size w wr) (fun i _ => 16 - (intOf i).toNat)
  case atStart => exact ⟨0, by omega, rfl, H1.out, HB2.out⟩
  case round =>
    obtain ⟨k, hk, rfl, hR, hB⟩ := hrel
    have HR := Lib.hid hR
    have HB := Lib.hid hB
    clear hR hB HB2 H1
    have hk0 : (0 : Int) ≤ (k : Int) := by omega
    by_cases hl : k < 16
    · have hki : (k : Int) < 16 := by omega
      have HTL : Hid (∀ j, Fr.Tn j k < 4294967296) := Lib.hid fun j => HLT.out j k hl
      have HHF : Hid (Fr.half k = .int .u32 ((Fr.Tn 4 k : Nat) : Int)) := Lib.hid rfl
      go_wp2_with fail
      go_loop [3, 4, 12] (fun r o j => ∃ i : Nat, i ≤ 4 ∧ j = .int .i64 i ∧ r = .int .u32 (Fr.Tn i k : Nat)) (fun _ _ j => 4 - (intOf j).toNat)
      case atStart => exact ⟨0, by omega, rfl, rfl⟩
      case round =>
        obtain ⟨i, hi, rfl, rfl⟩ := hrel
        have hi0 : (0 : Int) ≤ (i : Int) := by omega
        by_cases hi4 : i < 4
        · have hii : (i : Int) < 4 := by omega
          have hT := HTL.out i
          have HTN := Lib.hid (Fr.Tn_last i k)
          generalize Fr.Tn i k = Y at hT HTN ⊢
          obtain ⟨Z, hZ⟩ : ∃ Z, Z = Y / 2 := ⟨_, rfl⟩
          have hd : (Y : Int) / 2 = (Z : Int) := by omega
          have hZl : Z < 4294967296 := by omega
          have hand : bits .and .u32 (Y : Int) 1 = ((Y % 2 : Nat) : Int) := by
            have := u32_and_nat Y 1 hT (by decide)
            rwa [Nat.and_one_is_mod] at this
          rcases Nat.mod_two_eq_zero_or_one Y with hm | hm
          · rw [hm] at hand
            have HE := Lib.hid (HTN.out.trans (Fr.T_even hm))
            rw [← hZ] at HE
            clear hZ hm
            go_wp2
            go_round
            case rel => exact ⟨i + 1, by omega, by simp, by rw [HE.out]⟩
            case measure => simp [intOf]; omega
          · rw [hm] at hand
            have HE := Lib.hid (HTN.out.trans (Fr.T_odd hm))
            rw [← hZ] at HE
            have hx2 : bits .xor .u32 (Z : Int) 2197175160 = ((Z ^^^ 2197175160 : Nat) : Int) := u32_xor_nat Z 2197175160 hZl (by decide)
            clear hZ hm
            go_wp2
            go_round
            case rel => exact ⟨i + 1, by omega, by simp, by rw [HE.out]⟩
            case measure => simp [intOf]; omega
        · obtain rfl : i = 4 := by omega
          have c0 := HR.out.cell hl
          have f0 := HR.out.frozen k
          go_wp2
          go_roundw
          case rel => exact ⟨k + 1, by omega, by simp, Bt.upTo_next HR.out rfl, HB.out.trans (Bt.below_set (Nat.le_refl _) _)⟩
          case measure => simp [intOf]; omega
    · obtain rfl : k = 16 := by omega
      have hall : Fr.Tab wr w.heap.size := ⟨HR.out.lt, fun j hj => by
        have hc := HR.out.cell hj
        rw [hc]
        unfold Bt.upTo
        rw [if_pos hj]
        rfl⟩
      have HA := Lib.hid hall
      clear hall
      have h16 : (16 : Int) < 16 ↔ False := by simp
      go_wp2
      go_ret
      exact ⟨_, rfl, HA.out, HB.out⟩
end Go.Proofs.Ytkbkhohknniibaa
