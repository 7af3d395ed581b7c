/-
  The document's answers for package bits: Untruths, bits as bytes, the same lists, which number fits, Width.
-/
import Derived.Test.YtkgmildbhelelaaDoorB6
import Derived.BigQuiet
import Derived.Deep.QuietTactic
namespace Go.Proofs.YtkgmildbhelelaaDoor
open Go.RowKit
theorem Bt.Row.add {w : World} {g sz k q r : Nat} {T : Nat → Bool} (h : Bt.Row w g sz (Bt.tr k T)) (hT : T k = true) (hq : q = k / 8) (hr : r = k % 8) :
    Bt.Row (w.setCell ⟨g, q, none⟩ (.int .u8 ((((Bt.oct (Bt.tr k T) q : Nat) : Int) + 2 ^ r) % 256))) g sz (Bt.tr (k + 1) T) := by
  have e : (((Bt.oct (Bt.tr k T) q : Nat) : Int) + 2 ^ r) % 256 = ((Bt.oct (Bt.tr (k + 1) T) q : Nat) : Int) := by
    have h1 := Bt.tr_add T k hT
    have h2 := Bt.oct_lt (Bt.tr (k + 1) T) q
    rw [← hq, ← hr] at h1
    have e2 : (2 : Int) ^ r = ((2 ^ r : Nat) : Int) := by simp
    rw [e2]
    omega
  rw [e]
  refine World.rowIs.congr (World.rowIs.set h q _) fun i _ => ?_
  by_cases e : i = q
  · subst e
    rw [if_pos rfl]
  · rw [if_neg e, Bt.tr_far T k i (by rw [← hq]; exact e)]
set_option maxHeartbeats 1000000 in
theorem Bt.rbytes_c (v : Value) (n : Nat) (T : Nat → Bool) (w : World) (h : Bt.Sl w v n (Bt.bv T)) (hn : n ≤ 140737488355328) :
    Calls Tryd.prog 90 #[v] w fun e w' => e = .returned (.string (Bt.bytes (Bt.need n) (Bt.tr n T))) ∧ Below w.heap.size w w' := by
  obtain ⟨a, c, rfl, h⟩ := h
  have hroom := (Bt.need_room n).1
  have hz : Bt.need n ≤ 140737488355328 := by unfold Bt.need; omega
  have hd : ((n : Int) + 7) / 8 = ((Bt.need n : Nat) : Int) := by unfold Bt.need; omega
  generalize Bt.need n = sz at hd hroom hz ⊢
  have hmk := run_make_row' (P := Tryd.prog) 47 5 (.int .u8 0) 1 Tryd.underlying47 Bt.info8 rfl .i64 .i64 sz (by omega) (by omega)
  have HZ := Lib.hid hz
  have HRM := Lib.hid hroom
  clear hz hroom
  go_enter Tryd.func90, Tryd.ntmps90
  go_wp2_with fail
  rw [hd]
  have hR := Bt.made w sz
  have hB : Below w.heap.size w (w.alloc (.cells (madeCells #[.int .u8 0] sz) 5)) := (Below.refl _ _).alloc (Nat.le_refl _) _
  generalize w.alloc (.cells (madeCells #[.int .u8 0] sz) 5) = w2 at hR hB ⊢
  clear hmk hd
  generalize hg : w.heap.size = g at h hR hB
  have HGE := Lib.hid hg
  have HN := Lib.hid hn
  clear hg hn
  go_loopw [4] (fun i wr => ∃ k : Nat, k ≤ n ∧ i = .int .i64 k ∧ Bt.Row wr g sz (Bt.tr k T) ∧ Below g w wr) (fun i _ => n - (intOf i).toNat)
  case atStart => exact ⟨0, by omega, rfl, by rw [Bt.tr_zero]; exact hR, hB⟩
  case round =>
    obtain ⟨k, hk, rfl, hRk, hBk⟩ := hrel
    have HR := Lib.hid hRk
    clear hR hB hRk
    by_cases hl : k < n
    · rcases h with h | ⟨b, o, rfl, hb, h⟩
      · omega
      · have hc : wr.cell? ⟨b, o + k, none⟩ = some (.bool (T k)) := (hBk.cell (p := ⟨b, o + k, none⟩) hb).trans (h k hl)
        have hkl : (k : Int) < (n : Int) := by omega
        have hk0 : (0 : Int) ≤ (k : Int) := by omega
        have hk2 : (k : Int) < 140737488355328 := by have := HN.out; omega
        cases hT : T k
        · rw [hT] at hc
          have HT := Lib.hid hT
          clear h hT
          go_wp2
          go_roundw
          case rel => exact ⟨k + 1, by omega, by simp, by rw [Bt.tr_skip T k HT.out]; exact HR.out, hBk⟩
          case measure => simp [intOf]; omega
        · rw [hT] at hc
          have HT := Lib.hid hT
          obtain ⟨q, eq⟩ : ∃ q, q = k / 8 := ⟨_, rfl⟩
          obtain ⟨r, er⟩ : ∃ r, r = k % 8 := ⟨_, rfl⟩
          have hi : q < sz := by have := HRM.out; omega
          have hc2 := HR.out.cell hi
          have hf := HR.out.frozen q
          have hiz : (q : Int) < (sz : Int) := by omega
          have hiz0 : (0 : Int) ≤ (q : Int) := by omega
          have hq2 : (q : Int) < 140737488355328 := by omega
          have hq : (k : Int) / 8 = (q : Int) := by omega
          have hr : (k : Int) % 8 = (r : Int) := by omega
          have hr8 : r < 8 := by omega
          have HE := Lib.hid (And.intro eq er)
          clear h hT eq er
          go_wp2
          obtain ⟨eq, er⟩ := HE.out
          go_roundw
          case rel => exact ⟨k + 1, by omega, by simp, Bt.Row.add HR.out HT.out eq er, hBk.trans (Bt.below_set (Nat.le_refl _) _)⟩
          case measure => simp [intOf]; omega
    · obtain rfl : k = n := by omega
      have hkl : ¬ (k : Int) < (k : Int) := by omega
      have hs := HR.out.string (c := sz)
      go_wp2
      go_ret
      exact ⟨rfl, by rw [HGE.out]; exact hBk⟩
theorem Bt.drewN_below (w : World) (n : Nat) : Below w.heap.size w (w.drewN n) := ⟨rfl, rfl, rfl, Nat.le_refl _, fun _ _ => rfl⟩
theorem Bt.fit_int (n q : Nat) (hq : q < 64) : decide ((n : Int) < IntKind.u64.wrap (2 ^ q)) = decide (bitLen n ≤ q) := by
  have e0 : (2 : Int) ^ q = ((2 ^ q : Nat) : Int) := by simp
  have h2 : 2 ^ q ≤ 2 ^ 63 := Nat.pow_le_pow_right (by decide) (by omega)
  have e1 : IntKind.u64.wrap ((2 ^ q : Nat) : Int) = ((2 ^ q : Nat) : Int) := Bt.wraps_u64 _ (Int.natCast_nonneg _) (by omega)
  rw [e0, e1, decide_eq_decide, bitLen_le]
  omega
set_option maxHeartbeats 1000000 in
theorem Bt.fits_c (n q : Nat) (w : World) (hn : n < 2 ^ 64) (hq : q ≤ 64) :
    Calls Tryd.prog 89 #[.int .u64 n, .int .i64 q] w fun e w' => e = .returned (.bool (decide (bitLen n ≤ q))) ∧ w' = w := by
  by_cases h : 64 ≤ q
  · rw [decide_eq_true (Nat.le_trans ((bitLen_le n 64).2 hn) h)]
    clear hn
    go_enter Tryd.func89, Tryd.ntmps89
    go_wp2
    go_ret
    exact ⟨rfl, rfl⟩
  · have HF := Lib.hid (Bt.fit_int n q (by omega))
    clear hn
    generalize decide (bitLen n ≤ q) = B at HF ⊢
    go_enter Tryd.func89, Tryd.ntmps89
    go_wp2
    go_ret
    exact ⟨Bt.retb (by rw [decide_eq_false (show ¬ (64 : Int) ≤ (q : Int) by omega), Bool.false_or]; exact HF.out), rfl⟩
set_option maxHeartbeats 1000000 in
theorem Bt.rwidth_c (v : Value) (n : Nat) (X : Nat → Nat) (w : World) (h : Bt.Sl w v n (Bt.nv X)) (hX : ∀ i, X i < 2 ^ 64) (hn : n ≤ 140737488355328) :
    Calls Tryd.prog 54 #[v] w fun e w' => e = .returned (.int .i64 (Bt.wid n X : Nat)) ∧ w' = w := by
  obtain ⟨a, c, rfl, h⟩ := h
  have HX := Lib.hid hX
  have HN := Lib.hid hn
  clear hX hn
  go_enter Tryd.func54, Tryd.ntmps54
  go_wp2
  go_loop [3, 4] (fun m i => ∃ k : Nat, k ≤ n ∧ i = .int .i64 k ∧ m = .int .i64 (Bt.wid k X : Nat)) (fun _ i => n - (intOf i).toNat)
  case atStart => exact ⟨0, by omega, rfl, rfl⟩
  case round =>
    obtain ⟨k, hk, rfl, rfl⟩ := hrel
    by_cases hl : k < n
    · rcases h with h | ⟨b, o, rfl, hlt, h⟩
      · omega
      · have hc := h k hl
        unfold Bt.nv at hc
        have hkl : (k : Int) < (n : Int) := by omega
        have hk0 : (0 : Int) ≤ (k : Int) := by omega
        have hk2 : (k : Int) < 140737488355328 := by have := HN.out; omega
        have HS := Lib.hid (Bt.wid_succ k X)
        have cf := fun q w hq => Bt.fits_c (X k) q w (HX.out k) hq
        have H64 : Hid (bitLen (X k) ≤ 64) := Lib.hid ((bitLen_le _ 64).2 (HX.out k))
        have HW : Hid (Bt.wid k X ≤ 64) := Lib.hid (Bt.wid_64 HX.out)
        clear h
        go_wp2
        go_loop [3] (fun m => ∃ q : Nat, m = .int .i64 q ∧ Bt.wid k X ≤ q ∧ q ≤ Bt.wid (k + 1) X) (fun m => Bt.wid (k + 1) X - (intOf m).toNat)
        case atStart => exact ⟨_, rfl, by omega, by have := HS.out; omega⟩
        case round =>
          obtain ⟨q, rfl, hq1, hq2⟩ := hrel
          have HQ := Lib.hid (And.intro hq1 hq2)
          have hq64 : q ≤ 64 := by have := HS.out; have := H64.out; have := HW.out; omega
          have cq := fun w => cf q w hq64
          clear hq1 hq2
          by_cases hb : bitLen (X k) ≤ q
          · rw [decide_eq_true hb] at cq
            have e : q = Bt.wid (k + 1) X := by have := HS.out; have := HQ.out; omega
            have E := Lib.hid e
            clear hb e cf
            go_wp2_with fail
            refine (cq _).mono ?_
            rintro e w' ⟨rfl, rfl⟩
            go_wp2
            go_round
            case rel => exact ⟨k + 1, by omega, by simp, by rw [E.out]⟩
            case measure => simp [intOf]; omega
          · rw [decide_eq_false hb] at cq
            have HB := Lib.hid hb
            clear hb cf
            go_wp2_with fail
            refine (cq _).mono ?_
            rintro e w' ⟨rfl, rfl⟩
            go_wp2
            go_round
            case rel => exact ⟨q + 1, by simp, by have := HQ.out; omega, by have := HS.out; have := HB.out; omega⟩
            case measure => have := HS.out; have := HB.out; have := HQ.out; simp [intOf]; omega
    · obtain rfl : k = n := by omega
      have hkl : ¬ (k : Int) < (k : Int) := by omega
      go_wp2
      go_ret
      exact ⟨rfl, rfl⟩
end Go.Proofs.YtkgmildbhelelaaDoor
