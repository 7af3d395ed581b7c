/-
  Contracts of package ints: the writer of differences; the length of a run; the smallest one.
-/
import Derived.Test.YtkgmildbhelelaaDoorI3
import Derived.BigQuiet
import Derived.Deep.QuietTactic
namespace Go.Proofs.YtkgmildbhelelaaDoor
open Go.RowKit
open Ig (nth encI encR grp diffs prv low)
set_option maxHeartbeats 1000000 in
theorem Ig.writeDelta_c (base : Nat) (v : Value) (bs : List UInt8) (u : Value) (L : List Int) (w : World) (hw : Ty.Tabs w) (hown : Ty.Buf base w v bs) (hb : base ≤ w.heap.size) (hG : Ty.G ≤ base)
    (hL : Ig.At base w u L) (hi : ∀ x ∈ L, Ty.I64 x) (hlen : bs.length ≤ 100) (hl : L.length ≤ 65536) :
    Calls Tryd.prog 62 #[v, u] w (Ty.Written base w v (bs ++ (diffs 0 L).flatMap encI)) := by
  have hD := Ig.diffs_len L 0
  obtain ⟨D, eD⟩ : ∃ D, D = diffs 0 L := ⟨_, rfl⟩
  rw [← eD] at hD ⊢
  obtain ⟨a, c, rfl, hc, _, h⟩ := hL
  have HI := Lib.hid hi
  have HD := Lib.hid hD
  have ED := Lib.hid eD
  have H0 := Lib.hid hown.base
  clear hi hD eD
  go_enter Tryd.func62, Tryd.ntmps62
  go_wp2
  go_loopw [0, 5, 10] (fun x p i wr => ∃ k : Nat, k ≤ L.length ∧ i = .int .i64 k ∧ p = .int .i64 (prv L k) ∧ Ty.Buf base wr x (bs ++ (D.take k).flatMap encI) ∧ Ty.Grew w wr v x) (fun _ _ i _ => L.length - (intOf i).toNat)
  case atStart => exact ⟨0, by omega, rfl, rfl, by simpa using hown, Ty.Grew.refl _ _⟩
  case round =>
    obtain ⟨k, hk, rfl, rfl, hB, hg⟩ := hrel
    have hb1 := Ig.take_full hg hb H0.out
    have hT := hw.below hb1 hG
    have hs := hb1.size
    have HB := Lib.hid hB
    have HG := Lib.hid hg
    clear hB hg
    by_cases hl2 : k < L.length
    · rcases h with h | ⟨b, o, rfl, hlt, h⟩
      · exact absurd hl2 (by rw [h]; simp)
      · have hcell : wr.cell? ⟨b, o + k, none⟩ = some (.int .i64 (nth L k)) := (hb1.cell (p := ⟨b, o + k, none⟩) hlt).trans (h k hl2)
        have hx : Ty.I64 (wrap64 (nth L k - prv L k)) := Ig.wrap_i64 _
        have HN : Hid ((D.take (k + 1)).flatMap encI = (D.take k).flatMap encI ++ encI (wrap64 (nth L k - prv L k))) := Lib.hid (by
          have h1 := Ig.flat_next (L := D) (k := k) (by rw [HD.out]; exact hl2)
          rw [h1, ED.out, Ig.diffs_at hl2])
        have hln := Ig.len_flat_take D k
        have c1 := Ty.int_c base _ _ (wrap64 (nth L k - prv L k)) hx wr hT HB.out (by omega) (by rw [List.length_append]; omega)
        have hkl : (k : Int) < (L.length : Int) := by omega
        have hk0 : (0 : Int) ≤ (k : Int) := by omega
        have HP : Hid (prv L (k + 1) = nth L k) := Lib.hid rfl
        generalize nth L k = x at hcell HN c1 HP
        generalize prv L k = p at HN c1 ⊢
        clear h hx hln hT hb1
        go_wp2_with fail
        refine c1.mono ?_
        rintro e w1 ⟨v1, rfl, hB1, hG1⟩
        have HB1 := Lib.hid hB1
        have HG1 := Lib.hid hG1
        clear hB1 hG1 c1
        go_wp2
        go_roundw
        case rel => exact ⟨k + 1, by omega, by simp, by rw [HP.out], by rw [HN.out, ← List.append_assoc]; exact HB1.out, HG.out.trans HG1.out⟩
        case measure => simp [intOf]; omega
    · obtain rfl : k = L.length := by omega
      have hkl : ¬ (L.length : Int) < (L.length : Int) := by omega
      go_wp2
      go_ret
      exact ⟨_, rfl, by have := HB.out; rwa [← HD.out, List.take_length] at this, HG.out⟩
set_option maxHeartbeats 1000000 in
theorem Ig.runLength_c (u : Value) (L : List Int) (w : World) (hL : Ig.At w.heap.size w u L) (hne : 0 < L.length) (hl : L.length ≤ 65536) :
    Calls Tryd.prog 96 #[u] w fun e w' => ∃ k, e = .returned (.int .i64 (k : Nat)) ∧ Ig.Run L k ∧ Below w.heap.size w w' := by
  obtain ⟨a, c, rfl, hc, _, h⟩ := hL
  go_enter Tryd.func96, Tryd.ntmps96
  go_wp2
  rcases h with h | ⟨b, o, rfl, hlt, h⟩
  · exact absurd hne (by rw [h]; simp)
  go_loopw [3] (fun i wr => ∃ k : Nat, k ≤ L.length ∧ i = .int .i64 k ∧ (∀ j, j < k → nth L j = nth L 0) ∧ Below w.heap.size w wr) (fun i _ => L.length - (intOf i).toNat)
  case atStart => exact ⟨0, by omega, rfl, fun j hj => by omega, Below.refl _ _⟩
  case round =>
    obtain ⟨k, hk, rfl, hj, hB⟩ := hrel
    have HJ := Lib.hid hj
    have HB := Lib.hid hB
    have hk0 : (0 : Int) ≤ (k : Int) := by omega
    have hn0 : (0 : Int) < (L.length : Int) := by omega
    have hn : (L.length : Int) ≤ 65536 := by omega
    have h0 : wr.cell? ⟨b, o, none⟩ = some (.int .i64 (nth L 0)) := (hB.cell (p := ⟨b, o, none⟩) hlt).trans (by have := h 0 hne; simpa using this)
    clear hj
    by_cases hl2 : k < L.length
    · have hcell : wr.cell? ⟨b, o + k, none⟩ = some (.int .i64 (nth L k)) := (hB.cell (p := ⟨b, o + k, none⟩) hlt).trans (h k hl2)
      have hkl : (k : Int) < (L.length : Int) := by omega
      have HH := Lib.hid h
      clear h hB
      by_cases he : nth L k = nth L 0
      · have hq : (nth L k == nth L 0) = true := by rw [he]; exact beq_self_eq_true _
        have HE := Lib.hid he
        obtain ⟨x, ex⟩ : ∃ x, x = nth L k := ⟨_, rfl⟩
        obtain ⟨y, ey⟩ : ∃ y, y = nth L 0 := ⟨_, rfl⟩
        rw [← ex] at hcell hq
        rw [← ey] at h0 hq
        clear he ex ey
        go_wp2_with fail
        go_quiet (fail)
        go_wp2
        go_roundw
        case rel => exact ⟨k + 1, by omega, by simp, fun j hj => by
          rcases Nat.lt_or_ge j k with h | h
          · exact HJ.out j h
          · rw [show j = k by omega]; exact HE.out, HB.out.trans ((Bt.drewN_below _ _).mono HB.out.size)⟩
        case measure => simp [intOf]; omega
      · have hq : (nth L k == nth L 0) = false := by rw [beq_eq_false_iff_ne]; exact he
        have HE := Lib.hid he
        obtain ⟨x, ex⟩ : ∃ x, x = nth L k := ⟨_, rfl⟩
        obtain ⟨y, ey⟩ : ∃ y, y = nth L 0 := ⟨_, rfl⟩
        rw [← ex] at hcell hq
        rw [← ey] at h0 hq
        have hk1 : 0 < k := by
          rcases Nat.eq_zero_or_pos k with e | e
          · exact absurd (by rw [e]) he
          · exact e
        clear he ex ey
        go_wp2_with fail
        go_quiet (fail)
        go_wp2
        go_ret
        exact ⟨k, rfl, ⟨hk1, hk, HJ.out, fun _ => HE.out⟩, HB.out.trans ((Bt.drewN_below _ _).mono HB.out.size)⟩
    · obtain rfl : k = L.length := by omega
      have hd : decide ((L.length : Int) < (L.length : Int)) = false := by simp
      clear h hB
      go_wp2_with fail
      go_quiet (fail)
      go_wp2
      go_ret
      exact ⟨L.length, rfl, ⟨hne, Nat.le_refl _, HJ.out, fun h => absurd h (Nat.lt_irrefl _)⟩, HB.out.trans ((Bt.drewN_below _ _).mono HB.out.size)⟩
set_option maxHeartbeats 1000000 in
theorem Ig.min_c (u : Value) (L : List Int) (w : World) (hL : Ig.At w.heap.size w u L) (hne : 0 < L.length) (hl : L.length ≤ 65536) :
    Calls Tryd.prog 97 #[u] w fun e w' => e = .returned (.int .i64 (low L)) ∧ w' = w := by
  obtain ⟨a, c, rfl, hc, _, h⟩ := hL
  rcases h with h | ⟨b, o, rfl, hlt, h⟩
  · exact absurd hne (by rw [h]; simp)
  have h0 : w.cell? ⟨b, o, none⟩ = some (.int .i64 (nth L 0)) := by have := h 0 hne; simpa using this
  have hn0 : ¬ (L.length : Int) < 1 := by omega
  have hn1 : (0 : Int) < (L.length : Int) := by omega
  have HL1 : Hid (low (L.take 1) = nth L 0) := Lib.hid (Ig.low_one hne)
  go_enter Tryd.func97, Tryd.ntmps97
  go_wp2
  go_loop [3, 4] (fun m i => ∃ k : Nat, 1 ≤ k ∧ k ≤ L.length ∧ i = .int .i64 k ∧ m = .int .i64 (low (L.take k))) (fun _ i => L.length - (intOf i).toNat)
  case atStart => exact ⟨1, by omega, by omega, rfl, by rw [HL1.out]⟩
  case round =>
    obtain ⟨k, hk1, hk, rfl, rfl⟩ := hrel
    clear h0
    by_cases hl2 : k < L.length
    · have hcell := h k hl2
      have hkl : (k : Int) < (L.length : Int) := by omega
      have hk0 : (0 : Int) ≤ (k : Int) := by omega
      have HN := Lib.hid (Ig.low_next (by omega) hl2)
      obtain ⟨x, ex⟩ : ∃ x, x = nth L k := ⟨_, rfl⟩
      obtain ⟨y, ey⟩ : ∃ y, y = low (L.take k) := ⟨_, rfl⟩
      rw [← ex] at hcell HN
      rw [← ey] at HN ⊢
      clear h ex ey
      by_cases hxy : y ≤ x
      all_goals
        go_wp2
        all_goals
          go_round
          case rel => exact ⟨k + 1, by omega, by omega, by simp, by rw [HN.out]; congr 1; omega⟩
          case measure => simp [intOf]; omega
    · obtain rfl : k = L.length := by omega
      have hkl : ¬ (L.length : Int) < (L.length : Int) := by omega
      go_wp2
      go_ret
      exact ⟨rfl, rfl⟩
end Go.Proofs.YtkgmildbhelelaaDoor
