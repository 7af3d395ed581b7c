/-
  Contracts of package ints: Best.
-/
import Derived.Test.YtkgmildbhelelaaDoorI7
namespace Go.Proofs.YtkgmildbhelelaaDoor
open Go.RowKit
/-- The shortest encoding's codec among the first ones. -/
def Ig.bk (L : List Int) : Nat → Nat
  | 0 => 0
  | k + 1 => if (Ig.enc (k + 1) L).length < (Ig.enc (Ig.bk L k) L).length then k + 1 else Ig.bk L k
theorem Ig.bk_le (L : List Int) : ∀ k, Ig.bk L k ≤ k
  | 0 => Nat.le_refl _
  | k + 1 => by
    have := Ig.bk_le L k
    unfold Ig.bk
    split <;> omega
theorem Ig.bk_least (L : List Int) : ∀ k j, j ≤ k → (Ig.enc (Ig.bk L k) L).length ≤ (Ig.enc j L).length
  | 0, j, h => by
    obtain rfl : j = 0 := by omega
    exact Nat.le_refl _
  | k + 1, j, h => by
    have ih := Ig.bk_least L k
    unfold Ig.bk
    split
    · rename_i hlt
      rcases Nat.lt_or_ge j (k + 1) with hj | hj
      · have := ih j (by omega); omega
      · obtain rfl : j = k + 1 := by omega
        exact Nat.le_refl _
    · rename_i hlt
      rcases Nat.lt_or_ge j (k + 1) with hj | hj
      · exact ih j (by omega)
      · obtain rfl : j = k + 1 := by omega
        omega
/-- What Best returns. -/
def Ig.bestE (L : List Int) : Nat := if 65536 < L.length then 3 else 0
def Ig.bestS (L : List Int) : List UInt8 := if 65536 < L.length then [] else Ig.enc (Ig.bk L 3) L
def Ig.bestV (L : List Int) : Value := .tuple #[.string (Ty.S (Ig.bestS L)), .int .i64 ((Ig.bestE L : Nat) : Int)]
theorem Ig.bestV_long {L : List Int} (h : 65536 < L.length) : Ig.bestV L = .tuple #[.string (Ty.S []), .int .i64 3] := by unfold Ig.bestV Ig.bestE Ig.bestS; rw [if_pos h, if_pos h]; rfl
theorem Ig.bestV_good {L : List Int} (h : ¬ 65536 < L.length) : Ig.bestV L = .tuple #[.string (Ty.S (Ig.enc (Ig.bk L 3) L)), .int .i64 0] := by unfold Ig.bestV Ig.bestE Ig.bestS; rw [if_neg h, if_neg h]; rfl
set_option maxHeartbeats 2000000 in
theorem Ig.best_c (u : Value) (L : List Int) (w : World) (hw : Ty.Tabs w) (hL : Ig.At w.heap.size w u L) (hi : ∀ x ∈ L, Ty.I64 x) (hl : L.length ≤ 140737488355328) :
    Calls Tryd.prog 18 #[u] w fun e w' => e = .returned (Ig.bestV L) ∧ Below w.heap.size w w' := by
  have hG := hw.two
  by_cases hln : 65536 < L.length
  · have c0 := Ig.with_c u L 0 w hw hL hi hl
    rw [Ig.withV_long (by omega) hln] at c0
    rw [Ig.bestV_long hln]
    clear hln hi hl
    obtain ⟨a, c, rfl, hc, _, h⟩ := hL
    clear h
    go_enter Tryd.func18, Tryd.ntmps18
    go_wp2_with fail
    refine c0.mono ?_
    rintro e w1 ⟨rfl, hb1⟩
    go_wp2
    go_ret2
    exact ⟨rfl, hb1⟩
  · rw [Ig.bestV_good hln]
    have cw : Hid (∀ k : Nat, k ≤ 3 → ∀ wz, Below w.heap.size w wz → Calls Tryd.prog 16 #[u, .int .i64 (k : Int)] wz fun e w' => e = .returned (.tuple #[.string (Ty.S (Ig.enc k L)), .int .i64 0]) ∧ Below w.heap.size w w') := Lib.hid fun k hk wz hb => by
      have := Ig.with_c u L (k : Int) wz (hw.below hb hG) (hL.below hb).bufs hi hl
      rw [Ig.withV_good hk hln] at this
      exact this.mono fun e w' ⟨he, hg⟩ => ⟨he, hb.trans (hg.mono hb.size)⟩
    have c0 := cw.out 0 (by decide) w (Below.refl _ _)
    obtain ⟨a, c, rfl, hc, _, h⟩ := hL
    clear h hi hl hln
    have e0 : ((0 : Nat) : Int) = 0 := rfl
    rw [e0] at c0
    clear e0
    go_enter Tryd.func18, Tryd.ntmps18
    go_wp2_with fail
    refine c0.mono ?_
    rintro e w1 ⟨rfl, hb1⟩
    clear c0
    go_wp2
    go_loopw [4, 6] (fun s i wr => ∃ k : Nat, 1 ≤ k ∧ k ≤ 4 ∧ i = .int .i64 k ∧ s = .string (Ty.S (Ig.enc (Ig.bk L (k - 1)) L)) ∧ Below w.heap.size w wr) (fun _ i _ => 4 - (intOf i).toNat)
    case atStart => exact ⟨1, by omega, by omega, rfl, rfl, hb1⟩
    case round =>
      obtain ⟨k, hk1, hk, rfl, rfl, hb⟩ := hrel
      clear hb1
      have hs := hb.size
      by_cases hk4 : k < 4
      · have hki : (k : Int) < 4 := by omega
        have hk0 : (0 : Int) ≤ (k : Int) := by omega
        have HBK : Hid (Ig.bk L k = if (Ig.enc k L).length < (Ig.enc (Ig.bk L (k - 1)) L).length then k else Ig.bk L (k - 1)) := Lib.hid (by
          obtain ⟨j, rfl⟩ : ∃ j, k = j + 1 := ⟨k - 1, by omega⟩
          rfl)
        obtain ⟨s0, es0⟩ : ∃ s0, s0 = Ty.S (Ig.enc (Ig.bk L (k - 1)) L) := ⟨_, rfl⟩
        obtain ⟨s1, es1⟩ : ∃ s1, s1 = Ty.S (Ig.enc k L) := ⟨_, rfl⟩
        have HN : Hid (s1.size < s0.size → Ty.S (Ig.enc (Ig.bk L k) L) = s1) := Lib.hid (fun h => by
          rw [es0, es1, Ty.size_S, Ty.size_S] at h
          rw [es1, HBK.out, if_pos h])
        have HM : Hid (¬ s1.size < s0.size → Ty.S (Ig.enc (Ig.bk L k) L) = s0) := Lib.hid (fun h => by
          rw [es0, es1, Ty.size_S, Ty.size_S] at h
          rw [es0, HBK.out, if_neg h])
        have c1 := cw.out k (by omega)
        rw [← es1] at c1
        rw [← es0]
        have HC := Lib.hid c1
        clear c1 es0 es1
        by_cases hlt : (s1.size : Int) < (s0.size : Int)
        all_goals
          go_wp2_with fail
          refine (Ig.coders_c _).mono ?_
          rintro e w2 ⟨rfl, hw2⟩
          have hb2 : Below w.heap.size w w2 := by rw [hw2]; exact hb.alloc hs _
          clear hw2
          have c2 := HC.out _ hb2
          go_wp2_with fail
          refine c2.mono ?_
          rintro e w3 ⟨rfl, hb3⟩
          clear c2
          go_wp2
          go_roundw
          case rel => exact ⟨k + 1, by omega, by omega, by simp, by first | rw [show k + 1 - 1 = k by omega, HN.out (by omega)] | rw [show k + 1 - 1 = k by omega, HM.out (by omega)], hb3⟩
          case measure => simp [intOf]; omega
      · obtain rfl : k = 4 := by omega
        go_wp2_with fail
        refine (Ig.coders_c _).mono ?_
        rintro e w2 ⟨rfl, hw2⟩
        have hb2 : Below w.heap.size w w2 := by rw [hw2]; exact hb.alloc hs _
        clear hw2
        go_wp2
        go_ret2
        exact ⟨rfl, hb2⟩
end Go.Proofs.YtkgmildbhelelaaDoor
