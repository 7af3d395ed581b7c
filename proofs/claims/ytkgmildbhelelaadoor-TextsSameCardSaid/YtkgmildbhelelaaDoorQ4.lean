/-
  The document's answers for package texts: With, Best.
-/
import Derived.Test.YtkgmildbhelelaaDoorQ3
namespace Go.Proofs.YtkgmildbhelelaaDoor
open Go.RowKit
open Ty (encU num)
/-- The column can be encoded. -/
def Tx.fit (L : List Tx.Str) : Bool := decide (L.length ≤ 65536) && L.all fun t => decide (t.length ≤ 64)
def Tx.withE (L : List Tx.Str) (z : Int) : Nat := if 0 ≤ z ∧ z ≤ 1 then (if Tx.fit L = true then 0 else 3) else 1
def Tx.withS (L : List Tx.Str) (z : Int) : List UInt8 := if Tx.withE L z = 0 then Tx.enc z.toNat L else []
def Tx.withV (L : List Tx.Str) (z : Int) : Value := .tuple #[.string (Ty.S (Tx.withS L z)), .int .i64 ((Tx.withE L z : Nat) : Int)]
theorem Tx.withV_bad {L : List Tx.Str} {z : Int} (h : ¬ (0 ≤ z ∧ z ≤ 1)) : Tx.withV L z = .tuple #[.string (Ty.S []), .int .i64 1] := by
  have e : Tx.withE L z = 1 := by unfold Tx.withE; rw [if_neg h]
  unfold Tx.withV Tx.withS
  rw [e]; rfl
theorem Tx.withV_long {L : List Tx.Str} {z : Int} (h : 0 ≤ z ∧ z ≤ 1) (hl : Tx.fit L = false) : Tx.withV L z = .tuple #[.string (Ty.S []), .int .i64 3] := by
  have e : Tx.withE L z = 3 := by unfold Tx.withE; rw [if_pos h, if_neg (by rw [hl]; simp)]
  unfold Tx.withV Tx.withS
  rw [e]; rfl
theorem Tx.withV_good {L : List Tx.Str} {k : Nat} (h : k ≤ 1) (hl : Tx.fit L = true) : Tx.withV L (k : Int) = .tuple #[.string (Ty.S (Tx.enc k L)), .int .i64 0] := by
  have e : Tx.withE L (k : Int) = 0 := by unfold Tx.withE; rw [if_pos (by omega), if_pos hl]
  unfold Tx.withV Tx.withS
  rw [e]; rfl
theorem Tx.fit_yes {L : List Tx.Str} (h : Tx.fit L = true) : L.length ≤ 65536 ∧ ∀ t ∈ L, t.length ≤ 64 := by
  unfold Tx.fit at h
  simp only [Bool.and_eq_true, decide_eq_true_iff, List.all_eq_true] at h
  exact h
theorem Tx.fit_no {L : List Tx.Str} (h : Tx.fit L = false) (hl : L.length ≤ 65536) (ha : ∀ j, j < L.length → (L.getD j []).length ≤ 64) : False := by
  have : Tx.fit L = true := by
    unfold Tx.fit
    simp only [Bool.and_eq_true, decide_eq_true_iff, List.all_eq_true]
    refine ⟨hl, fun t ht => ?_⟩
    obtain ⟨j, hj, rfl⟩ := List.getElem_of_mem ht
    have := ha j hj
    rwa [List.getD, List.getElem?_eq_getElem hj] at this
  rw [h] at this
  cases this
set_option maxHeartbeats 1000000 in
set_option maxRecDepth 100000 in
/-- WITH, as the document has it. -/
theorem Tx.rwith_c (u : Value) (L : List Tx.Str) (z : Int) (w : World) (hL : Tx.At w.heap.size w u L) (hl : L.length ≤ 140737488355328) :
    Calls Tryd.prog 25 #[u, .int .i64 z] w fun e w' => e = .returned (Tx.withV L z) ∧ Below w.heap.size w w' := by
  by_cases hz : 0 ≤ z ∧ z ≤ 1
  · cases hf : Tx.fit L
    · rw [Tx.withV_long hz hf]
      have hzs : ((z != 0) = false) ∨ ((z != 0) = true ∧ (z != 1) = false) := by
        rcases (by omega : z = 0 ∨ z = 1) with rfl | rfl
        · exact .inl rfl
        · exact .inr ⟨rfl, rfl⟩
      obtain ⟨a, c, rfl, hc, _, h⟩ := hL
      have HC := Lib.hid h
      have HF := Lib.hid hf
      clear h hf
      by_cases hln : 65536 < L.length
      · have hli : (65536 : Int) < (L.length : Int) := by omega
        clear hln
        rcases hzs with z1 | ⟨z1, z2⟩
        all_goals
          clear hz
          go_enter Tryd.func25, Tryd.ntmps25
          go_wp2
          go_ret2
          exact ⟨rfl, Below.refl _ _⟩
      · have hli : ¬ (65536 : Int) < (L.length : Int) := by omega
        rcases hzs with z1 | ⟨z1, z2⟩
        all_goals
          clear hz
          go_enter Tryd.func25, Tryd.ntmps25
          go_wp2_with fail
          go_loopw [6] (fun i wr => ∃ j : Nat, j ≤ L.length ∧ i = .int .i64 j ∧ w = wr ∧ ∀ i, i < j → (L.getD i []).length ≤ 64) (fun i _ => L.length - (intOf i).toNat)
          case atStart => exact ⟨0, by omega, rfl, rfl, fun i hi => by omega⟩
          case round =>
            obtain ⟨j, hj, rfl, rfl, hp⟩ := hrel
            have HP := Lib.hid hp
            clear hp
            have hjl : j < L.length := by
              rcases Nat.lt_or_ge j L.length with h | h
              · exact h
              · exact absurd (Tx.fit_no HF.out (by omega) fun i hi => HP.out i (by omega)) not_false
            rcases HC.out with h | ⟨b, o, rfl, hlt, h⟩
            · exact absurd hjl (by rw [h.1]; simp)
            have hc1 := h j hjl
            unfold Tx.sv at hc1
            have hji : (j : Int) < (L.length : Int) := by omega
            have hj0 : (0 : Int) ≤ (j : Int) := by omega
            by_cases hsz : (64 : Int) < ((Ty.S (L.getD j [])).size : Int)
            · generalize Ty.S (L.getD j []) = s at hc1 hsz
              clear h
              go_wp2
              go_ret2
              exact ⟨rfl, Below.refl _ _⟩
            · have HJ : Hid ((L.getD j []).length ≤ 64) := Lib.hid (by rw [Ty.size_S] at hsz; omega)
              generalize Ty.S (L.getD j []) = s at hc1 hsz
              clear h
              go_wp2
              go_roundw
              case rel => exact ⟨j + 1, by omega, by simp, by simp, fun i hi => by
                by_cases e : i = j
                · rw [e]; exact HJ.out
                · exact HP.out i (by omega)⟩
              case measure => simp [intOf]; omega
    · obtain ⟨k, rfl⟩ := Int.eq_ofNat_of_zero_le hz.1
      have hy := Tx.fit_yes hf
      rw [Tx.withV_good (by omega) hf]
      exact Tx.rwith_good u L k (by omega) w hL hy.2 hy.1
  · rw [Tx.withV_bad hz]
    have z1 : (z != 0) = true := by rw [bne_iff_ne]; omega
    have z2 : (z != 1) = true := by rw [bne_iff_ne]; omega
    obtain ⟨a, c, rfl, hc, _, h⟩ := hL
    clear h hz
    go_enter Tryd.func25, Tryd.ntmps25
    go_wp2
    go_ret2
    exact ⟨rfl, Below.refl _ _⟩
/-- What Best chooses. -/
def Tx.bestK (L : List Tx.Str) : Nat := if (Tx.enc 1 L).length < (Tx.enc 0 L).length then 1 else 0
def Tx.bestV (L : List Tx.Str) : Value := if Tx.fit L = true then .tuple #[.string (Ty.S (Tx.enc (Tx.bestK L) L)), .int .i64 0] else .tuple #[.string (Ty.S []), .int .i64 3]
set_option maxHeartbeats 1000000 in
/-- BEST, as the document has it. -/
theorem Tx.rbest_c (u : Value) (L : List Tx.Str) (w : World) (hL : Tx.At w.heap.size w u L) (hl : L.length ≤ 140737488355328) :
    Calls Tryd.prog 27 #[u] w fun e w' => e = .returned (Tx.bestV L) ∧ Below w.heap.size w w' := by
  have c0 := Tx.rwith_c u L 0 w hL hl
  have c1 : ∀ wz, Below w.heap.size w wz → Calls Tryd.prog 25 #[u, .int .i64 1] wz fun e w' => e = .returned (Tx.withV L 1) ∧ Below w.heap.size w w' := fun wz g =>
    (Tx.rwith_c u L 1 wz ((hL.below g).mono g.size (Nat.le_refl _)) hl).mono fun e w' ⟨he, hg⟩ => ⟨he, g.trans (hg.mono g.size)⟩
  have e1 : (0 : Int) = ((0 : Nat) : Int) := rfl
  have e2 : (1 : Int) = ((1 : Nat) : Int) := rfl
  cases hf : Tx.fit L
  · rw [Tx.withV_long (by omega) hf] at c0
    have c1' := c1
    rw [Tx.withV_long (by omega) hf] at c1'
    have HV : Hid (Tx.bestV L = .tuple #[.string (Ty.S []), .int .i64 3]) := Lib.hid (by unfold Tx.bestV; rw [hf]; rfl)
    rw [HV.out]
    clear hf c1 e1 e2 hL hl
    go_enter Tryd.func27, Tryd.ntmps27
    go_wp2_with fail
    refine c0.mono ?_
    rintro e w1 ⟨rfl, g1⟩
    have G1 := Lib.hid g1
    have c2 := c1' w1 g1
    clear c0 c1' g1
    go_wp2_with fail
    refine c2.mono ?_
    rintro e w2 ⟨rfl, g2⟩
    go_wp2
    go_ret2
    exact ⟨rfl, g2⟩
  · have c0' := c0
    have c1' := c1
    have v0 : Tx.withV L 0 = .tuple #[.string (Ty.S (Tx.enc 0 L)), .int .i64 0] := Tx.withV_good (k := 0) (by omega) hf
    have v1 : Tx.withV L 1 = .tuple #[.string (Ty.S (Tx.enc 1 L)), .int .i64 0] := Tx.withV_good (k := 1) (by omega) hf
    rw [v0] at c0'
    rw [v1] at c1'
    have HV : Hid (Tx.bestV L = .tuple #[.string (Ty.S (Tx.enc (Tx.bestK L) L)), .int .i64 0]) := Lib.hid (by unfold Tx.bestV; rw [if_pos hf])
    rw [HV.out]
    clear hf c0 c1 v0 v1 e1 e2 hL hl
    have hb : (Tx.bestK L = 1 ∧ ((Ty.S (Tx.enc 1 L)).size : Int) < ((Ty.S (Tx.enc 0 L)).size : Int)) ∨ (Tx.bestK L = 0 ∧ ¬ ((Ty.S (Tx.enc 1 L)).size : Int) < ((Ty.S (Tx.enc 0 L)).size : Int)) := by
      unfold Tx.bestK
      rw [Ty.size_S, Ty.size_S]
      by_cases h : (Tx.enc 1 L).length < (Tx.enc 0 L).length
      · exact .inl ⟨by rw [if_pos h], by omega⟩
      · exact .inr ⟨by rw [if_neg h], by omega⟩
    rcases hb with ⟨hk, hlt⟩ | ⟨hk, hlt⟩
    all_goals
      rw [hk]
      generalize Ty.S (Tx.enc 0 L) = s0 at c0' hlt ⊢
      generalize Ty.S (Tx.enc 1 L) = s1 at c1' hlt ⊢
      clear hk
      go_enter Tryd.func27, Tryd.ntmps27
      go_wp2_with fail
      refine c0'.mono ?_
      rintro e w1 ⟨rfl, g1⟩
      have c2 := c1' w1 g1
      clear c0' c1' g1
      go_wp2_with fail
      refine c2.mono ?_
      rintro e w2 ⟨rfl, g2⟩
      clear c2
      go_wp2
      go_ret2
      exact ⟨rfl, g2⟩
end Go.Proofs.YtkgmildbhelelaaDoor
