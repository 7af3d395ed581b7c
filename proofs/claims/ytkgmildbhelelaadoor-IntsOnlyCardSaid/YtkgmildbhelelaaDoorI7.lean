/-
  Contracts of package ints: With.
-/
import Derived.Test.YtkgmildbhelelaaDoorI6
namespace Go.Proofs.YtkgmildbhelelaaDoor
open Go.RowKit
open Ig (nth encI encR grp diffs prv low off)
open Ty (encU)
/-- Which error With returns; which bytes. -/
def Ig.withE (L : List Int) (z : Int) : Nat := if 0 ≤ z ∧ z ≤ 3 then (if 65536 < L.length then 3 else 0) else 1
def Ig.withS (L : List Int) (z : Int) : List UInt8 := if Ig.withE L z = 0 then Ig.enc z.toNat L else []
/-- What With returns. -/
def Ig.withV (L : List Int) (z : Int) : Value := .tuple #[.string (Ty.S (Ig.withS L z)), .int .i64 ((Ig.withE L z : Nat) : Int)]
theorem Ig.withV_bad {L : List Int} {z : Int} (h : ¬ (0 ≤ z ∧ z ≤ 3)) : Ig.withV L z = .tuple #[.string (Ty.S []), .int .i64 1] := by
  have e : Ig.withE L z = 1 := by unfold Ig.withE; rw [if_neg h]
  unfold Ig.withV Ig.withS
  rw [e]; rfl
theorem Ig.withV_long {L : List Int} {z : Int} (h : 0 ≤ z ∧ z ≤ 3) (hl : 65536 < L.length) : Ig.withV L z = .tuple #[.string (Ty.S []), .int .i64 3] := by
  have e : Ig.withE L z = 3 := by unfold Ig.withE; rw [if_pos h, if_pos hl]
  unfold Ig.withV Ig.withS
  rw [e]; rfl
theorem Ig.withV_good {L : List Int} {k : Nat} (h : k ≤ 3) (hl : ¬ 65536 < L.length) : Ig.withV L (k : Int) = .tuple #[.string (Ty.S (Ig.enc k L)), .int .i64 0] := by
  have e : Ig.withE L (k : Int) = 0 := by unfold Ig.withE; rw [if_pos (by omega), if_neg hl]
  unfold Ig.withV Ig.withS
  rw [e]; rfl
theorem Ig.buf_one {base : Nat} {w : World} (k : Nat) (hk : k < 256) (hb : base ≤ w.heap.size) : Ty.Buf base (w.alloc (.cells #[.int .u8 (k : Int)] 5)) (.slice (some ⟨w.heap.size, 0, none⟩) 1 1) [UInt8.ofNat k] := by
  refine ⟨by simp, .inr ⟨w.heap.size, 1, _, rfl, hb, heap_alloc_new w _, Nat.le_refl _, by unfold maxLen; omega, by simp, ?_⟩⟩
  have := Ty.toNat_ofNat8 k hk
  simp [Ty.B, this]
set_option maxHeartbeats 2000000 in
set_option maxRecDepth 100000 in
theorem Ig.with_good (u : Value) (L : List Int) (k : Nat) (hk : k ≤ 3) (w : World) (hw : Ty.Tabs w) (hL : Ig.At w.heap.size w u L) (hi : ∀ x ∈ L, Ty.I64 x) (hl : L.length ≤ 65536) :
    Calls Tryd.prog 16 #[u, .int .i64 k] w fun e w' => e = .returned (.tuple #[.string (Ty.S (Ig.enc k L)), .int .i64 0]) ∧ Below w.heap.size w w' := by
  have hG := hw.two
  have HE : Hid (Ig.enc k L = [UInt8.ofNat k] ++ encU L.length ++ Ig.body k L) := Lib.hid (by unfold Ig.enc; simp)
  have HL := Lib.hid hL
  have HI := Lib.hid hi
  have hu : Ty.U64 ((L.length : Int)).toNat := by unfold Ty.U64; omega
  have h9 := Ty.encU_len9 L.length
  have H9 := Lib.hid h9
  have hn2 : ¬ (65536 : Int) < (L.length : Int) := by omega
  obtain ⟨a, c, rfl, hc, _, h⟩ := hL
  clear h hi h9
  rw [HE.out]
  rcases (by omega : k = 0 ∨ k = 1 ∨ k = 2 ∨ k = 3) with rfl | rfl | rfl | rfl
  all_goals
    go_enter Tryd.func16, Tryd.ntmps16
    go_wp2_with fail
    refine (Ig.coders_c _).mono ?_
    rintro e w1 ⟨rfl, hw1⟩
    have hb1 : Below w.heap.size w w1 := by rw [hw1]; exact (Below.refl _ _).alloc (Nat.le_refl _) _
    clear hw1
    have hT1 := hw.below hb1 hG
    have hs1 := hb1.size
    have cU := fun wz X h1 h2 h3 => Ty.uint_c w.heap.size (.slice (some ⟨w1.heap.size, 0, none⟩) 1 1) [X] (L.length : Int) (by omega) hu wz h1 h2 h3 (by simp)
    have hT2 : ∀ o, Ty.Tabs (w1.alloc o) := fun o => hT1.alloc o
    have hBf : ∀ K : Nat, K < 256 → Ty.Buf w.heap.size (w1.alloc (.cells #[.int .u8 (K : Int)] 5)) (.slice (some ⟨w1.heap.size, 0, none⟩) 1 1) [UInt8.ofNat K] := fun K hK => Ig.buf_one K hK hs1
    have HT2 := Lib.hid hT2
    have HBf := Lib.hid hBf
    have hab : ∀ o, Below w.heap.size w (w1.alloc o) := fun o => hb1.alloc hs1 o
    have HAB := Lib.hid hab
    have CU := Lib.hid cU
    have hsz : w.heap.size ≤ w1.heap.size + 1 := by omega
    clear cU hT2 hBf hab hT1 hu
    go_wp2_with fail
    first
      | refine (CU.out _ _ (HT2.out _) (HBf.out 0 (by decide)) (by simp; omega)).mono ?_
      | refine (CU.out _ _ (HT2.out _) (HBf.out 1 (by decide)) (by simp; omega)).mono ?_
      | refine (CU.out _ _ (HT2.out _) (HBf.out 2 (by decide)) (by simp; omega)).mono ?_
      | refine (CU.out _ _ (HT2.out _) (HBf.out 3 (by decide)) (by simp; omega)).mono ?_
    rintro e w2 ⟨v2, rfl, hB2, hG2⟩
    have hb2 := (HAB.out _).trans (hG2.below (B := w.heap.size) (by simp; omega) (by intro j hj; have : w1.heap.size = j := (by simpa [Value.ownBlock] using hj); omega))
    have hs2 := hb2.size
    have hT2 := hw.below hb2 hG
    have HB2 := Lib.hid hB2
    clear hB2 hG2 CU HT2 HBf HAB hb1
    go_wp2_with fail
    refine (Ig.coders_c _).mono ?_
    rintro e w3 ⟨rfl, hw3⟩
    have hb3 : Below w2.heap.size w2 w3 := by rw [hw3]; exact (Below.refl _ _).alloc (Nat.le_refl _) _
    have hcc : ∀ i v, (Ig.csA)[i]? = some v → w3.cell? ⟨w2.heap.size, i, none⟩ = some v := fun i v h => by rw [hw3]; exact Ig.cs_cell w2 i v h
    have hcd := Ig.cs_at hcc
    clear hw3 hcc
    go_wp2_with fail
    have hT3 := hT2.below hb3 (by omega)
    have hB3 := HB2.out.later hb3
    have hL3 := HL.out.below (hb2.trans (hb3.mono hs2))
    have hs3 : w.heap.size ≤ w3.heap.size := Nat.le_trans hs2 hb3.size
    have hln : ∀ K : UInt8, ([K] ++ encU ((L.length : Int)).toNat).length ≤ 100 := fun K => by
      have h1 := H9.out
      have e1 : ((L.length : Int)).toNat = L.length := Int.toNat_natCast _
      rw [e1, List.length_append, List.length_singleton]
      omega
    have HLN := Lib.hid hln
    have HB := Lib.hid (hb2.trans (hb3.mono hs2))
    have hown := hB3.base
    clear hcd hb3 hb2 hln
    first
      | refine (Ig.writePlain_c w.heap.size v2 _ _ L w3 hT3 hB3 hs3 hG hL3 HI.out (HLN.out _) hl).mono ?_
      | refine (Ig.writeDelta_c w.heap.size v2 _ _ L w3 hT3 hB3 hs3 hG hL3 HI.out (HLN.out _) hl).mono ?_
      | refine (Ig.writeRuns_c w.heap.size v2 _ _ L w3 hT3 hB3 hs3 hG hL3 HI.out (HLN.out _) hl).mono ?_
      | refine (Ig.writePacked_c w.heap.size v2 _ _ L w3 hT3 hB3 hs3 hG hL3 HI.out (HLN.out _) hl).mono ?_
    rintro e w4 ⟨v4, rfl, hB4, hG4⟩
    have hb4 := HB.out.trans (hG4.below hs3 hown)
    have hcv := hB4.str
    clear hB4 hG4 hB3 hL3 hown hT3 hT2
    go_wp2
    go_ret2
    exact ⟨by first | rfl | simp [Ig.body], hb4⟩
set_option maxHeartbeats 2000000 in
/-- WITH. -/
theorem Ig.with_c (u : Value) (L : List Int) (z : Int) (w : World) (hw : Ty.Tabs w) (hL : Ig.At w.heap.size w u L) (hi : ∀ x ∈ L, Ty.I64 x) (hl : L.length ≤ 140737488355328) :
    Calls Tryd.prog 16 #[u, .int .i64 z] w fun e w' => e = .returned (Ig.withV L z) ∧ Below w.heap.size w w' := by
  by_cases hz : 0 ≤ z ∧ z ≤ 3
  · by_cases hln : 65536 < L.length
    · rw [Ig.withV_long hz hln]
      obtain ⟨k, rfl⟩ := Int.eq_ofNat_of_zero_le hz.1
      have hk : k ≤ 3 := by omega
      have hli : (65536 : Int) < (L.length : Int) := by omega
      obtain ⟨a, c, rfl, hc, _, h⟩ := hL
      clear h hi hz hln
      rcases (by omega : k = 0 ∨ k = 1 ∨ k = 2 ∨ k = 3) with rfl | rfl | rfl | rfl
      all_goals
        go_enter Tryd.func16, Tryd.ntmps16
        go_wp2_with fail
        refine (Ig.coders_c _).mono ?_
        rintro e w1 ⟨rfl, hw1⟩
        have hb1 : Below w.heap.size w w1 := by rw [hw1]; exact (Below.refl _ _).alloc (Nat.le_refl _) _
        clear hw1
        go_wp2
        go_ret2
        exact ⟨rfl, hb1⟩
    · obtain ⟨k, rfl⟩ := Int.eq_ofNat_of_zero_le hz.1
      rw [Ig.withV_good (by omega) hln]
      exact Ig.with_good u L k (by omega) w hw hL hi (by omega)
  · rw [Ig.withV_bad hz]
    obtain ⟨a, c, rfl, hc, _, h⟩ := hL
    clear h hi
    by_cases h0 : z < 0
    · go_enter Tryd.func16, Tryd.ntmps16
      go_wp2
      go_ret2
      exact ⟨rfl, Below.refl _ _⟩
    · have h4 : (4 : Int) ≤ z := by omega
      clear hz
      go_enter Tryd.func16, Tryd.ntmps16
      go_wp2_with fail
      refine (Ig.coders_c _).mono ?_
      rintro e w1 ⟨rfl, hw1⟩
      have hb1 : Below w.heap.size w w1 := by rw [hw1]; exact (Below.refl _ _).alloc (Nat.le_refl _) _
      clear hw1
      go_wp2
      go_ret2
      exact ⟨rfl, hb1⟩
end Go.Proofs.YtkgmildbhelelaaDoor
