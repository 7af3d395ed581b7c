/-
  Contracts of package ints: the packed writer; With.
  Contracts of package ints: With.
  Contracts of package ints: Best.
-/
import Derived.Test.YtcognkgabdaneaaGreatDoorIA
import Derived.Test.YtcognkgabdaneaaGreatDoorPA
namespace Go.Proofs.YtcognkgabdaneaaGreatDoor
open Go.RowKit
open Ig (nth encI encR grp diffs prv low off)
open Ty (encU)
theorem Ig.At.bufs {B : Nat} {w : World} {v : Value} {L : List Int} (h : Ig.At B w v L) : Ig.At w.heap.size w v L := h.mono (by obtain ⟨_, _, _, _, hB, _⟩ := h; exact hB) (Nat.le_refl _)
theorem Ig.len_bytes (n : Nat) (F : Nat → Bool) : (Bt.bytes n F).data.toList.length = n := by
  rw [Bt.length_data, Bt.size_bytes]
set_option maxHeartbeats 2000000 in
set_option maxRecDepth 100000 in
theorem Ig.writePacked_c (base : Nat) (v : Value) (bs : List UInt8) (u : Value) (L : List Int) (w : World) (hw : Ty.Tabs w) (hown : Ty.Buf base w v bs) (hb : base ≤ w.heap.size) (hG : Ty.G ≤ base)
    (hL : Ig.At base w u L) (hi : ∀ x ∈ L, Ty.I64 x) (hlen : bs.length ≤ 100) (hl : L.length ≤ 65536) :
    Calls Tryz.prog 90 #[v, u] w (Ty.Written base w v (bs ++ Ig.encP L)) := by
  by_cases hne : 0 < L.length
  · have cM := Ig.min_c u L w hL.bufs hne hl
    have hLi := Ig.low_i64 hi hne
    have HW := Lib.hid (fun i (h : i < L.length) => Ig.off_wrap hi h)
    have HX := Lib.hid (Ig.off_lt L hi)
    have hEP : Ig.encP L = encI (low L) ++ Pk.enc L.length (off L) := by
      unfold Ig.encP
      rw [if_neg (by intro e; rw [e] at hne; simp at hne)]
      rfl
    have cP := fun v bs u w h1 h2 h3 h4 => Pk.append_c base v bs u L.length (off L) w h1 h2 h3 (Ig.off_lt L hi) hl h4
    rw [hEP]
    generalize Pk.enc L.length (off L) = E at cP ⊢
    have hmk := run_make_row' (P := Tryz.prog) 121 49 (.int .u64 0) 8 Tryz.underlying121 Bt.infoU rfl .i64 .i64 L.length (by omega) (by omega)
    have HL := Lib.hid hL
    have H0 := Lib.hid hown
    have HP := Lib.hid cP
    have hn0 : ((L.length : Int) == 0) = false := by rw [beq_eq_false_iff_ne]; omega
    have hn1 : (0 : Int) < (L.length : Int) := by omega
    have hn2 : (L.length : Int) ≤ 65536 := by omega
    obtain ⟨a, c, rfl, hc, _, h⟩ := hL
    clear hi hEP hown cP
    go_enter Tryz.func90, Tryz.ntmps90
    go_wp2_with fail
    refine cM.mono ?_
    rintro e w1 ⟨rfl, rfl⟩
    clear cM
    go_wp2_with fail
    have hR : (w1.alloc (.cells (madeCells #[.int .u64 0] L.length) 49)).rowIs w1.heap.size 49 L.length (Bt.upTo 0 (Bt.nv (off L)) (.int .u64 0)) := (World.rowIs_made w1 (.int .u64 0) L.length 49).congr fun i _ => by unfold Bt.upTo; rw [if_neg (by omega)]
    have hB : Below w1.heap.size w1 (w1.alloc (.cells (madeCells #[.int .u64 0] L.length) 49)) := (Below.refl _ _).alloc (Nat.le_refl _) _
    generalize w1.alloc (.cells (madeCells #[.int .u64 0] L.length) 49) = w2 at hR hB ⊢
    clear hmk hn0
    generalize hg : w1.heap.size = g at hR hB
    have HGE := Lib.hid hg
    clear hg
    go_loopw [20] (fun i wr => ∃ k : Nat, k ≤ L.length ∧ i = .int .i64 k ∧ wr.rowIs g 49 L.length (Bt.upTo k (Bt.nv (off L)) (.int .u64 0)) ∧ Below g w1 wr) (fun i _ => L.length - (intOf i).toNat)
    case atStart => exact ⟨0, by omega, rfl, hR, hB⟩
    case round =>
      obtain ⟨k, hk, rfl, hRk, hBk⟩ := hrel
      have HR := Lib.hid hRk
      clear hR hB hRk
      by_cases hl2 : k < L.length
      · rcases h with h | ⟨b, o, rfl, hlt, h⟩
        · exact absurd hl2 (by rw [h]; simp)
        · have hcell : wr.cell? ⟨b, o + k, none⟩ = some (.int .i64 (nth L k)) := (hBk.cell (p := ⟨b, o + k, none⟩) (show b < g by have := HGE.out; omega)).trans (h k hl2)
          have hkl : (k : Int) < (L.length : Int) := by omega
          have hk0 : (0 : Int) ≤ (k : Int) := by omega
          have hf := HR.out.frozen k
          have hcl := HR.out.cell hl2
          have HO := Lib.hid (HW.out k hl2)
          generalize nth L k = x at hcell HO
          generalize low L = y at HO ⊢
          clear h
          go_wp2
          go_roundw
          case rel => exact ⟨k + 1, by omega, by simp, Bt.upTo_next HR.out (by unfold Bt.nv; first | rw [HO.out] | rw [← HO.out]), hBk.trans (Bt.below_set (Nat.le_refl _) _)⟩
          case measure => simp [intOf]; omega
      · obtain rfl : k = L.length := by omega
        have hkl : ¬ (L.length : Int) < (L.length : Int) := by omega
        have hsl : Bt.Sl wr (.slice (some ⟨g, 0, none⟩) L.length L.length) L.length (Bt.nv (off L)) := Bt.Sl.row (HR.out.congr fun i hi => by unfold Bt.upTo; rw [if_pos hi])
        have hbw : Below w1.heap.size w1 wr := by rw [HGE.out]; exact hBk
        have hown2 := H0.out.later hbw
        have hbs := hbw.size
        have hT := hw.below hbw (by omega)
        have HB := Lib.hid hbw
        have HSL := Lib.hid hsl
        have ci := Ty.int_c base v bs (low L) hLi wr hT hown2 (by omega) (by omega)
        clear h hsl hBk hown2 hT hbw
        go_wp2_with fail
        refine ci.mono ?_
        rintro e w4 ⟨v4, rfl, hB4, hG4⟩
        have hbs4 := hG4.by_.size
        have h9 := Ig.len_encI (low L)
        have hs4 := Pk.sl_kept HSL.out (hG4.by_.block g HR.out.lt (fun e => by have := (H0.out.lt g e.symm).2; have := HGE.out; omega)) hG4.by_.size
        have ca := HP.out v4 _ _ w4 hB4 (by omega) hs4 (by rw [List.length_append]; unfold encI at h9; omega)
        have HG4 := Lib.hid hG4
        clear ci hB4 hG4 hs4 h9
        go_wp2_with fail
        refine ca.mono ?_
        rintro e w5 ⟨v5, rfl, hB5, hG5⟩
        have H5 := Lib.hid hB5
        have HG5 := Lib.hid hG5
        clear ca hB5 hG5
        go_wp2
        go_ret
        exact ⟨_, rfl, by have := H5.out; simpa [encI, Ig.encI] using this, (Ig.grew_below (Ty.Grew.refl _ _) HB.out).trans (HG4.out.trans HG5.out)⟩
  · have hM0 : L = [] := List.eq_nil_of_length_eq_zero (by omega)
    subst hM0
    obtain ⟨a, c, rfl, hc, _, h⟩ := hL
    clear h
    go_enter Tryz.func90, Tryz.ntmps90
    go_wp2
    go_ret
    exact ⟨_, rfl, by simpa [Ig.encP] using hown, Ty.Grew.refl _ _⟩
end Go.Proofs.YtcognkgabdaneaaGreatDoor

namespace Go.Proofs.YtcognkgabdaneaaGreatDoor
open Go.RowKit
open Ig (nth encI encR grp diffs prv low off)
open Ty (encU)
/-- Which error With returns; which bytes. -/
def Ig.withE (L : List Int) (z : Int) : Nat := if 0 ≤ z ∧ z ≤ 3 then (if 65536 < L.length then 3 else 0) else 1
def Ig.withS (L : List Int) (z : Int) : List UInt8 := if Ig.withE L z = 0 then Ig.enc z.toNat L else []
/-- What With returns. -/
def Ig.withV (L : List Int) (z : Int) : Value := .tuple #[.string (Ty.S (Ig.withS L z)), .int .i64 ((Ig.withE L z : Nat) : Int)]
theorem Ig.withV_bad {L : List Int} {z : Int} (h : ¬ (0 ≤ z ∧ z ≤ 3)) : Ig.withV L z = .tuple #[.string (Ty.S []), .int .i64 1] := by
  have e : Ig.withE L z = 1 := by unfold Ig.withE; rw [if_neg h]
  unfold Ig.withV Ig.withS
  rw [e]; rfl
theorem Ig.withV_long {L : List Int} {z : Int} (h : 0 ≤ z ∧ z ≤ 3) (hl : 65536 < L.length) : Ig.withV L z = .tuple #[.string (Ty.S []), .int .i64 3] := by
  have e : Ig.withE L z = 3 := by unfold Ig.withE; rw [if_pos h, if_pos hl]
  unfold Ig.withV Ig.withS
  rw [e]; rfl
theorem Ig.withV_good {L : List Int} {k : Nat} (h : k ≤ 3) (hl : ¬ 65536 < L.length) : Ig.withV L (k : Int) = .tuple #[.string (Ty.S (Ig.enc k L)), .int .i64 0] := by
  have e : Ig.withE L (k : Int) = 0 := by unfold Ig.withE; rw [if_pos (by omega), if_neg hl]
  unfold Ig.withV Ig.withS
  rw [e]; rfl
theorem Ig.buf_one {base : Nat} {w : World} (k : Nat) (hk : k < 256) (hb : base ≤ w.heap.size) : Ty.Buf base (w.alloc (.cells #[.int .u8 (k : Int)] 5)) (.slice (some ⟨w.heap.size, 0, none⟩) 1 1) [UInt8.ofNat k] := by
  refine ⟨by simp, .inr ⟨w.heap.size, 1, _, rfl, hb, heap_alloc_new w _, Nat.le_refl _, by unfold maxLen; omega, by simp, ?_⟩⟩
  have := Ty.toNat_ofNat8 k hk
  simp [Ty.B, this]
set_option maxHeartbeats 2000000 in
set_option maxRecDepth 100000 in
theorem Ig.with_good (u : Value) (L : List Int) (k : Nat) (hk : k ≤ 3) (w : World) (hw : Ty.Tabs w) (hL : Ig.At w.heap.size w u L) (hi : ∀ x ∈ L, Ty.I64 x) (hl : L.length ≤ 65536) :
    Calls Tryz.prog 59 #[u, .int .i64 k] w fun e w' => e = .returned (.tuple #[.string (Ty.S (Ig.enc k L)), .int .i64 0]) ∧ Below w.heap.size w w' := by
  have hG := hw.two
  have HE : Hid (Ig.enc k L = [UInt8.ofNat k] ++ encU L.length ++ Ig.body k L) := Lib.hid (by unfold Ig.enc; simp)
  have HL := Lib.hid hL
  have HI := Lib.hid hi
  have hu : Ty.U64 ((L.length : Int)).toNat := by unfold Ty.U64; omega
  have h9 := Ty.encU_len9 L.length
  have H9 := Lib.hid h9
  have hn2 : ¬ (65536 : Int) < (L.length : Int) := by omega
  obtain ⟨a, c, rfl, hc, _, h⟩ := hL
  clear h hi h9
  rw [HE.out]
  rcases (by omega : k = 0 ∨ k = 1 ∨ k = 2 ∨ k = 3) with rfl | rfl | rfl | rfl
  all_goals
    go_enter Tryz.func59, Tryz.ntmps59
    go_wp2_with fail
    refine (Ig.coders_c _).mono ?_
    rintro e w1 ⟨rfl, hw1⟩
    have hb1 : Below w.heap.size w w1 := by rw [hw1]; exact (Below.refl _ _).alloc (Nat.le_refl _) _
    clear hw1
    have hT1 := hw.below hb1 hG
    have hs1 := hb1.size
    have cU := fun wz X h1 h2 h3 => Ty.uint_c w.heap.size (.slice (some ⟨w1.heap.size, 0, none⟩) 1 1) [X] (L.length : Int) (by omega) hu wz h1 h2 h3 (by simp)
    have hT2 : ∀ o, Ty.Tabs (w1.alloc o) := fun o => hT1.alloc o
    have hBf : ∀ K : Nat, K < 256 → Ty.Buf w.heap.size (w1.alloc (.cells #[.int .u8 (K : Int)] 5)) (.slice (some ⟨w1.heap.size, 0, none⟩) 1 1) [UInt8.ofNat K] := fun K hK => Ig.buf_one K hK hs1
    have HT2 := Lib.hid hT2
    have HBf := Lib.hid hBf
    have hab : ∀ o, Below w.heap.size w (w1.alloc o) := fun o => hb1.alloc hs1 o
    have HAB := Lib.hid hab
    have CU := Lib.hid cU
    have hsz : w.heap.size ≤ w1.heap.size + 1 := by omega
    clear cU hT2 hBf hab hT1 hu
    go_wp2_with fail
    first
      | refine (CU.out _ _ (HT2.out _) (HBf.out 0 (by decide)) (by simp; omega)).mono ?_
      | refine (CU.out _ _ (HT2.out _) (HBf.out 1 (by decide)) (by simp; omega)).mono ?_
      | refine (CU.out _ _ (HT2.out _) (HBf.out 2 (by decide)) (by simp; omega)).mono ?_
      | refine (CU.out _ _ (HT2.out _) (HBf.out 3 (by decide)) (by simp; omega)).mono ?_
    rintro e w2 ⟨v2, rfl, hB2, hG2⟩
    have hb2 := (HAB.out _).trans (hG2.below (B := w.heap.size) (by simp; omega) (by intro j hj; have : w1.heap.size = j := (by simpa [Value.ownBlock] using hj); omega))
    have hs2 := hb2.size
    have hT2 := hw.below hb2 hG
    have HB2 := Lib.hid hB2
    clear hB2 hG2 CU HT2 HBf HAB hb1
    go_wp2_with fail
    refine (Ig.coders_c _).mono ?_
    rintro e w3 ⟨rfl, hw3⟩
    have hb3 : Below w2.heap.size w2 w3 := by rw [hw3]; exact (Below.refl _ _).alloc (Nat.le_refl _) _
    have hcc : ∀ i v, (Ig.csA)[i]? = some v → w3.cell? ⟨w2.heap.size, i, none⟩ = some v := fun i v h => by rw [hw3]; exact Ig.cs_cell w2 i v h
    have hcd := Ig.cs_at hcc
    clear hw3 hcc
    go_wp2_with fail
    have hT3 := hT2.below hb3 (by omega)
    have hB3 := HB2.out.later hb3
    have hL3 := HL.out.below (hb2.trans (hb3.mono hs2))
    have hs3 : w.heap.size ≤ w3.heap.size := Nat.le_trans hs2 hb3.size
    have hln : ∀ K : UInt8, ([K] ++ encU ((L.length : Int)).toNat).length ≤ 100 := fun K => by
      have h1 := H9.out
      have e1 : ((L.length : Int)).toNat = L.length := Int.toNat_natCast _
      rw [e1, List.length_append, List.length_singleton]
      omega
    have HLN := Lib.hid hln
    have HB := Lib.hid (hb2.trans (hb3.mono hs2))
    have hown := hB3.base
    clear hcd hb3 hb2 hln
    first
      | refine (Ig.writePlain_c w.heap.size v2 _ _ L w3 hT3 hB3 hs3 hG hL3 HI.out (HLN.out _) hl).mono ?_
      | refine (Ig.writeDelta_c w.heap.size v2 _ _ L w3 hT3 hB3 hs3 hG hL3 HI.out (HLN.out _) hl).mono ?_
      | refine (Ig.writeRuns_c w.heap.size v2 _ _ L w3 hT3 hB3 hs3 hG hL3 HI.out (HLN.out _) hl).mono ?_
      | refine (Ig.writePacked_c w.heap.size v2 _ _ L w3 hT3 hB3 hs3 hG hL3 HI.out (HLN.out _) hl).mono ?_
    rintro e w4 ⟨v4, rfl, hB4, hG4⟩
    have hb4 := HB.out.trans (hG4.below hs3 hown)
    have hcv := hB4.str
    clear hB4 hG4 hB3 hL3 hown hT3 hT2
    go_wp2
    go_ret2
    exact ⟨by first | rfl | simp [Ig.body], hb4⟩
set_option maxHeartbeats 2000000 in
/-- WITH. -/
theorem Ig.with_c (u : Value) (L : List Int) (z : Int) (w : World) (hw : Ty.Tabs w) (hL : Ig.At w.heap.size w u L) (hi : ∀ x ∈ L, Ty.I64 x) (hl : L.length ≤ 140737488355328) :
    Calls Tryz.prog 59 #[u, .int .i64 z] w fun e w' => e = .returned (Ig.withV L z) ∧ Below w.heap.size w w' := by
  by_cases hz : 0 ≤ z ∧ z ≤ 3
  · by_cases hln : 65536 < L.length
    · rw [Ig.withV_long hz hln]
      obtain ⟨k, rfl⟩ := Int.eq_ofNat_of_zero_le hz.1
      have hk : k ≤ 3 := by omega
      have hli : (65536 : Int) < (L.length : Int) := by omega
      obtain ⟨a, c, rfl, hc, _, h⟩ := hL
      clear h hi hz hln
      rcases (by omega : k = 0 ∨ k = 1 ∨ k = 2 ∨ k = 3) with rfl | rfl | rfl | rfl
      all_goals
        go_enter Tryz.func59, Tryz.ntmps59
        go_wp2_with fail
        refine (Ig.coders_c _).mono ?_
        rintro e w1 ⟨rfl, hw1⟩
        have hb1 : Below w.heap.size w w1 := by rw [hw1]; exact (Below.refl _ _).alloc (Nat.le_refl _) _
        clear hw1
        go_wp2
        go_ret2
        exact ⟨rfl, hb1⟩
    · obtain ⟨k, rfl⟩ := Int.eq_ofNat_of_zero_le hz.1
      rw [Ig.withV_good (by omega) hln]
      exact Ig.with_good u L k (by omega) w hw hL hi (by omega)
  · rw [Ig.withV_bad hz]
    obtain ⟨a, c, rfl, hc, _, h⟩ := hL
    clear h hi
    by_cases h0 : z < 0
    · go_enter Tryz.func59, Tryz.ntmps59
      go_wp2
      go_ret2
      exact ⟨rfl, Below.refl _ _⟩
    · have h4 : (4 : Int) ≤ z := by omega
      clear hz
      go_enter Tryz.func59, Tryz.ntmps59
      go_wp2_with fail
      refine (Ig.coders_c _).mono ?_
      rintro e w1 ⟨rfl, hw1⟩
      have hb1 : Below w.heap.size w w1 := by rw [hw1]; exact (Below.refl _ _).alloc (Nat.le_refl _) _
      clear hw1
      go_wp2
      go_ret2
      exact ⟨rfl, hb1⟩
end Go.Proofs.YtcognkgabdaneaaGreatDoor

namespace Go.Proofs.YtcognkgabdaneaaGreatDoor
open Go.RowKit
/-- The shortest encoding's codec among the first ones. -/
def Ig.bk (L : List Int) : Nat → Nat
  | 0 => 0
  | k + 1 => if (Ig.enc (k + 1) L).length < (Ig.enc (Ig.bk L k) L).length then k + 1 else Ig.bk L k
theorem Ig.bk_le (L : List Int) : ∀ k, Ig.bk L k ≤ k
  | 0 => Nat.le_refl _
  | k + 1 => by
    have := Ig.bk_le L k
    unfold Ig.bk
    split <;> omega
theorem Ig.bk_least (L : List Int) : ∀ k j, j ≤ k → (Ig.enc (Ig.bk L k) L).length ≤ (Ig.enc j L).length
  | 0, j, h => by
    obtain rfl : j = 0 := by omega
    exact Nat.le_refl _
  | k + 1, j, h => by
    have ih := Ig.bk_least L k
    unfold Ig.bk
    split
    · rename_i hlt
      rcases Nat.lt_or_ge j (k + 1) with hj | hj
      · have := ih j (by omega); omega
      · obtain rfl : j = k + 1 := by omega
        exact Nat.le_refl _
    · rename_i hlt
      rcases Nat.lt_or_ge j (k + 1) with hj | hj
      · exact ih j (by omega)
      · obtain rfl : j = k + 1 := by omega
        omega
/-- What Best returns. -/
def Ig.bestE (L : List Int) : Nat := if 65536 < L.length then 3 else 0
def Ig.bestS (L : List Int) : List UInt8 := if 65536 < L.length then [] else Ig.enc (Ig.bk L 3) L
def Ig.bestV (L : List Int) : Value := .tuple #[.string (Ty.S (Ig.bestS L)), .int .i64 ((Ig.bestE L : Nat) : Int)]
theorem Ig.bestV_long {L : List Int} (h : 65536 < L.length) : Ig.bestV L = .tuple #[.string (Ty.S []), .int .i64 3] := by unfold Ig.bestV Ig.bestE Ig.bestS; rw [if_pos h, if_pos h]; rfl
theorem Ig.bestV_good {L : List Int} (h : ¬ 65536 < L.length) : Ig.bestV L = .tuple #[.string (Ty.S (Ig.enc (Ig.bk L 3) L)), .int .i64 0] := by unfold Ig.bestV Ig.bestE Ig.bestS; rw [if_neg h, if_neg h]; rfl
set_option maxHeartbeats 2000000 in
theorem Ig.best_c (u : Value) (L : List Int) (w : World) (hw : Ty.Tabs w) (hL : Ig.At w.heap.size w u L) (hi : ∀ x ∈ L, Ty.I64 x) (hl : L.length ≤ 140737488355328) :
    Calls Tryz.prog 40 #[u] w fun e w' => e = .returned (Ig.bestV L) ∧ Below w.heap.size w w' := by
  have hG := hw.two
  by_cases hln : 65536 < L.length
  · have c0 := Ig.with_c u L 0 w hw hL hi hl
    rw [Ig.withV_long (by omega) hln] at c0
    rw [Ig.bestV_long hln]
    clear hln hi hl
    obtain ⟨a, c, rfl, hc, _, h⟩ := hL
    clear h
    go_enter Tryz.func40, Tryz.ntmps40
    go_wp2_with fail
    refine c0.mono ?_
    rintro e w1 ⟨rfl, hb1⟩
    go_wp2
    go_ret2
    exact ⟨rfl, hb1⟩
  · rw [Ig.bestV_good hln]
    have cw : Hid (∀ k : Nat, k ≤ 3 → ∀ wz, Below w.heap.size w wz → Calls Tryz.prog 59 #[u, .int .i64 (k : Int)] wz fun e w' => e = .returned (.tuple #[.string (Ty.S (Ig.enc k L)), .int .i64 0]) ∧ Below w.heap.size w w') := Lib.hid fun k hk wz hb => by
      have := Ig.with_c u L (k : Int) wz (hw.below hb hG) (hL.below hb).bufs hi hl
      rw [Ig.withV_good hk hln] at this
      exact this.mono fun e w' ⟨he, hg⟩ => ⟨he, hb.trans (hg.mono hb.size)⟩
    have c0 := cw.out 0 (by decide) w (Below.refl _ _)
    obtain ⟨a, c, rfl, hc, _, h⟩ := hL
    clear h hi hl hln
    have e0 : ((0 : Nat) : Int) = 0 := rfl
    rw [e0] at c0
    clear e0
    go_enter Tryz.func40, Tryz.ntmps40
    go_wp2_with fail
    refine c0.mono ?_
    rintro e w1 ⟨rfl, hb1⟩
    clear c0
    go_wp2
    go_loopw [4, 6] (fun s i wr => ∃ k : Nat, 1 ≤ k ∧ k ≤ 4 ∧ i = .int .i64 k ∧ s = .string (Ty.S (Ig.enc (Ig.bk L (k - 1)) L)) ∧ Below w.heap.size w wr) (fun _ i _ => 4 - (intOf i).toNat)
    case atStart => exact ⟨1, by omega, by omega, rfl, rfl, hb1⟩
    case round =>
      obtain ⟨k, hk1, hk, rfl, rfl, hb⟩ := hrel
      clear hb1
      have hs := hb.size
      by_cases hk4 : k < 4
      · have hki : (k : Int) < 4 := by omega
        have hk0 : (0 : Int) ≤ (k : Int) := by omega
        have HBK : Hid (Ig.bk L k = if (Ig.enc k L).length < (Ig.enc (Ig.bk L (k - 1)) L).length then k else Ig.bk L (k - 1)) := Lib.hid (by
          obtain ⟨j, rfl⟩ : ∃ j, k = j + 1 := ⟨k - 1, by omega⟩
          rfl)
        obtain ⟨s0, es0⟩ : ∃ s0, s0 = Ty.S (Ig.enc (Ig.bk L (k - 1)) L) := ⟨_, rfl⟩
        obtain ⟨s1, es1⟩ : ∃ s1, s1 = Ty.S (Ig.enc k L) := ⟨_, rfl⟩
        have HN : Hid (s1.size < s0.size → Ty.S (Ig.enc (Ig.bk L k) L) = s1) := Lib.hid (fun h => by
          rw [es0, es1, Ty.size_S, Ty.size_S] at h
          rw [es1, HBK.out, if_pos h])
        have HM : Hid (¬ s1.size < s0.size → Ty.S (Ig.enc (Ig.bk L k) L) = s0) := Lib.hid (fun h => by
          rw [es0, es1, Ty.size_S, Ty.size_S] at h
          rw [es0, HBK.out, if_neg h])
        have c1 := cw.out k (by omega)
        rw [← es1] at c1
        rw [← es0]
        have HC := Lib.hid c1
        clear c1 es0 es1
        by_cases hlt : (s1.size : Int) < (s0.size : Int)
        all_goals
          go_wp2_with fail
          refine (Ig.coders_c _).mono ?_
          rintro e w2 ⟨rfl, hw2⟩
          have hb2 : Below w.heap.size w w2 := by rw [hw2]; exact hb.alloc hs _
          clear hw2
          have c2 := HC.out _ hb2
          go_wp2_with fail
          refine c2.mono ?_
          rintro e w3 ⟨rfl, hb3⟩
          clear c2
          go_wp2
          go_roundw
          case rel => exact ⟨k + 1, by omega, by omega, by simp, by first | rw [show k + 1 - 1 = k by omega, HN.out (by omega)] | rw [show k + 1 - 1 = k by omega, HM.out (by omega)], hb3⟩
          case measure => simp [intOf]; omega
      · obtain rfl : k = 4 := by omega
        go_wp2_with fail
        refine (Ig.coders_c _).mono ?_
        rintro e w2 ⟨rfl, hw2⟩
        have hb2 : Below w.heap.size w w2 := by rw [hw2]; exact hb.alloc hs _
        clear hw2
        go_wp2
        go_ret2
        exact ⟨rfl, hb2⟩
end Go.Proofs.YtcognkgabdaneaaGreatDoor
