/-
  The laws of package ints: that it lives; IntsWith, IntsRead.
  The laws of package ints: IntsBest, IntsOnly, IntsBack, IntsSame.
  The law of package ints IntsOnly.
  The law of package ints IntsSame.
-/
import Derived.Test.YtkgmildbhelelaaDoorJ8
namespace Go.Proofs.YtkgmildbhelelaaDoor
open Go.RowKit
open Ig (nth rd)
theorem Ig.with777 : Ig.withV [7, 7, 7] 2 = .tuple #[.string ⟨#[2, 3, 3, 14]⟩, .int .i64 0] := by kernel_rfl
theorem Ig.rd777 : rd [2, 3, 3, 14] = (0, [7, 7, 7]) := by kernel_rfl
theorem Ig.new777 (w : World) : Ig.At (w.heap.size + 1) (w.alloc (.cells #[.int .i64 7, .int .i64 7, .int .i64 7] 2)) (.slice (some ⟨w.heap.size, 0, none⟩) 3 3) [7, 7, 7] := by
  refine ⟨_, 3, rfl, Nat.le_refl _, by simp, .inr ⟨w.heap.size, 0, rfl, by omega, fun i hi => ?_⟩⟩
  have hn : (w.alloc (.cells #[.int .i64 7, .int .i64 7, .int .i64 7] 2)).heap[w.heap.size]? = some (.cells #[.int .i64 7, .int .i64 7, .int .i64 7] 2 (0, 0)) := Go.Deep.blk_alloc_new _ _
  have hi2 : i = 0 ∨ i = 1 ∨ i = 2 := by simp at hi; omega
  rcases hi2 with rfl | rfl | rfl
  · unfold World.cell?; simp only [hn]; rfl
  · unfold World.cell?; simp only [hn]; rfl
  · unfold World.cell?; simp only [hn]; rfl
theorem Ig.at_get {B : Nat} {w : World} {v : Value} {L : List Int} (h : Ig.At B w v L) (hne : 0 < L.length) : ∃ b o c, v = .slice (some ⟨b, o, none⟩) L.length c ∧ ∀ i, i < L.length → w.cell? ⟨b, o + i, none⟩ = some (.int .i64 (nth L i)) := by
  obtain ⟨a, c, rfl, _, _, h⟩ := h
  rcases h with h | ⟨b, o, rfl, _, h⟩
  · rw [h] at hne; simp at hne
  · exact ⟨b, o, c, rfl, h⟩
set_option maxHeartbeats 1000000 in
theorem Ig.lives_c (w : World) (hw : Ty.Tabs w) :
    Calls Tryd.prog 15 #[] w fun e w' => e = .returned (.bool true) ∧ Below w.heap.size w w' := by
  have hG := hw.two
  have hA := Ig.new777 w
  have g0 : Below w.heap.size w (w.alloc (.cells #[.int .i64 7, .int .i64 7, .int .i64 7] 2)) := (Below.refl _ _).alloc (Nat.le_refl _) _
  have c1 := Ig.with_c _ [7, 7, 7] 2 _ (hw.below g0 hG) hA.bufs (by intro x hx; simp at hx; subst hx; unfold Ty.I64; omega) (by simp)
  rw [Ig.with777] at c1
  have c2 := fun w hT => Ig.read_c ⟨#[2, 3, 3, 14]⟩ w hT (by decide)
  have e0 : (⟨#[2, 3, 3, 14]⟩ : ByteArray).data.toList = [2, 3, 3, 14] := rfl
  rw [e0, Ig.rd777] at c2
  clear hA e0
  go_enter Tryd.func15, Tryd.ntmps15
  go_wp2_with fail
  refine c1.mono ?_
  rintro e w1 ⟨rfl, g1⟩
  have hb1 := g0.trans (g1.mono g0.size)
  have c3 := c2 _ (hw.below hb1 hG)
  clear g0 g1 c1 c2
  go_wp2_with fail
  refine c3.mono ?_
  rintro e w2 ⟨v, rfl, hS2, g2⟩
  have hb2 := hb1.trans (g2.mono hb1.size)
  obtain ⟨b, o, c, rfl, h⟩ := Ig.at_get hS2 (by simp)
  have hc := h 2 (by simp)
  have e7 : nth [7, 7, 7] 2 = 7 := rfl
  have el : ([7, 7, 7] : List Int).length = 3 := rfl
  rw [e7] at hc
  simp only [el, Int.natCast_zero]
  clear h c3 hb1 g2 hS2 e7 el
  go_wp2
  go_ret
  exact ⟨rfl, hb2⟩
theorem Ig.withV_form (L : List Int) (z : Int) : ∃ (S : ByteArray) (E : Int), Ig.withV L z = .tuple #[.string S, .int .i64 E] := ⟨_, _, rfl⟩
set_option maxHeartbeats 1000000 in
theorem Ig.lawWith_w (v : Value) (L : List Int) (z : Int) (w : World) (hw : Ty.Tabs w) (hL : Ig.At w.heap.size w v L) (hi : ∀ x ∈ L, Ty.I64 x) (hl : L.length ≤ 140737488355328) :
    Calls Tryd.prog 3 #[v, .int .i64 z] w fun e w' => e = .returned (.bool true) ∧ Below w.heap.size w w' := by
  have hG := hw.two
  have c1 := fun wz hT h => Ig.with_c v L z wz hT h hi hl
  have c2 := fun wz h => Ig.rwith_c v L z wz h hi hl
  obtain ⟨S, E, hE⟩ := Ig.withV_form L z
  rw [hE] at c1 c2
  have HL := Lib.hid hL
  clear hE hi hl hL
  go_enter Tryd.func3, Tryd.ntmps3
  go_wp2_with fail
  refine (Ig.lives_c _ hw).mono ?_
  rintro e w1 ⟨rfl, hb1⟩
  have d1 := c1 _ (hw.below hb1 hG) (HL.out.below hb1).bufs
  clear c1
  go_wp2_with fail
  refine d1.mono ?_
  rintro e w2 ⟨rfl, g2⟩
  have hb2 := hb1.trans (g2.mono hb1.size)
  have d2 := c2 _ (HL.out.below hb2).bufs
  clear d1 c2 hb1 g2
  go_wp2_with fail
  refine d2.mono ?_
  rintro e w3 ⟨rfl, g3⟩
  have hb3 := hb2.trans (g3.mono hb2.size)
  clear d2 hb2 g3
  go_wp2
  go_ret
  exact ⟨rfl, hb3⟩
theorem Ig.rd_len (l : List UInt8) : (rd l).2.length ≤ 65536 := by
  by_cases h : (rd l).1 = 0
  · obtain ⟨b, r, _, _, _, h, _⟩ := Ig.enc_rd l h
    exact h
  · have : (rd l).2 = [] := by
      unfold rd at h ⊢
      cases l with
      | nil => rfl
      | cons b r =>
        simp only at h ⊢
        split
        · rfl
        · split
          · rfl
          · split
            · rfl
            · split
              · rfl
              · split
                · rfl
                · rename_i a1 a2 a3 a4 a5
                  rw [if_neg a1, if_neg a2, if_neg a3, if_neg a4, if_neg a5] at h
                  exact absurd rfl h
    rw [this]; simp
theorem Ig.rd_bad {l : List UInt8} (h : (rd l).1 ≠ 0) : (rd l).2 = [] := by
  unfold rd at h ⊢
  cases l with
  | nil => rfl
  | cons b r =>
    simp only at h ⊢
    split
    · rfl
    · split
      · rfl
      · split
        · rfl
        · split
          · rfl
          · split
            · rfl
            · rename_i a1 a2 a3 a4 a5
              rw [if_neg a1, if_neg a2, if_neg a3, if_neg a4, if_neg a5] at h
              exact absurd rfl h
set_option maxHeartbeats 1000000 in
theorem Ig.lawRead_w (s : ByteArray) (w : World) (hw : Ty.Tabs w) (hs : s.size ≤ 140737488351232) :
    Calls Tryd.prog 5 #[.string s] w fun e w' => e = .returned (.bool true) ∧ Below w.heap.size w w' := by
  have hG := hw.two
  have c1 := fun wz hT => Ig.read_c s wz hT (by omega)
  have c2 := fun wz => Ig.rread_c s wz hs
  have hlen := Ig.rd_len s.data.toList
  generalize rd s.data.toList = t at c1 c2 hlen
  obtain ⟨E, L⟩ := t
  simp only at hlen
  have HLN := Lib.hid hlen
  clear hlen hs
  go_enter Tryd.func5, Tryd.ntmps5
  go_wp2_with fail
  refine (Ig.lives_c _ hw).mono ?_
  rintro e w1 ⟨rfl, hb1⟩
  have d1 := c1 _ (hw.below hb1 hG)
  clear c1
  go_wp2_with fail
  refine d1.mono ?_
  rintro e w2 ⟨v2, rfl, hA2, g2⟩
  have hb2 := hb1.trans (g2.mono hb1.size)
  have HA2 := Lib.hid hA2
  clear d1 hb1 g2 hA2
  go_wp2_with fail
  refine (c2 _).mono ?_
  rintro e w3 ⟨v3, rfl, hA3, g3⟩
  have hb3 := hb2.trans (g3.mono hb2.size)
  have c4 := Ig.same_c v2 v3 L _ (HA2.out.below g3).bufs hA3 (by have := HLN.out; omega)
  have H3 := Lib.hid hb3
  have hs3 := hb3.size
  clear c2 hb2 g3 hA3 hb3 HA2
  simp only at c4 ⊢
  go_wp2_with fail
  refine c4.mono ?_
  rintro e w4 ⟨rfl, g4⟩
  have hb4 := H3.out.trans (g4.mono hs3)
  clear c4 g4
  go_wp2
  go_ret
  exact ⟨rfl, hb4⟩
end Go.Proofs.YtkgmildbhelelaaDoor

namespace Go.Proofs.YtkgmildbhelelaaDoor
open Go.RowKit
open Ig (nth rd encI encR grp)
open Ty (encU)
theorem Ig.bestV_form (L : List Int) : ∃ (S : ByteArray) (E : Int), Ig.bestV L = .tuple #[.string S, .int .i64 E] ∧ ∀ k : Nat, k ≤ 3 → ∃ (S2 : ByteArray) (E2 : Int), Ig.withV L (k : Int) = .tuple #[.string S2, .int .i64 E2] ∧ ((E2 == 0) = false ∨ ((E2 == 0) = true ∧ ¬ (S2.size : Int) < (S.size : Int))) := by
  refine ⟨_, _, rfl, fun k hk => ⟨_, _, rfl, ?_⟩⟩
  by_cases h : 65536 < L.length
  · left
    have e : Ig.withE L (k : Int) = 3 := by unfold Ig.withE; rw [if_pos (by omega), if_pos h]
    rw [e]; rfl
  · right
    have e : Ig.withE L (k : Int) = 0 := by unfold Ig.withE; rw [if_pos (by omega), if_neg h]
    have hl := Ig.bk_least L 3 k hk
    refine ⟨by rw [e]; rfl, ?_⟩
    unfold Ig.withS Ig.bestS
    rw [if_pos e, if_neg h, Ty.size_S, Ty.size_S, Int.toNat_natCast]
    omega
set_option maxHeartbeats 2000000 in
theorem Ig.lawBest_w (v : Value) (L : List Int) (w : World) (hw : Ty.Tabs w) (hL : Ig.At w.heap.size w v L) (hi : ∀ x ∈ L, Ty.I64 x) (hl : L.length ≤ 140737488355328) :
    Calls Tryd.prog 4 #[v] w fun e w' => e = .returned (.bool true) ∧ Below w.heap.size w w' := by
  have hG := hw.two
  have c1 := fun wz hT h => Ig.best_c v L wz hT h hi hl
  have c2 := fun wz h => Ig.rbest_c v L wz h hi hl
  have c3 := Lib.hid (fun (z : Int) wz hT h => Ig.with_c v L z wz hT h hi hl)
  obtain ⟨S, E, hE, hF⟩ := Ig.bestV_form L
  rw [hE] at c1 c2
  have HF := Lib.hid hF
  have HL := Lib.hid hL
  clear hE hi hl hL hF
  go_enter Tryd.func4, Tryd.ntmps4
  go_wp2_with fail
  refine (Ig.lives_c _ hw).mono ?_
  rintro e w1 ⟨rfl, hb1⟩
  have d1 := c1 _ (hw.below hb1 hG) (HL.out.below hb1).bufs
  clear c1
  go_wp2_with fail
  refine d1.mono ?_
  rintro e w2 ⟨rfl, g2⟩
  have hb2 := hb1.trans (g2.mono hb1.size)
  have d2 := c2 _ (HL.out.below hb2).bufs
  clear d1 c2 hb1 g2
  go_wp2_with fail
  refine d2.mono ?_
  rintro e w3 ⟨rfl, g3⟩
  have hb3 := hb2.trans (g3.mono hb2.size)
  clear d2 hb2 g3
  go_wp2
  go_loopw [7] (fun i wr => ∃ k : Nat, k ≤ 4 ∧ i = .int .i64 k ∧ Below w.heap.size w wr) (fun i _ => 4 - (intOf i).toNat)
  case atStart => exact ⟨0, by omega, rfl, hb3⟩
  case round =>
    obtain ⟨k, hk, rfl, hb⟩ := hrel
    clear hb3
    by_cases hk4 : k < 4
    · have hki : (k : Int) < 4 := by omega
      have hk0 : (0 : Int) ≤ (k : Int) := by omega
      obtain ⟨S2, E2, hW, hcs⟩ := HF.out k (by omega)
      have d3 := c3.out (k : Int) _ (hw.below hb hG) (HL.out.below hb).bufs
      rw [hW] at d3
      have hs := hb.size
      clear hW
      rcases hcs with hcs | ⟨hcs, hsz⟩
      all_goals
        go_wp2_with fail
        refine d3.mono ?_
        rintro e w4 ⟨rfl, g4⟩
        have hb4 := hb.trans (g4.mono hs)
        clear d3 g4
        go_wp2
        go_roundw
        case rel => exact ⟨k + 1, by omega, by simp, hb4⟩
        case measure => simp [intOf]; omega
    · obtain rfl : k = 4 := by omega
      go_wp2
      go_ret
      exact ⟨rfl, hb⟩
theorem Ig.len_body (k : Nat) {L : List Int} (hi : ∀ x ∈ L, Ty.I64 x) (hl : L.length ≤ 65536) : (Ig.body k L).length ≤ 1179648 := by
  unfold Ig.body
  split
  · have := Ig.len_flat L; omega
  · split
    · have := Ig.len_flat (Ig.diffs 0 L)
      rw [Ig.diffs_len] at this
      omega
    · split
      · have := Ig.len_runs L; omega
      · have := Ig.len_encP hi hl; omega
theorem Ig.len_enc (k : Nat) {L : List Int} (hi : ∀ x ∈ L, Ty.I64 x) (hl : L.length ≤ 65536) : (Ig.enc k L).length ≤ 1200000 := by
  have h1 := Ig.len_body k hi hl
  have h2 := Ty.encU_len9 L.length
  unfold Ig.enc
  rw [List.length_cons, List.length_append]
  omega
set_option maxHeartbeats 2000000 in
theorem Ig.lawBack_w (v : Value) (L : List Int) (w : World) (hw : Ty.Tabs w) (hL : Ig.At w.heap.size w v L) (hi : ∀ x ∈ L, Ty.I64 x) (hl : L.length ≤ 140737488355328) :
    Calls Tryd.prog 6 #[v] w fun e w' => e = .returned (.bool true) ∧ Below w.heap.size w w' := by
  have hG := hw.two
  have c1 := fun wz hT h => Ig.best_c v L wz hT h hi hl
  by_cases hln : 65536 < L.length
  · rw [Ig.bestV_long hln] at c1
    have HL := Lib.hid hL
    obtain ⟨a, c, rfl, _, _, _⟩ := hL
    have hli : (65536 : Int) < (L.length : Int) := by omega
    clear hi hl hln
    go_enter Tryd.func6, Tryd.ntmps6
    go_wp2_with fail
    refine (Ig.lives_c _ hw).mono ?_
    rintro e w1 ⟨rfl, hb1⟩
    have d1 := c1 _ (hw.below hb1 hG) (HL.out.below hb1).bufs
    clear c1
    go_wp2_with fail
    refine d1.mono ?_
    rintro e w2 ⟨rfl, g2⟩
    have hb2 := hb1.trans (g2.mono hb1.size)
    clear d1 hb1 g2
    go_wp2
    go_ret
    exact ⟨rfl, hb2⟩
  · rw [Ig.bestV_good hln] at c1
    have hbk := Ig.bk_le L 3
    have c3 : Hid (∀ k : Nat, k ≤ 3 → ∀ wz, Ty.Tabs wz → Ig.At wz.heap.size wz v L → Calls Tryd.prog 16 #[v, .int .i64 (k : Int)] wz fun e w' => e = .returned (.tuple #[.string (Ty.S (Ig.enc k L)), .int .i64 0]) ∧ Below wz.heap.size wz w') := Lib.hid fun k hk wz hT h => by
      have := Ig.with_c v L (k : Int) wz hT h hi hl
      rwa [Ig.withV_good hk hln] at this
    have c4 : Hid (∀ k : Nat, k ≤ 3 → ∀ wz, Ty.Tabs wz → Calls Tryd.prog 20 #[.string (Ty.S (Ig.enc k L))] wz (Ig.Got wz (0, L))) := Lib.hid fun k hk wz hT => by
      have := Ig.read_c (Ty.S (Ig.enc k L)) wz hT (by rw [Ty.size_S]; have := Ig.len_enc k hi (by omega : L.length ≤ 65536); omega)
      rw [Ty.data_S, Ig.rd_enc k hk L hi (by omega)] at this
      exact this
    have c5 : Hid (∀ u wz, Ig.At wz.heap.size wz u L → Ig.At wz.heap.size wz v L → Calls Tryd.prog 22 #[u, v] wz fun e w' => e = .returned (.bool true) ∧ Below wz.heap.size wz w') := Lib.hid fun u wz h1 h2 => Ig.same_c u v L wz h1 h2 hl
    have HL := Lib.hid hL
    have C1 := Lib.hid c1
    obtain ⟨a, c, rfl, _, _, _⟩ := hL
    have hli : ¬ (65536 : Int) < (L.length : Int) := by omega
    clear hi hl hln c1
    go_enter Tryd.func6, Tryd.ntmps6
    go_wp2_with fail
    refine (Ig.lives_c _ hw).mono ?_
    rintro e w1 ⟨rfl, hb1⟩
    go_wp2
    go_loopw [5] (fun i wr => ∃ k : Nat, k ≤ 5 ∧ i = .int .i64 k ∧ Below w.heap.size w wr) (fun i _ => 5 - (intOf i).toNat)
    case atStart => exact ⟨0, by omega, rfl, hb1⟩
    case round =>
      obtain ⟨k, hk, rfl, hb⟩ := hrel
      clear hb1
      by_cases hk5 : k < 5
      · have hki : (k : Int) < 5 := by omega
        have hk0 : (0 : Int) ≤ (k : Int) := by omega
        have d1 := C1.out _ (hw.below hb hG) (HL.out.below hb).bufs
        have hs := hb.size
        by_cases hk4 : k < 4
        · have hki4 : (k : Int) < 4 := by omega
          have d3 := c3.out k (by omega)
          have d4 := c4.out k (by omega)
          generalize Ty.S (Ig.enc (Ig.bk L 3) L) = S0 at d1
          generalize Ty.S (Ig.enc k L) = S1 at d3 d4
          go_wp2_with fail
          refine d1.mono ?_
          rintro e w2 ⟨rfl, g2⟩
          have hb2 := hb.trans (g2.mono hs)
          have e3 := d3 _ (hw.below hb2 hG) (HL.out.below hb2).bufs
          clear d1 d3 g2 hb
          go_wp2_with fail
          refine e3.mono ?_
          rintro e w3 ⟨rfl, g3⟩
          have hb3 := hb2.trans (g3.mono hb2.size)
          have e4 := d4 _ (hw.below hb3 hG)
          clear e3 d4 g3 hb2
          go_wp2_with fail
          refine e4.mono ?_
          rintro e w4 ⟨v4, rfl, hA4, g4⟩
          have hb4 := hb3.trans (g4.mono hb3.size)
          have e5 := c5.out v4 _ hA4 (HL.out.below hb4).bufs
          have hs4 := hb4.size
          simp only [Int.natCast_zero]
          clear e4 g4 hb3 hA4
          go_wp2_with fail
          refine e5.mono ?_
          rintro e w5 ⟨rfl, g5⟩
          have hb5 := hb4.trans (g5.mono hs4)
          clear e5 g5 hb4
          go_wp2
          go_roundw
          case rel => exact ⟨k + 1, by omega, by simp, hb5⟩
          case measure => simp [intOf]; omega
        · have hki4 : ¬ (k : Int) < 4 := by omega
          have d4 := c4.out (Ig.bk L 3) (by omega)
          generalize Ty.S (Ig.enc (Ig.bk L 3) L) = S0 at d1 d4
          go_wp2_with fail
          refine d1.mono ?_
          rintro e w2 ⟨rfl, g2⟩
          have hb2 := hb.trans (g2.mono hs)
          have e4 := d4 _ (hw.below hb2 hG)
          clear d1 d4 g2 hb
          go_wp2_with fail
          refine e4.mono ?_
          rintro e w4 ⟨v4, rfl, hA4, g4⟩
          have hb4 := hb2.trans (g4.mono hb2.size)
          have e5 := c5.out v4 _ hA4 (HL.out.below hb4).bufs
          have hs4 := hb4.size
          simp only [Int.natCast_zero]
          clear e4 g4 hb2 hA4
          go_wp2_with fail
          refine e5.mono ?_
          rintro e w5 ⟨rfl, g5⟩
          have hb5 := hb4.trans (g5.mono hs4)
          clear e5 g5 hb4
          go_wp2
          go_roundw
          case rel => exact ⟨k + 1, by omega, by simp, hb5⟩
          case measure => simp [intOf]; omega
      · obtain rfl : k = 5 := by omega
        go_wp2
        go_ret
        exact ⟨rfl, hb⟩
end Go.Proofs.YtkgmildbhelelaaDoor

namespace Go.Proofs.YtkgmildbhelelaaDoor
open Go.RowKit
open Ig (nth rd encI encR grp)
open Ty (encU)
theorem Ig.only_head {s : ByteArray} {b : UInt8} {r : List UInt8} (h : s.data.toList = b :: r) : ∃ h0 : 0 < s.size, s[0] = b := by
  have hl := Ty.length_data s
  rw [h] at hl
  have h0 : 0 < s.size := by rw [← hl]; simp
  refine ⟨h0, ?_⟩
  rw [Ty.at_getD s 0 h0, h]
  rfl
set_option maxHeartbeats 2000000 in
theorem Ig.lawOnly_w (s : ByteArray) (w : World) (hw : Ty.Tabs w) (hs : s.size ≤ 140737488351232) :
    Calls Tryd.prog 7 #[.string s] w fun e w' => e = .returned (.bool true) ∧ Below w.heap.size w w' := by
  have hG := hw.two
  have c1 := fun wz hT => Ig.read_c s wz hT (by omega)
  by_cases he : (rd s.data.toList).1 = 0
  · obtain ⟨b, r, hbr, hb3, henc, hlen, hi⟩ := Ig.enc_rd _ he
    obtain ⟨h0, hsb⟩ := Ig.only_head hbr
    have HS : Hid (Ty.S (Ig.enc b.toNat (rd s.data.toList).2) = s) := Lib.hid (by rw [henc]; exact Ty.S_data s)
    have c2 := fun v wz hT h => Ig.with_c v (rd s.data.toList).2 ((b.toNat : Nat) : Int) wz hT h hi (by omega)
    rw [Ig.withV_good hb3 (by omega), HS.out] at c2
    generalize rd s.data.toList = t at c1 c2 he
    obtain ⟨E, L⟩ := t
    simp only at he c2
    subst he
    have C2 := Lib.hid c2
    have hb8 := b.toNat_lt
    have hsb2 : (s[0].toNat : Int) = ((b.toNat : Nat) : Int) := by rw [hsb]
    obtain ⟨q, hq⟩ : ∃ q : Nat, q = b.toNat := ⟨_, rfl⟩
    rw [← hq] at hsb2 hb8 C2 hb3
    have HQ := Lib.hid hsb2
    have h0i : (0 : Int) < (s.size : Int) := by omega
    clear c2 HS hbr henc hlen hi hsb hq hsb2
    go_enter Tryd.func7, Tryd.ntmps7
    go_wp2_with fail
    refine (Ig.lives_c _ hw).mono ?_
    rintro e w1 ⟨rfl, hb1⟩
    have d1 := c1 _ (hw.below hb1 hG)
    clear c1
    go_wp2_with fail
    refine d1.mono ?_
    rintro e w2 ⟨v2, rfl, hA2, g2⟩
    have hb2 := hb1.trans (g2.mono hb1.size)
    have d2 := C2.out v2 _ (hw.below hb2 hG) hA2
    have hs2 := hb2.size
    simp only [Int.natCast_zero]
    have D2 : Hid (Calls Tryd.prog 16 #[v2, .int .i64 (wrap64 (s[0].toNat : Int))] w2 fun e w' => e = .returned (.tuple #[.string s, .int .i64 0]) ∧ Below w2.heap.size w2 w') := Lib.hid (by rw [HQ.out, IntWalk.wrap64_in _ (by omega)]; exact d2)
    clear d1 hb1 g2 d2 hA2
    have d3 := D2.out
    go_wp2_with fail
    with_reducible refine d3.mono ?_
    rintro e w3 ⟨rfl, g3⟩
    have hb4 := hb2.trans (g3.mono hs2)
    clear d3 g3
    go_wp2
    go_ret
    exact ⟨rfl, hb4⟩
  · have hbad := Ig.rd_bad he
    generalize rd s.data.toList = t at c1 he hbad
    obtain ⟨E, L⟩ := t
    simp only at he hbad
    subst hbad
    have hne : ((E : Int) != 0) = true := by rw [bne_iff_ne]; omega
    clear he hs
    go_enter Tryd.func7, Tryd.ntmps7
    go_wp2_with fail
    refine (Ig.lives_c _ hw).mono ?_
    rintro e w1 ⟨rfl, hb1⟩
    have d1 := c1 _ (hw.below hb1 hG)
    clear c1
    go_wp2_with fail
    refine d1.mono ?_
    rintro e w2 ⟨v2, rfl, hA2, g2⟩
    have hb2 := hb1.trans (g2.mono hb1.size)
    obtain ⟨a2, c2, rfl, _⟩ := hA2
    have el : ([] : List Int).length = 0 := rfl
    simp only [el]
    clear d1 hb1 g2 el
    go_wp2
    go_ret
    exact ⟨rfl, hb2⟩
end Go.Proofs.YtkgmildbhelelaaDoor

namespace Go.Proofs.YtkgmildbhelelaaDoor
open Go.RowKit
open Ig (nth rd encI encR grp)
open Ty (encU)
theorem Ig.len_small {n : Nat} (h : n < 16384) : (encU n).length ≤ 2 := by
  rw [Ty.encU_length]
  rcases Ty.form_is n with ⟨_, e⟩ | ⟨_, _, e⟩ | ⟨e0, _, _⟩ | ⟨e0, _⟩
  · rw [e]; decide
  · rw [e]; decide
  · exact absurd h e0
  · omega
theorem Ig.grp_all (m : Nat) (x : Int) : grp (List.replicate m x) = if m = 0 then [] else [(m, x)] := by
  cases m with
  | zero => rfl
  | succ k =>
    rw [if_neg (by omega)]
    have := Ig.grp_rep k x [] [] rfl (by simp)
    rwa [List.append_nil] at this
theorem Ig.same_len (m : Nat) (x : Int) (hm : m < 2000) : (Ig.bestS (List.replicate m x)).length ≤ 14 := by
  unfold Ig.bestS
  rw [if_neg (by rw [List.length_replicate]; omega)]
  have h1 := Ig.bk_least (List.replicate m x) 3 2 (by omega)
  have h2 : (Ig.enc 2 (List.replicate m x)).length ≤ 14 := by
    unfold Ig.enc
    rw [List.length_cons, List.length_append, List.length_replicate]
    have e : Ig.body 2 (List.replicate m x) = (grp (List.replicate m x)).flatMap encR := rfl
    rw [e, Ig.grp_all]
    have h3 := Ig.len_small (n := m) (by omega)
    have h9 := Ig.len_encI x
    split
    · simp; omega
    · simp [encR]; omega
  omega
set_option maxHeartbeats 1000000 in
theorem Ig.lawSame_w (n t : Int) (w : World) (hw : Ty.Tabs w) (hn : Ty.I64 n) :
    Calls Tryd.prog 8 #[.int .i64 n, .int .i64 t] w fun e w' => e = .returned (.bool true) ∧ Below w.heap.size w w' := by
  have hG := hw.two
  obtain ⟨U, hU, hU2⟩ : ∃ U : Nat, IntKind.u64.wrap t = (U : Int) ∧ U < 18446744073709551616 := ⟨(IntKind.u64.wrap t).toNat, by rw [IntKind.wrap_u64]; omega, by rw [IntKind.wrap_u64]; omega⟩
  obtain ⟨M, hM, hM2⟩ : ∃ M : Nat, (U : Int) % 2000 = (M : Int) ∧ M < 2000 := ⟨U % 2000, by omega, by omega⟩
  have HLE := Lib.hid (Ig.same_len M n hM2)
  have HU2 := Lib.hid hU2
  clear hU2
  go_enter Tryd.func8, Tryd.ntmps8
  go_wp2_with fail
  refine (Ig.lives_c _ hw).mono ?_
  rintro e w1 ⟨rfl, hb1⟩
  have HB1 := Lib.hid hb1
  have hbs1 := hb1.size
  clear hb1
  go_wp2
  go_loopw [5, 6] (fun v i wr => ∃ k : Nat, k ≤ M ∧ i = .int .i64 k ∧ Ig.Own w1.heap.size wr v (List.replicate k n) ∧ Below w1.heap.size w1 wr) (fun _ i _ => M - (intOf i).toNat)
  case atStart => exact ⟨0, by omega, rfl, Ig.Own.nil _ _, Below.refl _ _⟩
  case round =>
    obtain ⟨k, hk, rfl, hO, hb⟩ := hrel
    have HO := Lib.hid hO
    have HB := Lib.hid hb
    have hbs := hb.size
    have hk0 : (0 : Int) ≤ (k : Int) := by omega
    have hM3 : (M : Int) < 2000 := by omega
    clear hO hb
    by_cases hkl : k < M
    · have hki : (k : Int) < (M : Int) := by omega
      have hlr : (List.replicate k n).length = k := List.length_replicate
      have HLR := Lib.hid hlr
      clear hlr
      go_wp2_with (at_builtin; refine Bt.wpList_append_one 2 22 (.int .i64 0) 8 Tryd.underlying22 Ig.infoI rfl (HO.out.pre n) hbs (by have := HLR.out; omega) (by have := HLR.out; omega) (.tmp 19) (.tmp 21) _ rfl rfl rfl rfl rfl ?_; intro v2 w2 h2 g2)
      have H2 := Lib.hid (Ig.Own.post (h2 (Ig.iv_snoc _ n)))
      have G2 := Lib.hid (g2.below hbs (Bt.Buf.base_le HO.out))
      clear h2 g2
      go_roundw
      case rel => exact ⟨k + 1, by omega, by simp, by rw [List.replicate_succ']; exact H2.out, HB.out.trans G2.out⟩
      case measure => simp [intOf]; omega
    · obtain rfl : k = M := by omega
      have hki : ¬ (k : Int) < (k : Int) := by omega
      have hb := HB1.out.trans (HB.out.mono hbs1)
      have c1 := Ig.best_c _ (List.replicate k n) _ (hw.below hb hG) (Ig.Own.at HO.out) (by intro x hx; rw [List.mem_replicate] at hx; rw [hx.2]; exact hn) (by rw [List.length_replicate]; omega)
      have HBB := Lib.hid hb
      have hbs2 := hb.size
      obtain ⟨S, hS⟩ : ∃ S, S = Ty.S (Ig.bestS (List.replicate k n)) := ⟨_, rfl⟩
      have hSl : (S.size : Int) ≤ 14 := by rw [hS, Ty.size_S]; have := HLE.out; omega
      have hbv : Ig.bestV (List.replicate k n) = .tuple #[.string S, .int .i64 0] := by
        unfold Ig.bestV Ig.bestE
        rw [if_neg (by rw [List.length_replicate]; omega), hS]
        rfl
      rw [hbv] at c1
      clear hb hS hbv hM2
      go_wp2_with fail
      refine c1.mono ?_
      rintro e w3 ⟨rfl, g3⟩
      have hb3 := HBB.out.trans (g3.mono hbs2)
      clear c1 g3
      go_wp2
      go_ret
      exact ⟨rfl, hb3⟩
end Go.Proofs.YtkgmildbhelelaaDoor
