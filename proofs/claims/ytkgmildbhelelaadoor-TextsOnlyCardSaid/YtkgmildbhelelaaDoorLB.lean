/-
  The laws of package texts: that it lives; TextsWith, TextsRead.
  The laws of package texts: TextsBest, TextsBack.
  The laws of package texts: TextsOnly, TextsSame.
-/
import Derived.Test.YtkgmildbhelelaaDoorUC
namespace Go.Proofs.YtkgmildbhelelaaDoor
open Go.RowKit
open Tx (rd)
theorem Tx.withBAB : Tx.withV [[98], [97], [98]] 1 = .tuple #[.string ⟨#[1, 3, 2, 1, 97, 1, 98, 1, 5]⟩, .int .i64 0] := by kernel_rfl
theorem Tx.rdBAB : rd [1, 3, 2, 1, 97, 1, 98, 1, 5] = (0, [[98], [97], [98]]) := by kernel_rfl
theorem Tx.newBAB (w : World) : Tx.At (w.heap.size + 1) (w.alloc (.cells #[.string ⟨#[98]⟩, .string ⟨#[97]⟩, .string ⟨#[98]⟩] 9)) (.slice (some ⟨w.heap.size, 0, none⟩) 3 3) [[98], [97], [98]] := by
  refine ⟨_, 3, rfl, Nat.le_refl _, by simp, .inr ⟨w.heap.size, 0, rfl, by omega, fun i hi => ?_⟩⟩
  have hn : (w.alloc (.cells #[.string ⟨#[98]⟩, .string ⟨#[97]⟩, .string ⟨#[98]⟩] 9)).heap[w.heap.size]? = some (.cells #[.string ⟨#[98]⟩, .string ⟨#[97]⟩, .string ⟨#[98]⟩] 9 (0, 0)) := Go.Deep.blk_alloc_new _ _
  have hi2 : i = 0 ∨ i = 1 ∨ i = 2 := by simp at hi; omega
  rcases hi2 with rfl | rfl | rfl
  · unfold World.cell?; simp only [hn]; rfl
  · unfold World.cell?; simp only [hn]; rfl
  · unfold World.cell?; simp only [hn]; rfl
theorem Tx.At.bufs {B : Nat} {w : World} {v : Value} {L : List Tx.Str} (h : Tx.At B w v L) : Tx.At w.heap.size w v L := h.mono (by obtain ⟨_, _, _, _, hB, _⟩ := h; exact hB) (Nat.le_refl _)
theorem Tx.at_get {B : Nat} {w : World} {v : Value} {L : List Tx.Str} (h : Tx.At B w v L) (hne : 0 < L.length) : ∃ b o c, v = .slice (some ⟨b, o, none⟩) L.length c ∧ ∀ i, i < L.length → w.cell? ⟨b, o + i, none⟩ = some (Tx.sv L i) := by
  obtain ⟨a, c, rfl, _, _, h⟩ := h
  rcases h with ⟨h, _⟩ | ⟨b, o, rfl, _, h⟩
  · rw [h] at hne; simp at hne
  · exact ⟨b, o, c, rfl, h⟩
set_option maxHeartbeats 1000000 in
set_option maxRecDepth 100000 in
theorem Tx.lives_c (w : World) (hw : Ty.Tabs w) :
    Calls Tryd.prog 23 #[] w fun e w' => e = .returned (.bool true) ∧ Below w.heap.size w w' := by
  have hG := hw.two
  have hA := Tx.newBAB w
  have g0 : Below w.heap.size w (w.alloc (.cells #[.string ⟨#[98]⟩, .string ⟨#[97]⟩, .string ⟨#[98]⟩] 9)) := (Below.refl _ _).alloc (Nat.le_refl _) _
  have c1 := Tx.with_c _ [[98], [97], [98]] 1 _ (hw.below g0 hG) hA.bufs (by simp)
  rw [Tx.withBAB] at c1
  have c2 := fun w hT => Tx.read_c ⟨#[1, 3, 2, 1, 97, 1, 98, 1, 5]⟩ w hT (by decide)
  have e0 : (⟨#[1, 3, 2, 1, 97, 1, 98, 1, 5]⟩ : ByteArray).data.toList = [1, 3, 2, 1, 97, 1, 98, 1, 5] := rfl
  rw [e0, Tx.rdBAB] at c2
  clear hA e0
  go_enter Tryd.func23, Tryd.ntmps23
  go_wp2_with fail
  refine c1.mono ?_
  rintro e w1 ⟨rfl, g1⟩
  have hb1 := g0.trans (g1.mono g0.size)
  have c3 := c2 _ (hw.below hb1 hG)
  clear g0 g1 c1 c2
  go_wp2_with fail
  refine c3.mono ?_
  rintro e w2 ⟨v, rfl, hS2, g2⟩
  have hb2 := hb1.trans (g2.mono hb1.size)
  obtain ⟨b, o, c, rfl, h⟩ := Tx.at_get hS2 (by simp)
  have hc := h 1 (by simp)
  have e7 : Tx.sv [[98], [97], [98]] 1 = .string ⟨#[97]⟩ := rfl
  have el : ([[98], [97], [98]] : List Tx.Str).length = 3 := rfl
  rw [e7] at hc
  simp only [el, Int.natCast_zero]
  clear h c3 hb1 g2 hS2 e7 el
  go_wp2
  go_ret
  exact ⟨rfl, hb2⟩
theorem Tx.withV_form (L : List Tx.Str) (z : Int) : ∃ (S : ByteArray) (E : Int), Tx.withV L z = .tuple #[.string S, .int .i64 E] := ⟨_, _, rfl⟩
set_option maxHeartbeats 1000000 in
set_option maxRecDepth 100000 in
theorem Tx.lawWith_w (v : Value) (L : List Tx.Str) (z : Int) (w : World) (hw : Ty.Tabs w) (hL : Tx.At w.heap.size w v L) (hl : L.length ≤ 140737488355328) :
    Calls Tryd.prog 9 #[v, .int .i64 z] w fun e w' => e = .returned (.bool true) ∧ Below w.heap.size w w' := by
  have hG := hw.two
  have c1 := fun wz hT h => Tx.with_c v L z wz hT h hl
  have c2 := fun wz h => Tx.rwith_c v L z wz h hl
  obtain ⟨S, E, hE⟩ := Tx.withV_form L z
  rw [hE] at c1 c2
  have HL := Lib.hid hL
  clear hE hl hL
  go_enter Tryd.func9, Tryd.ntmps9
  go_wp2_with fail
  refine (Tx.lives_c _ hw).mono ?_
  rintro e w1 ⟨rfl, hb1⟩
  have d1 := c1 _ (hw.below hb1 hG) (HL.out.below hb1).bufs
  clear c1
  go_wp2_with fail
  refine d1.mono ?_
  rintro e w2 ⟨rfl, g2⟩
  have hb2 := hb1.trans (g2.mono hb1.size)
  have d2 := c2 _ (HL.out.below hb2).bufs
  clear d1 c2 hb1 g2
  go_wp2_with fail
  refine d2.mono ?_
  rintro e w3 ⟨rfl, g3⟩
  have hb3 := hb2.trans (g3.mono hb2.size)
  clear d2 hb2 g3
  go_wp2
  go_ret
  exact ⟨rfl, hb3⟩
theorem Tx.rd_bad {l : List UInt8} (h : (rd l).1 ≠ 0) : (rd l).2 = [] := by
  unfold rd at h ⊢
  cases l with
  | nil => rfl
  | cons b r =>
    simp only at h ⊢
    split
    · rfl
    · split
      · rfl
      · split
        · rfl
        · split
          · rfl
          · split
            · rfl
            · rename_i a1 a2 a3 a4 a5
              rw [if_neg a1, if_neg a2, if_neg a3, if_neg a4, if_neg a5] at h
              exact absurd rfl h
theorem Tx.rd_len (l : List UInt8) : (rd l).2.length ≤ 65536 := by
  by_cases h : (rd l).1 = 0
  · obtain ⟨b, r, _, _, _, h, _⟩ := Tx.enc_rd l h
    exact h
  · rw [Tx.rd_bad h]; simp
set_option maxHeartbeats 1000000 in
set_option maxRecDepth 100000 in
theorem Tx.lawRead_w (s : ByteArray) (w : World) (hw : Ty.Tabs w) (hs : s.size ≤ 140737488351232) :
    Calls Tryd.prog 11 #[.string s] w fun e w' => e = .returned (.bool true) ∧ Below w.heap.size w w' := by
  have hG := hw.two
  have c1 := fun wz hT => Tx.read_c s wz hT (by omega)
  have c2 := fun wz => Tx.rread_c s wz hs
  have hlen := Tx.rd_len s.data.toList
  generalize rd s.data.toList = t at c1 c2 hlen
  obtain ⟨E, L⟩ := t
  simp only at hlen
  have HLN := Lib.hid hlen
  clear hlen hs
  go_enter Tryd.func11, Tryd.ntmps11
  go_wp2_with fail
  refine (Tx.lives_c _ hw).mono ?_
  rintro e w1 ⟨rfl, hb1⟩
  have d1 := c1 _ (hw.below hb1 hG)
  clear c1
  go_wp2_with fail
  refine d1.mono ?_
  rintro e w2 ⟨v2, rfl, hA2, g2⟩
  have hb2 := hb1.trans (g2.mono hb1.size)
  have HA2 := Lib.hid hA2
  clear d1 hb1 g2 hA2
  go_wp2_with fail
  refine (c2 _).mono ?_
  rintro e w3 ⟨v3, rfl, hA3, g3⟩
  have hb3 := hb2.trans (g3.mono hb2.size)
  have c4 := Tx.same_c v2 v3 L _ (HA2.out.below g3).bufs hA3 (by have := HLN.out; omega)
  have H3 := Lib.hid hb3
  have hs3 := hb3.size
  clear c2 hb2 g3 hA3 hb3 HA2
  simp only at c4 ⊢
  go_wp2_with fail
  refine c4.mono ?_
  rintro e w4 ⟨rfl, g4⟩
  have hb4 := H3.out.trans (g4.mono hs3)
  clear c4 g4
  go_wp2
  go_ret
  exact ⟨rfl, hb4⟩
end Go.Proofs.YtkgmildbhelelaaDoor

namespace Go.Proofs.YtkgmildbhelelaaDoor
open Go.RowKit
open Tx (rd)
open Ty (encU)
theorem Tx.bestV_long {L : List Tx.Str} (h : Tx.fit L = false) : Tx.bestV L = .tuple #[.string (Ty.S []), .int .i64 3] := by unfold Tx.bestV; rw [h]; rfl
theorem Tx.bestV_good {L : List Tx.Str} (h : Tx.fit L = true) : Tx.bestV L = .tuple #[.string (Ty.S (Tx.enc (Tx.bestK L) L)), .int .i64 0] := by unfold Tx.bestV; rw [if_pos h]
theorem Tx.bestK_le (L : List Tx.Str) : Tx.bestK L ≤ 1 := by unfold Tx.bestK; split <;> omega
theorem Tx.bestK_least (L : List Tx.Str) : (Tx.enc (Tx.bestK L) L).length ≤ (Tx.enc 0 L).length ∧ (Tx.enc (Tx.bestK L) L).length ≤ (Tx.enc 1 L).length := by
  unfold Tx.bestK
  split <;> omega
/-- What Best returns, against what With returns. -/
theorem Tx.best_form (L : List Tx.Str) : ∃ (S S0 S1 : ByteArray) (E : Int), Tx.bestV L = .tuple #[.string S, .int .i64 E] ∧ Tx.withV L 0 = .tuple #[.string S0, .int .i64 E] ∧ Tx.withV L 1 = .tuple #[.string S1, .int .i64 E] ∧ ((E != 0) = true ∨ ((E != 0) = false ∧ (S.size : Int) ≤ (S0.size : Int) ∧ (S.size : Int) ≤ (S1.size : Int))) := by
  cases hf : Tx.fit L
  · exact ⟨_, _, _, 3, Tx.bestV_long hf, Tx.withV_long (by omega) hf, Tx.withV_long (by omega) hf, .inl rfl⟩
  · obtain ⟨h0, h1⟩ := Tx.bestK_least L
    exact ⟨_, _, _, 0, Tx.bestV_good hf, Tx.withV_good (k := 0) (by omega) hf, Tx.withV_good (k := 1) (by omega) hf, .inr ⟨rfl, by rw [Ty.size_S, Ty.size_S]; omega, by rw [Ty.size_S, Ty.size_S]; omega⟩⟩
set_option maxHeartbeats 2000000 in
set_option maxRecDepth 100000 in
theorem Tx.lawBest_w (v : Value) (L : List Tx.Str) (w : World) (hw : Ty.Tabs w) (hL : Tx.At w.heap.size w v L) (hl : L.length ≤ 140737488355328) :
    Calls Tryd.prog 10 #[v] w fun e w' => e = .returned (.bool true) ∧ Below w.heap.size w w' := by
  have hG := hw.two
  have c1 := fun wz hT h => Tx.best_c v L wz hT h hl
  have c2 := fun wz h => Tx.rbest_c v L wz h hl
  have c3 := fun wz hT h => Tx.with_c v L 0 wz hT h hl
  have c4 := fun wz hT h => Tx.with_c v L 1 wz hT h hl
  obtain ⟨S, S0, S1, E, e1, e2, e3, hE⟩ := Tx.best_form L
  rw [e1] at c1 c2
  rw [e2] at c3
  rw [e3] at c4
  have HL := Lib.hid hL
  clear hl hL e1 e2 e3
  rcases hE with hE | ⟨hE, hs0, hs1⟩
  all_goals
    go_enter Tryd.func10, Tryd.ntmps10
    go_wp2_with fail
    refine (Tx.lives_c _ hw).mono ?_
    rintro e w1 ⟨rfl, hb1⟩
    have d1 := c1 _ (hw.below hb1 hG) (HL.out.below hb1).bufs
    clear c1
    go_wp2_with fail
    refine d1.mono ?_
    rintro e w2 ⟨rfl, g2⟩
    have hb2 := hb1.trans (g2.mono hb1.size)
    have d2 := c2 _ (HL.out.below hb2).bufs
    clear d1 c2 hb1 g2
    go_wp2_with fail
    refine d2.mono ?_
    rintro e w3 ⟨rfl, g3⟩
    have hb3 := hb2.trans (g3.mono hb2.size)
    have d3 := c3 _ (hw.below hb3 hG) (HL.out.below hb3).bufs
    clear d2 hb2 g3 c3
    go_wp2_with fail
    refine d3.mono ?_
    rintro e w4 ⟨rfl, g4⟩
    have hb4 := hb3.trans (g4.mono hb3.size)
    have d4 := c4 _ (hw.below hb4 hG) (HL.out.below hb4).bufs
    clear d3 hb3 g4 c4
    go_wp2_with fail
    refine d4.mono ?_
    rintro e w5 ⟨rfl, g5⟩
    have hb5 := hb4.trans (g5.mono hb4.size)
    clear d4 hb4 g5
    go_wp2
    go_ret
    exact ⟨rfl, hb5⟩
theorem Tx.len_encX (d L : List Tx.Str) (hd : ∀ t ∈ L, t ∈ d) (hdl : d.length ≤ 65536) (hl : L.length ≤ 65536) : (Tx.encX d L).length ≤ 524400 := by
  have hq := Tx.wid_ix d L hd hdl
  unfold Tx.encX
  rw [List.length_cons, Pk.len_bytes]
  have := Bt.mul_le L.length (Bt.wid L.length (Tx.ix d L)) hq
  unfold Bt.need
  omega
theorem Tx.len_body (k : Nat) {L : List Tx.Str} (h64 : ∀ t ∈ L, t.length ≤ 64) (hl : L.length ≤ 65536) : (Tx.body k L).length ≤ 6000000 := by
  have hdl := Tx.dict_len L
  unfold Tx.body
  split
  · have := Tx.len_flat L h64; omega
  · have h1 := Tx.len_flat (Tx.dict L) (fun t ht => h64 t ((Tx.dict_mem L t).1 ht))
    have h2 := Tx.len_encX (Tx.dict L) L (fun t ht => (Tx.dict_mem L t).2 ht) (by omega) hl
    have h3 := Ty.encU_len9 (Tx.dict L).length
    rw [List.length_append, List.length_append]
    omega
theorem Tx.len_enc (k : Nat) {L : List Tx.Str} (h64 : ∀ t ∈ L, t.length ≤ 64) (hl : L.length ≤ 65536) : (Tx.enc k L).length ≤ 7000000 := by
  have h1 := Tx.len_body k h64 hl
  have h2 := Ty.encU_len9 L.length
  unfold Tx.enc
  rw [List.length_cons, List.length_append]
  omega
set_option maxHeartbeats 2000000 in
set_option maxRecDepth 100000 in
theorem Tx.lawBack_w (v : Value) (L : List Tx.Str) (w : World) (hw : Ty.Tabs w) (hL : Tx.At w.heap.size w v L) (hl : L.length ≤ 140737488355328) :
    Calls Tryd.prog 12 #[v] w fun e w' => e = .returned (.bool true) ∧ Below w.heap.size w w' := by
  have hG := hw.two
  have c1 := fun wz hT h => Tx.best_c v L wz hT h hl
  cases hf : Tx.fit L
  · rw [Tx.bestV_long hf] at c1
    have c3 := fun wz hT h => Tx.with_c v L 0 wz hT h hl
    rw [Tx.withV_long (by omega) hf] at c3
    have HL := Lib.hid hL
    have hSe : Ty.S [] = (⟨#[]⟩ : ByteArray) := rfl
    rw [hSe] at c1 c3
    clear hL hl hf hSe
    go_enter Tryd.func12, Tryd.ntmps12
    go_wp2_with fail
    refine (Tx.lives_c _ hw).mono ?_
    rintro e w1 ⟨rfl, hb1⟩
    have d1 := c1 _ (hw.below hb1 hG) (HL.out.below hb1).bufs
    clear c1
    go_wp2_with fail
    refine wp_loop_rounds 1 ?_
    rw [rounds_succ]
    go_wp2_with fail
    refine d1.mono ?_
    rintro e w2 ⟨rfl, g2⟩
    have hb2 := hb1.trans (g2.mono hb1.size)
    have d3 := c3 _ (hw.below hb2 hG) (HL.out.below hb2).bufs
    clear d1 hb1 g2 c3
    go_wp2_with fail
    refine d3.mono ?_
    rintro e w3 ⟨rfl, g3⟩
    have hb3 := hb2.trans (g3.mono hb2.size)
    clear d3 hb2 g3
    go_wp2
    go_ret
    exact ⟨rfl, hb3⟩
  · obtain ⟨hl6, h64⟩ := Tx.fit_yes hf
    rw [Tx.bestV_good hf] at c1
    have hbk := Tx.bestK_le L
    have c3 : Hid (∀ k : Nat, k ≤ 1 → ∀ wz, Ty.Tabs wz → Tx.At wz.heap.size wz v L → Calls Tryd.prog 24 #[v, .int .i64 (k : Int)] wz fun e w' => e = .returned (.tuple #[.string (Ty.S (Tx.enc k L)), .int .i64 0]) ∧ Below wz.heap.size wz w') := Lib.hid fun k hk wz hT h => by
      have := Tx.with_c v L (k : Int) wz hT h hl
      rwa [Tx.withV_good hk hf] at this
    have c4 : Hid (∀ k : Nat, k ≤ 1 → ∀ wz, Ty.Tabs wz → Calls Tryd.prog 28 #[.string (Ty.S (Tx.enc k L))] wz (Tx.Got wz (0, L))) := Lib.hid fun k hk wz hT => by
      have := Tx.read_c (Ty.S (Tx.enc k L)) wz hT (by rw [Ty.size_S]; have := Tx.len_enc k h64 hl6; omega)
      rw [Ty.data_S, Tx.rd_enc k hk L h64 hl6] at this
      exact this
    have c5 : Hid (∀ u wz, Tx.At wz.heap.size wz u L → Tx.At wz.heap.size wz v L → Calls Tryd.prog 30 #[u, v] wz fun e w' => e = .returned (.bool true) ∧ Below wz.heap.size wz w') := Lib.hid fun u wz h1 h2 => Tx.same_c u v L wz h1 h2 hl
    have HL := Lib.hid hL
    have C1 := Lib.hid c1
    clear hl hf c1 hL h64 hl6
    go_enter Tryd.func12, Tryd.ntmps12
    go_wp2_with fail
    refine (Tx.lives_c _ hw).mono ?_
    rintro e w1 ⟨rfl, hb1⟩
    go_wp2
    go_loopw [3] (fun i wr => ∃ k : Nat, k ≤ 3 ∧ i = .int .i64 k ∧ Below w.heap.size w wr) (fun i _ => 3 - (intOf i).toNat)
    case atStart => exact ⟨0, by omega, rfl, hb1⟩
    case round =>
      obtain ⟨k, hk, rfl, hb⟩ := hrel
      clear hb1
      by_cases hk5 : k < 3
      · have hki : (k : Int) < 3 := by omega
        have hk0 : (0 : Int) ≤ (k : Int) := by omega
        have d1 := C1.out _ (hw.below hb hG) (HL.out.below hb).bufs
        have hs := hb.size
        by_cases hk4 : k < 2
        · have hki4 : (k : Int) < 2 := by omega
          have d3 := c3.out k (by omega)
          have d4 := c4.out k (by omega)
          generalize Ty.S (Tx.enc (Tx.bestK L) L) = S0 at d1
          generalize Ty.S (Tx.enc k L) = S1 at d3 d4
          go_wp2_with fail
          refine d1.mono ?_
          rintro e w2 ⟨rfl, g2⟩
          have hb2 := hb.trans (g2.mono hs)
          have e3 := d3 _ (hw.below hb2 hG) (HL.out.below hb2).bufs
          clear d1 d3 g2 hb
          go_wp2_with fail
          refine e3.mono ?_
          rintro e w3 ⟨rfl, g3⟩
          have hb3 := hb2.trans (g3.mono hb2.size)
          have e4 := d4 _ (hw.below hb3 hG)
          clear e3 d4 g3 hb2
          go_wp2_with fail
          refine e4.mono ?_
          rintro e w4 ⟨v4, rfl, hA4, g4⟩
          have hb4 := hb3.trans (g4.mono hb3.size)
          have e5 := c5.out v4 _ hA4 (HL.out.below hb4).bufs
          have hs4 := hb4.size
          simp only [Int.natCast_zero]
          clear e4 g4 hb3 hA4
          go_wp2_with fail
          refine e5.mono ?_
          rintro e w5 ⟨rfl, g5⟩
          have hb5 := hb4.trans (g5.mono hs4)
          clear e5 g5 hb4
          go_wp2
          go_roundw
          case rel => exact ⟨k + 1, by omega, by simp, hb5⟩
          case measure => simp [intOf]; omega
        · have hki4 : ¬ (k : Int) < 2 := by omega
          have d4 := c4.out (Tx.bestK L) (by omega)
          generalize Ty.S (Tx.enc (Tx.bestK L) L) = S0 at d1 d4
          go_wp2_with fail
          refine d1.mono ?_
          rintro e w2 ⟨rfl, g2⟩
          have hb2 := hb.trans (g2.mono hs)
          have e4 := d4 _ (hw.below hb2 hG)
          clear d1 d4 g2 hb
          go_wp2_with fail
          refine e4.mono ?_
          rintro e w4 ⟨v4, rfl, hA4, g4⟩
          have hb4 := hb2.trans (g4.mono hb2.size)
          have e5 := c5.out v4 _ hA4 (HL.out.below hb4).bufs
          have hs4 := hb4.size
          simp only [Int.natCast_zero]
          clear e4 g4 hb2 hA4
          go_wp2_with fail
          refine e5.mono ?_
          rintro e w5 ⟨rfl, g5⟩
          have hb5 := hb4.trans (g5.mono hs4)
          clear e5 g5 hb4
          go_wp2
          go_roundw
          case rel => exact ⟨k + 1, by omega, by simp, hb5⟩
          case measure => simp [intOf]; omega
      · obtain rfl : k = 3 := by omega
        go_wp2
        go_ret
        exact ⟨rfl, hb⟩
end Go.Proofs.YtkgmildbhelelaaDoor

namespace Go.Proofs.YtkgmildbhelelaaDoor
open Go.RowKit
open Tx (rd)
open Ty (encU)
theorem Tx.only_head {s : ByteArray} {b : UInt8} {r : List UInt8} (h : s.data.toList = b :: r) : ∃ h0 : 0 < s.size, s[0] = b := by
  have hl := Ty.length_data s
  rw [h] at hl
  have h0 : 0 < s.size := by rw [← hl]; simp
  refine ⟨h0, ?_⟩
  rw [Ty.at_getD s 0 h0, h]
  rfl
theorem Tx.fit_of {L : List Tx.Str} (hl : L.length ≤ 65536) (h : ∀ t ∈ L, t.length ≤ 64) : Tx.fit L = true := by
  unfold Tx.fit
  simp only [Bool.and_eq_true, decide_eq_true_iff, List.all_eq_true]
  exact ⟨hl, h⟩
set_option maxHeartbeats 2000000 in
set_option maxRecDepth 100000 in
theorem Tx.lawOnly_w (s : ByteArray) (w : World) (hw : Ty.Tabs w) (hs : s.size ≤ 140737488351232) :
    Calls Tryd.prog 13 #[.string s] w fun e w' => e = .returned (.bool true) ∧ Below w.heap.size w w' := by
  have hG := hw.two
  have c1 := fun wz hT => Tx.read_c s wz hT (by omega)
  by_cases he : (rd s.data.toList).1 = 0
  · obtain ⟨b, r, hbr, hb3, henc, hlen, hi⟩ := Tx.enc_rd _ he
    obtain ⟨h0, hsb⟩ := Tx.only_head hbr
    have HS : Hid (Ty.S (Tx.enc b.toNat (rd s.data.toList).2) = s) := Lib.hid (by rw [henc]; exact Ty.S_data s)
    have c2 := fun v wz hT h => Tx.with_c v (rd s.data.toList).2 ((b.toNat : Nat) : Int) wz hT h (by omega)
    rw [Tx.withV_good hb3 (Tx.fit_of hlen hi), HS.out] at c2
    generalize rd s.data.toList = t at c1 c2 he
    obtain ⟨E, L⟩ := t
    simp only at he c2
    subst he
    have C2 := Lib.hid c2
    have hb8 := b.toNat_lt
    have hsb2 : (s[0].toNat : Int) = ((b.toNat : Nat) : Int) := by rw [hsb]
    obtain ⟨q, hq⟩ : ∃ q : Nat, q = b.toNat := ⟨_, rfl⟩
    rw [← hq] at hsb2 hb8 C2 hb3
    have HQ := Lib.hid hsb2
    have h0i : (0 : Int) < (s.size : Int) := by omega
    clear c2 HS hbr henc hlen hi hsb hq hsb2
    go_enter Tryd.func13, Tryd.ntmps13
    go_wp2_with fail
    refine (Tx.lives_c _ hw).mono ?_
    rintro e w1 ⟨rfl, hb1⟩
    have d1 := c1 _ (hw.below hb1 hG)
    clear c1
    go_wp2_with fail
    refine d1.mono ?_
    rintro e w2 ⟨v2, rfl, hA2, g2⟩
    have hb2 := hb1.trans (g2.mono hb1.size)
    have d2 := C2.out v2 _ (hw.below hb2 hG) hA2
    have hs2 := hb2.size
    simp only [Int.natCast_zero]
    have D2 : Hid (Calls Tryd.prog 24 #[v2, .int .i64 (wrap64 (s[0].toNat : Int))] w2 fun e w' => e = .returned (.tuple #[.string s, .int .i64 0]) ∧ Below w2.heap.size w2 w') := Lib.hid (by rw [HQ.out, IntWalk.wrap64_in _ (by omega)]; exact d2)
    clear d1 hb1 g2 d2 hA2
    have d3 := D2.out
    go_wp2_with fail
    with_reducible refine d3.mono ?_
    rintro e w3 ⟨rfl, g3⟩
    have hb4 := hb2.trans (g3.mono hs2)
    clear d3 g3
    go_wp2
    go_ret
    exact ⟨rfl, hb4⟩
  · have hbad := Tx.rd_bad he
    generalize rd s.data.toList = t at c1 he hbad
    obtain ⟨E, L⟩ := t
    simp only at he hbad
    subst hbad
    have hne : ((E : Int) != 0) = true := by rw [bne_iff_ne]; omega
    clear he hs
    go_enter Tryd.func13, Tryd.ntmps13
    go_wp2_with fail
    refine (Tx.lives_c _ hw).mono ?_
    rintro e w1 ⟨rfl, hb1⟩
    have d1 := c1 _ (hw.below hb1 hG)
    clear c1
    go_wp2_with fail
    refine d1.mono ?_
    rintro e w2 ⟨v2, rfl, hA2, g2⟩
    have hb2 := hb1.trans (g2.mono hb1.size)
    obtain ⟨a2, c2, rfl, _⟩ := hA2
    have el : ([] : List Tx.Str).length = 0 := rfl
    simp only [el]
    clear d1 hb1 g2 el
    go_wp2
    go_ret
    exact ⟨rfl, hb2⟩
theorem Tx.len_small {n : Nat} (h : n < 16384) : (encU n).length ≤ 2 := by
  rw [Ty.encU_length]
  rcases Ty.form_is n with ⟨_, e⟩ | ⟨_, _, e⟩ | ⟨e0, _, _⟩ | ⟨e0, _⟩
  · rw [e]; decide
  · rw [e]; decide
  · exact absurd h e0
  · omega
theorem Tx.len_one {n : Nat} (h : n < 64) : (encU n).length ≤ 1 := by
  rw [Ty.encU_length]
  rcases Ty.form_is n with ⟨_, e⟩ | ⟨e0, _, e⟩ | ⟨e0, _, _⟩ | ⟨e0, _⟩
  · rw [e]; decide
  · exact absurd h e0
  · omega
  · omega
theorem Tx.dict_rep {m : Nat} (hm : 0 < m) (t : Tx.Str) : Tx.dict (List.replicate m t) = [t] :=
  Tx.asc_same _ _ none none (Tx.dict_asc _) ⟨(fun q hq => by cases hq), trivial⟩ fun x => by
    rw [Tx.dict_mem, List.mem_replicate, List.mem_singleton]
    constructor
    · exact fun h => h.2
    · exact fun h => ⟨by omega, h⟩
theorem Tx.same_len (m : Nat) (t : Tx.Str) (ht : t.length ≤ 64) (hm : m < 2000) : (Tx.enc (Tx.bestK (List.replicate m t)) (List.replicate m t)).length ≤ t.length + 8 := by
  refine Nat.le_trans (Tx.bestK_least _).2 ?_
  have h1 := Tx.len_small (n := m) (by omega)
  unfold Tx.enc
  rw [List.length_cons, List.length_append, List.length_replicate]
  have e : Tx.body 1 (List.replicate m t) = encU (Tx.dict (List.replicate m t)).length ++ ((Tx.dict (List.replicate m t)).flatMap Tx.encT ++ Tx.encX (Tx.dict (List.replicate m t)) (List.replicate m t)) := by unfold Tx.body; rw [if_neg (by decide)]
  rw [e]
  have hq : ∀ d, (∀ u ∈ d, u = t) → Bt.wid (List.replicate m t).length (Tx.ix d (List.replicate m t)) = 0 := fun d hd => by
    have : Bt.wid (List.replicate m t).length (Tx.ix d (List.replicate m t)) ≤ 0 := (Bt.wid_le _ _ _).2 fun i hi => by
      rw [List.length_replicate] at hi
      have e1 : (List.replicate m t).getD i [] = t := by rw [List.getD, List.getElem?_replicate, if_pos hi]; rfl
      unfold Tx.ix
      rw [e1]
      cases d with
      | nil => simp [Tx.pos]
      | cons a d =>
        rw [hd a (by simp)]
        simp [Tx.pos]
    omega
  have hx : ∀ d, (∀ u ∈ d, u = t) → (Tx.encX d (List.replicate m t)).length = 1 := fun d hd => by
    unfold Tx.encX
    rw [List.length_cons, Pk.len_bytes, hq d hd, Nat.mul_zero]
    rfl
  rcases Nat.eq_zero_or_pos m with h0 | h0
  · have hd : Tx.dict (List.replicate m t) = [] := by rw [h0]; rfl
    rw [hd, List.length_append, List.length_append, hx [] (fun u hu => by cases hu)]
    have h2 := Tx.len_one (n := ([] : List Tx.Str).length) (by decide)
    simp only [List.flatMap_nil, List.length_nil] at h2 ⊢
    omega
  · rw [Tx.dict_rep h0, List.length_append, List.length_append, hx [t] (fun u hu => List.mem_singleton.1 hu)]
    have h2 := Tx.len_one (n := ([t] : List Tx.Str).length) (by simp)
    have h3 := Tx.len_small (n := t.length) (by omega)
    have h4 : ([t].flatMap Tx.encT).length = (encU t.length).length + t.length := by simp [Tx.encT]
    omega
set_option maxHeartbeats 1000000 in
set_option maxRecDepth 100000 in
theorem Tx.lawSame_w (s : ByteArray) (t : Int) (w : World) (hw : Ty.Tabs w) :
    Calls Tryd.prog 14 #[.string s, .int .i64 t] w fun e w' => e = .returned (.bool true) ∧ Below w.heap.size w w' := by
  have hG := hw.two
  by_cases hs : s.size ≤ 64
  · obtain ⟨U, hU, hU2⟩ : ∃ U : Nat, IntKind.u64.wrap t = (U : Int) ∧ U < 18446744073709551616 := ⟨(IntKind.u64.wrap t).toNat, by rw [IntKind.wrap_u64]; omega, by rw [IntKind.wrap_u64]; omega⟩
    obtain ⟨M, hM, hM2⟩ : ∃ M : Nat, (U : Int) % 2000 = (M : Int) ∧ M < 2000 := ⟨U % 2000, by omega, by omega⟩
    have hsd : s.data.toList.length = s.size := Ty.length_data s
    have HSS : Hid (Value.string s = .string (Ty.S s.data.toList)) := Lib.hid rfl
    have HLE := Lib.hid (Tx.same_len M s.data.toList (by omega) hM2)
    have HSD := Lib.hid hsd
    have HU2 := Lib.hid hU2
    have hsi : ¬ (64 : Int) < (s.size : Int) := by omega
    have hss : (s.size : Int) ≤ 64 := by omega
    generalize s.data.toList = n at HSS HLE HSD hsd
    have HS64 : Hid (n.length ≤ 64) := Lib.hid (by omega)
    clear hU2 hsd hs
    go_enter Tryd.func14, Tryd.ntmps14
    go_wp2_with fail
    refine (Tx.lives_c _ hw).mono ?_
    rintro e w1 ⟨rfl, hb1⟩
    have HB1 := Lib.hid hb1
    have hbs1 := hb1.size
    clear hb1
    go_wp2
    go_loopw [5, 6] (fun v i wr => ∃ k : Nat, k ≤ M ∧ i = .int .i64 k ∧ Tx.Own w1.heap.size wr v (List.replicate k n) ∧ Below w1.heap.size w1 wr) (fun _ i _ => M - (intOf i).toNat)
    case atStart => exact ⟨0, by omega, rfl, Tx.Own.nil _ _, Below.refl _ _⟩
    case round =>
      obtain ⟨k, hk, rfl, hO, hb⟩ := hrel
      have HO := Lib.hid hO
      have HB := Lib.hid hb
      have hbs := hb.size
      have hk0 : (0 : Int) ≤ (k : Int) := by omega
      have hM3 : (M : Int) < 2000 := by omega
      clear hO hb
      by_cases hkl : k < M
      · have hki : (k : Int) < (M : Int) := by omega
        have hlr : (List.replicate k n).length = k := List.length_replicate
        have HLR := Lib.hid hlr
        clear hlr
        go_wp2_with (at_builtin; refine Bt.wpList_append_one 9 36 (.string ⟨#[]⟩) 16 Tryd.underlying36 Tx.infoS rfl (HO.out.pre n) hbs (by have := HLR.out; omega) (by have := HLR.out; omega) (.tmp 25) (.tmp 27) _ rfl rfl rfl rfl rfl ?_; intro v2 w2 h2 g2)
        have H2 := Lib.hid (Tx.Own.post (h2 (by rw [HSS.out]; exact Tx.sv_snoc _ n)))
        have G2 := Lib.hid (g2.below hbs (Bt.Buf.base_le HO.out))
        clear h2 g2
        go_roundw
        case rel => exact ⟨k + 1, by omega, by simp, by rw [List.replicate_succ']; exact H2.out, HB.out.trans G2.out⟩
        case measure => simp [intOf]; omega
      · obtain rfl : k = M := by omega
        have hki : ¬ (k : Int) < (k : Int) := by omega
        have hb := HB1.out.trans (HB.out.mono hbs1)
        have c1 := Tx.best_c _ (List.replicate k n) _ (hw.below hb hG) (Tx.Own.at HO.out) (by rw [List.length_replicate]; omega)
        have HBB := Lib.hid hb
        have hbs2 := hb.size
        obtain ⟨S, hS⟩ : ∃ S, S = Ty.S (Tx.enc (Tx.bestK (List.replicate k n)) (List.replicate k n)) := ⟨_, rfl⟩
        have hSl : (S.size : Int) ≤ (s.size : Int) + 2 + 6 := by rw [hS, Ty.size_S]; have := HLE.out; have := HSD.out; omega
        have hbv : Tx.bestV (List.replicate k n) = .tuple #[.string S, .int .i64 0] := by
          rw [Tx.bestV_good (Tx.fit_of (by rw [List.length_replicate]; omega) (fun x hx => by rw [List.mem_replicate] at hx; rw [hx.2]; exact HS64.out)), hS]
        rw [hbv] at c1
        clear hb hS hbv hM2
        go_wp2_with fail
        refine c1.mono ?_
        rintro e w3 ⟨rfl, g3⟩
        have hb3 := HBB.out.trans (g3.mono hbs2)
        clear c1 g3
        go_wp2
        go_ret
        exact ⟨rfl, hb3⟩
  · have hsi : (64 : Int) < (s.size : Int) := by omega
    clear hs
    go_enter Tryd.func14, Tryd.ntmps14
    go_wp2_with fail
    refine (Tx.lives_c _ hw).mono ?_
    rintro e w1 ⟨rfl, hb1⟩
    have d1 := Tx.lives_c _ (hw.below hb1 hG)
    go_wp2_with fail
    refine d1.mono ?_
    rintro e w2 ⟨rfl, g2⟩
    have hb2 := hb1.trans (g2.mono hb1.size)
    clear d1 g2 hb1
    go_wp2
    go_ret
    exact ⟨rfl, hb2⟩
end Go.Proofs.YtkgmildbhelelaaDoor
