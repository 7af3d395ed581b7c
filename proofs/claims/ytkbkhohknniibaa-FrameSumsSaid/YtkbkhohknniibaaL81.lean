/-
  The laws of package frame: that it lives; FrameSums, FrameScans.
-/
import Derived.Test.YtkbkhohknniibaaF0
namespace Go.Proofs.Ytkbkhohknniibaa
open Go.RowKit
theorem Fr.sumLive : Fr.sum [49, 50, 51, 52, 53, 54, 55, 56, 57] = 3808858755 := by decide +kernel
theorem Fr.frmLive : Fr.frm [97] = [1, 0, 0, 0, 97, 48, 67, 208, 193] := by decide +kernel
theorem Fr.scanLive : Fr.scan ([1, 0, 0, 0, 97, 48, 67, 208, 193] ++ [1]) = (0, [[97]], 9) := by
  rw [← Fr.frmLive, Fr.scan_frm _ (by decide), Fr.scan_is, if_pos (by decide)]
  rfl
theorem Fr.scan_cnt : ∀ (n : Nat) (l : List UInt8), l.length ≤ n → 8 * (Fr.scan l).2.1.length ≤ l.length
  | n, l, hn => by
    rw [Fr.scan_is]
    by_cases h4 : l.length < 4
    · rw [if_pos h4]; simp
    · rw [if_neg h4]
      by_cases hb : 1048576 < Fr.val (l.take 4)
      · rw [if_pos hb]; simp
      · rw [if_neg hb]
        by_cases ht : l.length < Fr.val (l.take 4) + 8
        · rw [if_pos ht]; simp
        · rw [if_neg ht]
          by_cases hs : Fr.val ((l.drop (4 + Fr.val (l.take 4))).take 4) ≠ Fr.sum ((l.drop 4).take (Fr.val (l.take 4)))
          · rw [if_pos hs]; simp
          · rw [if_neg hs]
            have ih := Fr.scan_cnt (n - 1) (l.drop (Fr.val (l.take 4) + 8)) (by rw [List.length_drop]; omega)
            rw [List.length_drop] at ih
            split
            · simp
            · simp only [List.length_cons]; omega
  termination_by _ l => l.length
  decreasing_by (rw [List.length_drop]; omega)
theorem Fr.scan_n (l : List UInt8) : 8 * (Fr.scan l).2.1.length ≤ l.length := by
  rcases Fr.scan_err l with h | h
  · exact Fr.scan_cnt l.length l (Nat.le_refl _)
  · rw [h]; simp
theorem Fr.all_n (l : List UInt8) : 8 * (Fr.all l).2.length ≤ l.length := by
  have h := Fr.scan_n l
  unfold Fr.all
  repeat' split
  all_goals simp_all
theorem Fr.atOne {w : World} {v : Value} {x : Fr.Str} (h : Tx.At w.heap.size w v [x]) : ∃ b o c, v = .slice (some ⟨b, o, none⟩) 1 c ∧ b < w.heap.size ∧ w.cell? ⟨b, o, none⟩ = some (.string (Ty.S x)) := by
  obtain ⟨a, c, rfl, _, _, h⟩ := h
  rcases h with h | ⟨b, o, rfl, hb, h⟩
  · exact absurd h.1 (by simp)
  · exact ⟨b, o, c, rfl, hb, h 0 (by simp)⟩
set_option maxHeartbeats 2000000 in
set_option maxRecDepth 100000 in
theorem Fr.lives_c (w : World) (hw : Fr.W w) :
    Calls Try.prog 9 #[] w fun e w' => e = .returned (.bool true) ∧ Below w.heap.size w w' := by
  have cw := Fr.write_c ⟨#[97]⟩ (by decide) w hw
  have e0 : (⟨#[97]⟩ : ByteArray).data.toList = [97] := rfl
  rw [e0, Fr.frmLive] at cw
  have CS : Hid (∀ wz, Fr.W wz → Calls Try.prog 14 #[.string ⟨#[1, 0, 0, 0, 97, 48, 67, 208, 193, 1]⟩] wz (Fr.Got wz (0, [[97]], 9))) := Lib.hid fun wz h => by
    have := Fr.scan_c ⟨#[1, 0, 0, 0, 97, 48, 67, 208, 193, 1]⟩ (by decide) wz h
    have e0 : (⟨#[1, 0, 0, 0, 97, 48, 67, 208, 193, 1]⟩ : ByteArray).data.toList = [1, 0, 0, 0, 97, 48, 67, 208, 193] ++ [1] := rfl
    rwa [e0, Fr.scanLive] at this
  have CU : Hid (∀ wz, Fr.W wz → Calls Try.prog 10 #[.string ⟨#[49, 50, 51, 52, 53, 54, 55, 56, 57]⟩] wz fun e w' => e = .returned (.int .u32 3808858755) ∧ Below wz.heap.size wz w') := Lib.hid fun wz h => by
    have := Fr.sum_c ⟨#[49, 50, 51, 52, 53, 54, 55, 56, 57]⟩ (by decide) wz h
    have e0 : (⟨#[49, 50, 51, 52, 53, 54, 55, 56, 57]⟩ : ByteArray).data.toList = [49, 50, 51, 52, 53, 54, 55, 56, 57] := rfl
    rwa [e0, Fr.sumLive] at this
  have HW := Lib.hid hw
  clear hw e0
  go_enter Try.func9, Try.ntmps9
  go_wp2_with fail
  with_reducible refine cw.mono ?_
  rintro e w1 ⟨rfl, g1⟩
  have HB1 := Lib.hid g1
  have cs := CS.out w1 (HW.out.below g1)
  have hcat : Ty.S [1, 0, 0, 0, 97, 48, 67, 208, 193] ++ (⟨#[1]⟩ : ByteArray) = ⟨#[1, 0, 0, 0, 97, 48, 67, 208, 193, 1]⟩ := rfl
  have hsz9 : (Ty.S [1, 0, 0, 0, 97, 48, 67, 208, 193]).size = 9 := rfl
  generalize Ty.S [1, 0, 0, 0, 97, 48, 67, 208, 193] = X at hcat hsz9 ⊢
  clear cw g1 CS
  go_wp2_with fail
  with_reducible refine cs.mono ?_
  rintro e w2 ⟨v, rfl, hV, g2⟩
  obtain ⟨b, o, c, rfl, hb, hc⟩ := Fr.atOne hV
  have HB2 := Lib.hid (HB1.out.trans (g2.mono HB1.out.size))
  have cu := CU.out w2 (HW.out.below HB2.out)
  clear hV g2 cs CU
  go_wp2_with fail
  with_reducible refine cu.mono ?_
  rintro e w3 ⟨rfl, g3⟩
  have hc3 := (g3.cell (p := ⟨b, o, none⟩) hb).trans hc
  have HB3 := Lib.hid (HB2.out.trans (g3.mono HB2.out.size))
  clear cu g3 hc
  go_wp2
  go_ret
  exact ⟨congrArg (fun x => Ending.returned (Value.bool x)) (show ((Ty.S [97]).toList == [97]) = true by rw [Tx.S_toList]; rfl), HB3.out⟩
set_option maxHeartbeats 2000000 in
set_option maxRecDepth 100000 in
theorem Fr.lawSums_w (s : ByteArray) (hs : s.size ≤ 140737488351232) (w : World) (hw : Fr.W w) :
    Calls Try.prog 3 #[.string s] w fun e w' => e = .returned (.bool true) ∧ Below w.heap.size w w' := by
  have C1 := Lib.hid fun wz h => Fr.sum_c s (by omega) wz h
  have C2 := Lib.hid fun wz => Fr.rsum_c s (by omega) wz
  have C3 := Lib.hid fun wz h => Fr.write_c s (by omega) wz h
  have C4 := Lib.hid fun wz => Fr.rwrite_c s (by omega) wz
  generalize Fr.sum s.data.toList = M at C1 C2
  generalize Ty.S (Fr.frm s.data.toList) = X at C3 C4
  have HW := Lib.hid hw
  clear hw
  go_enter Try.func3, Try.ntmps3
  go_wp2_with fail
  with_reducible refine (Fr.lives_c w HW.out).mono ?_
  rintro e w1 ⟨rfl, g1⟩
  have HB1 := Lib.hid g1
  clear g1
  go_wp2_with fail
  with_reducible refine (C1.out w1 (HW.out.below HB1.out)).mono ?_
  rintro e w2 ⟨rfl, g2⟩
  have HB2 := Lib.hid (HB1.out.trans (g2.mono HB1.out.size))
  clear g2
  go_wp2_with fail
  with_reducible refine (C2.out w2).mono ?_
  rintro e w3 ⟨rfl, hw3⟩
  subst w3
  go_wp2_with fail
  with_reducible refine (C3.out w2 (HW.out.below HB2.out)).mono ?_
  rintro e w4 ⟨rfl, g4⟩
  have HB4 := Lib.hid (HB2.out.trans (g4.mono HB2.out.size))
  clear g4
  go_wp2_with fail
  with_reducible refine (C4.out w4).mono ?_
  rintro e w5 ⟨rfl, g5⟩
  have HB5 := Lib.hid (HB4.out.trans (g5.mono HB4.out.size))
  clear g5
  go_wp2
  go_ret
  exact ⟨rfl, HB5.out⟩
set_option maxHeartbeats 2000000 in
set_option maxRecDepth 100000 in
theorem Fr.lawScans_w (s : ByteArray) (hs : s.size ≤ 70368744177664) (w : World) (hw : Fr.W w) :
    Calls Try.prog 4 #[.string s] w fun e w' => e = .returned (.bool true) ∧ Below w.heap.size w w' := by
  have C1 := Lib.hid fun wz h => Fr.scan_c s hs wz h
  have C2 := Lib.hid fun wz => Fr.rscan_c s hs wz
  have C3 := Lib.hid fun wz h => Fr.all_c s hs wz h
  have C4 := Lib.hid fun wz => Fr.rall_c s hs wz
  have hn := Fr.scan_n s.data.toList
  have hn2 := Fr.all_n s.data.toList
  rw [Ty.length_data] at hn hn2
  generalize Fr.scan s.data.toList = q at C1 C2 hn
  generalize Fr.all s.data.toList = r at C3 C4 hn2
  obtain ⟨E, L, n⟩ := q
  obtain ⟨F, K⟩ := r
  simp only at hn hn2
  unfold Fr.Got at C1 C2
  unfold Fr.GotA at C3 C4
  simp only at C1 C2 C3 C4
  have HW := Lib.hid hw
  clear hw
  go_enter Try.func4, Try.ntmps4
  go_wp2_with fail
  with_reducible refine (Fr.lives_c w HW.out).mono ?_
  rintro e w1 ⟨rfl, g1⟩
  have HB1 := Lib.hid g1
  clear g1
  go_wp2_with fail
  with_reducible refine (C1.out w1 (HW.out.below HB1.out)).mono ?_
  rintro e w2 ⟨v2, rfl, hV2, g2⟩
  have HB2 := Lib.hid (HB1.out.trans (g2.mono HB1.out.size))
  clear g2
  go_wp2_with fail
  with_reducible refine (C2.out w2).mono ?_
  rintro e w3 ⟨v3, rfl, hV3, g3⟩
  have HB3 := Lib.hid (HB2.out.trans (g3.mono HB2.out.size))
  have H2 := Lib.hid ((hV2.below g3).mono g3.size (Nat.le_refl _))
  have H3 := Lib.hid hV3
  clear g3 hV2 hV3
  go_wp2_with fail
  with_reducible refine (C3.out w3 (HW.out.below HB3.out)).mono ?_
  rintro e w4 ⟨v4, rfl, hV4, g4⟩
  have HB4 := Lib.hid (HB3.out.trans (g4.mono HB3.out.size))
  have H2 := Lib.hid ((H2.out.below g4).mono g4.size (Nat.le_refl _))
  have H3 := Lib.hid ((H3.out.below g4).mono g4.size (Nat.le_refl _))
  have H4 := Lib.hid hV4
  clear g4 hV4
  go_wp2_with fail
  with_reducible refine (C4.out w4).mono ?_
  rintro e w5 ⟨v5, rfl, hV5, g5⟩
  have HB5 := Lib.hid (HB4.out.trans (g5.mono HB4.out.size))
  have H2 := Lib.hid ((H2.out.below g5).mono g5.size (Nat.le_refl _))
  have H3 := Lib.hid ((H3.out.below g5).mono g5.size (Nat.le_refl _))
  have H4 := Lib.hid ((H4.out.below g5).mono g5.size (Nat.le_refl _))
  have H5 := Lib.hid hV5
  clear g5 hV5
  go_wp2_with fail
  with_reducible refine (Tx.same_c _ _ _ _ H2.out H3.out (by omega)).mono ?_
  rintro e w6 ⟨rfl, g6⟩
  have HB6 := Lib.hid (HB5.out.trans (g6.mono HB5.out.size))
  have H4 := Lib.hid ((H4.out.below g6).mono g6.size (Nat.le_refl _))
  have H5 := Lib.hid ((H5.out.below g6).mono g6.size (Nat.le_refl _))
  clear g6
  go_wp2_with fail
  with_reducible refine (Tx.same_c _ _ _ _ H4.out H5.out (by omega)).mono ?_
  rintro e w7 ⟨rfl, g7⟩
  have HB7 := Lib.hid (HB6.out.trans (g7.mono HB6.out.size))
  clear g7
  go_wp2
  go_ret
  exact ⟨rfl, HB7.out⟩
end Go.Proofs.Ytkbkhohknniibaa
