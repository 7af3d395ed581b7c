/-
  The laws of package frame: too long texts; FrameBack.
-/
import Derived.Test.YtkbkhohknniibaaL81
namespace Go.Proofs.Ytkbkhohknniibaa
open Go.RowKit
/-- Has a text more bytes than a frame may have? -/
def Fr.tooLong (L : List Fr.Str) : Bool := L.any fun t => decide (1048576 < t.length)
theorem Fr.long_yes {L : List Fr.Str} {k : Nat} (hk : k < L.length) (h : 1048576 < (L.getD k []).length) : Fr.tooLong L = true := by
  unfold Fr.tooLong
  rw [List.any_eq_true]
  refine ⟨L.getD k [], ?_, by simpa using h⟩
  rw [List.getD_eq_getElem?_getD, List.getElem?_eq_getElem hk]
  exact List.getElem_mem hk
theorem Fr.long_no {L : List Fr.Str} (h : ∀ i, i < L.length → ¬ 1048576 < (L.getD i []).length) : Fr.tooLong L = false := by
  unfold Fr.tooLong
  rw [List.any_eq_false]
  intro x hx
  obtain ⟨i, hi, rfl⟩ := List.mem_iff_getElem.1 hx
  have := h i hi
  rw [List.getD_eq_getElem?_getD, List.getElem?_eq_getElem hi] at this
  simpa using this
theorem Fr.long_all {L : List Fr.Str} (h : Fr.tooLong L = false) : ∀ t ∈ L, t.length ≤ 1048576 := by
  unfold Fr.tooLong at h
  rw [List.any_eq_false] at h
  intro t ht
  have := h t ht
  simp only [decide_eq_true_eq] at this
  omega
set_option maxHeartbeats 1000000 in
theorem Fr.long_c (v : Value) (L : List Fr.Str) (w : World) (hv : Tx.At w.heap.size w v L) (hn : L.length ≤ 140737488355328) :
    Calls Try.prog 19 #[v] w fun e w' => e = .returned (.bool (Fr.tooLong L)) ∧ Below w.heap.size w w' := by
  obtain ⟨a, c, rfl, _, _, h⟩ := hv
  have HH := Lib.hid h
  obtain ⟨n, hnn⟩ : ∃ n, n = L.length := ⟨_, rfl⟩
  have HY := Lib.hid fun k h1 h2 => Fr.long_yes (L := L) (k := k) h1 h2
  have HZ := Lib.hid fun h1 => Fr.long_no (L := L) h1
  generalize Fr.tooLong L = R at HY HZ ⊢
  rw [← hnn] at hn ⊢
  have HN := Lib.hid hnn
  clear h hnn
  go_enter Try.func19, Try.ntmps19
  go_wp2
  go_loopw [3] (fun i wr => ∃ k : Nat, k ≤ n ∧ i = .int .i64 k ∧ (∀ i, i < k → ¬ 1048576 < (L.getD i []).length) ∧ Below w.heap.size w wr) (fun i _ => n - (intOf i).toNat)
  case atStart => exact ⟨0, by omega, rfl, fun i hi => absurd hi (by omega), Below.refl _ _⟩
  case round =>
    obtain ⟨k, hk, rfl, hq, hb⟩ := hrel
    have HB := Lib.hid hb
    have HQ := Lib.hid hq
    clear hq
    by_cases hl : k < n
    · rcases HH.out with h | ⟨b, o, rfl, hlt, h⟩
      · exact absurd hl (by rw [HN.out, h.1]; simp)
      · have hc := (hb.cell (p := ⟨b, o + k, none⟩) hlt).trans (h k (by rw [← HN.out]; exact hl))
        unfold Tx.sv at hc
        have hx : (Ty.S (L.getD k [])).size = (L.getD k []).length := rfl
        have dk : (k : Int) < (n : Int) := by omega
        have dk0 : (0 : Int) ≤ (k : Int) := by omega
        have dk2 : (k : Int) < 140737488355328 := by omega
        have HNN := Lib.hid hn
        by_cases hy : 1048576 < (L.getD k []).length
        · have HE := Lib.hid (HY.out k (by rw [← HN.out]; exact hl) hy)
          generalize Ty.S (L.getD k []) = x at hc hx
          have hxi : (1048576 : Int) < (x.size : Int) := by omega
          clear h hn hb hx hy
          go_wp2
          go_ret
          exact ⟨congrArg (fun x => Ending.returned (Value.bool x)) HE.out.symm, HB.out⟩
        · have HQ2 : Hid (∀ i, i < k + 1 → ¬ 1048576 < (L.getD i []).length) := Lib.hid fun i hi => by
            rcases (by omega : i < k ∨ i = k) with h | rfl
            · exact HQ.out i h
            · exact hy
          generalize Ty.S (L.getD k []) = x at hc hx
          have hxi : ¬ (1048576 : Int) < (x.size : Int) := by omega
          clear h hn hb hx hy
          go_wp2
          go_roundw
          case rel => exact ⟨k + 1, by omega, by simp, HQ2.out, HB.out⟩
          case measure => simp [intOf]; omega
    · obtain rfl : k = n := by omega
      have dk : ¬ (k : Int) < (k : Int) := by omega
      have HE := Lib.hid (HZ.out fun i hi => HQ.out i (by rw [HN.out]; exact hi))
      clear hb
      go_wp2
      go_ret
      exact ⟨congrArg (fun x => Ending.returned (Value.bool x)) HE.out.symm, HB.out⟩
theorem Fr.size_add (L K : List Fr.Str) : Fr.size (L ++ K) = Fr.size L + Fr.size K := by simp [Fr.size]
theorem Fr.size_le (L : List Fr.Str) (k : Nat) : Fr.size (L.take k) ≤ Fr.size L := by
  have h := congrArg Fr.size (List.take_append_drop k L)
  rw [Fr.size_add] at h
  omega
theorem Fr.flat_snoc (L : List Fr.Str) {k : Nat} (hk : k < L.length) : (L.take (k + 1)).flatMap Fr.frm = (L.take k).flatMap Fr.frm ++ Fr.frm (L.getD k []) := by
  rw [List.take_add_one, List.getElem?_eq_getElem hk, List.flatMap_append, List.getD_eq_getElem?_getD, List.getElem?_eq_getElem hk]
  simp
theorem Fr.all_flat {L : List Fr.Str} (h : ∀ t ∈ L, t.length ≤ 1048576) : Fr.all (L.flatMap Fr.frm) = (0, L) := by
  unfold Fr.all
  rw [Fr.scan_all L h, Fr.size_is]
  simp
set_option maxHeartbeats 4000000 in
set_option maxRecDepth 100000 in
theorem Fr.lawBack_w (v : Value) (L : List Fr.Str) (w : World) (hw : Fr.W w) (hv : Tx.At w.heap.size w v L) (hs : Fr.size L ≤ 70368744177664) :
    Calls Try.prog 5 #[v] w fun e w' => e = .returned (.bool true) ∧ Below w.heap.size w w' := by
  have hln : 8 * L.length ≤ Fr.size L := by
    clear hv hs
    induction L with
    | nil => simp
    | cons t L ih => simp only [Fr.size, List.length_cons, List.map_cons, List.sum_cons] at ih ⊢; omega
  have HW := Lib.hid hw
  have HV := Lib.hid hv
  have HS := Lib.hid hs
  obtain ⟨n, hnn⟩ : ∃ n, n = L.length := ⟨_, rfl⟩
  have CL := Lib.hid fun wz (hz : Below w.heap.size w wz) => Fr.long_c v L wz ((hv.below hz).mono hz.size (Nat.le_refl _)) (by omega)
  obtain ⟨a, c, rfl, _, _, h⟩ := hv
  have HH := Lib.hid h
  have HLN : Hid (8 * L.length ≤ Fr.size L) := Lib.hid hln
  have hn : n ≤ 8796093022208 := by omega
  rw [← hnn] at CL HV ⊢
  have HN := Lib.hid hnn
  clear h hnn hln hs hw
  go_enter Try.func5, Try.ntmps5
  go_wp2_with fail
  with_reducible refine (Fr.lives_c w HW.out).mono ?_
  rintro e w1 ⟨rfl, g1⟩
  have HB1 := Lib.hid g1
  clear g1
  go_wp2_with fail
  with_reducible refine (CL.out w1 HB1.out).mono ?_
  rintro e w2 ⟨rfl, g2⟩
  have HB2 := Lib.hid (HB1.out.trans (g2.mono HB1.out.size))
  clear g2
  cases hT : Fr.tooLong L
  · have HA := Lib.hid (Fr.long_all hT)
    clear hT
    go_wp2
    go_loopw [3, 4] (fun sv i wr => ∃ k : Nat, k ≤ n ∧ sv = .string (Ty.S ((L.take k).flatMap Fr.frm)) ∧ i = .int .i64 k ∧ Below w.heap.size w wr) (fun _ i _ => n - (intOf i).toNat)
    case atStart => exact ⟨0, by omega, by simp; rfl, rfl, HB2.out⟩
    case round =>
      obtain ⟨k, hk, rfl, rfl, hb⟩ := hrel
      have HB := Lib.hid hb
      by_cases hl : k < n
      · rcases HH.out with h | ⟨b, o, rfl, hlt, h⟩
        · exact absurd hl (by rw [HN.out, h.1]; simp)
        · have hc := (hb.cell (p := ⟨b, o + k, none⟩) hlt).trans (h k (by rw [← HN.out]; exact hl))
          have hkL : k < L.length := by rw [← HN.out]; exact hl
          unfold Tx.sv at hc
          have hz := Fr.size_le L (k + 1)
          rw [← Fr.size_is, Fr.flat_snoc L hkL, List.length_append, Fr.frm_len] at hz
          have hs := HS.out
          have CW := Lib.hid fun wz h => Fr.write_c (Ty.S (L.getD k [])) (by rw [Ty.size_S]; omega) wz h
          rw [Ty.data_S] at CW
          have hy1 : (Ty.S ((L.take k).flatMap Fr.frm)).size = ((L.take k).flatMap Fr.frm).length := rfl
          have hy2 : (Ty.S (Fr.frm (L.getD k []))).size = (L.getD k []).length + 8 := (Ty.size_S _).trans (Fr.frm_len _)
          have HCT : Hid (Ty.S ((L.take k).flatMap Fr.frm) ++ Ty.S (Fr.frm (L.getD k [])) = Ty.S ((L.take (k + 1)).flatMap Fr.frm)) := Lib.hid (by rw [Fr.S_add, ← Fr.flat_snoc L hkL])
          have n1 : ¬ 9223372036854775807 < (Ty.S ((L.take k).flatMap Fr.frm)).size + (Ty.S (Fr.frm (L.getD k []))).size := by omega
          generalize Ty.S ((L.take k).flatMap Fr.frm) = X at n1 HCT
          generalize Ty.S (Fr.frm (L.getD k [])) = Y at n1 HCT CW
          generalize Ty.S (L.getD k []) = x at hc CW
          have dk : (k : Int) < (n : Int) := by omega
          have dk0 : (0 : Int) ≤ (k : Int) := by omega
          have dk2 : (k : Int) < 140737488355328 := by omega
          clear h hb hy1 hy2 hz hs hkL
          go_wp2_with fail
          with_reducible refine (CW.out wr (HW.out.below HB.out)).mono ?_
          rintro e w4 ⟨rfl, g4⟩
          have HB4 := Lib.hid (HB.out.trans (g4.mono HB.out.size))
          clear g4
          go_wp2
          go_roundw
          case rel => exact ⟨k + 1, by omega, by rw [HCT.out], by simp, HB4.out⟩
          case measure => simp [intOf]; omega
      · obtain rfl : k = n := by omega
        have dk : ¬ (k : Int) < (k : Int) := by omega
        have e : L.take k = L := List.take_of_length_le (by rw [← HN.out]; omega)
        rw [e]
        have hs := HS.out
        have hyz : (Ty.S (L.flatMap Fr.frm)).size = Fr.size L := (Ty.size_S _).trans (Fr.size_is L)
        have CS := Lib.hid fun wz h => Fr.scan_c (Ty.S (L.flatMap Fr.frm)) (by omega) wz h
        have CA := Lib.hid fun wz h => Fr.all_c (Ty.S (L.flatMap Fr.frm)) (by omega) wz h
        rw [Ty.data_S, Fr.scan_all L HA.out] at CS
        rw [Ty.data_S, Fr.all_flat HA.out] at CA
        have hLk : L.length ≤ 140737488355328 := by rw [← HN.out]; omega
        generalize Ty.S (L.flatMap Fr.frm) = X at CS CA hyz ⊢
        generalize Fr.size L = Z at CS hyz
        have HB := Lib.hid hb
        clear hb e hs
        go_wp2_with fail
        with_reducible refine (CS.out wr (HW.out.below HB.out)).mono ?_
        rintro e w3 ⟨v3, rfl, hV3, g3⟩
        have HB3 := Lib.hid (HB.out.trans (g3.mono HB.out.size))
        have H3 := Lib.hid hV3
        clear g3 hV3
        go_wp2_with fail
        with_reducible refine (CA.out w3 (HW.out.below HB3.out)).mono ?_
        rintro e w4 ⟨v4, rfl, hV4, g4⟩
        have HB4 := Lib.hid (HB3.out.trans (g4.mono HB3.out.size))
        have H3 := Lib.hid ((H3.out.below g4).mono g4.size (Nat.le_refl _))
        have H4 := Lib.hid hV4
        have hzi : ((Z : Nat) : Int) = ((X.size : Nat) : Int) := by rw [hyz]
        clear g4 hV4
        have HL4 := Lib.hid ((HV.out.below HB4.out).mono HB4.out.size (Nat.le_refl _))
        go_wp2_with fail
        with_reducible refine (Tx.same_c _ _ L _ H3.out HL4.out hLk).mono ?_
        rintro e w5 ⟨rfl, g5⟩
        have HB5 := Lib.hid (HB4.out.trans (g5.mono HB4.out.size))
        have H4 := Lib.hid ((H4.out.below g5).mono g5.size (Nat.le_refl _))
        have HL5 := Lib.hid ((HL4.out.below g5).mono g5.size (Nat.le_refl _))
        clear g5
        go_wp2_with fail
        with_reducible refine (Tx.same_c _ _ L _ H4.out HL5.out hLk).mono ?_
        rintro e w6 ⟨rfl, g6⟩
        have HB6 := Lib.hid (HB5.out.trans (g6.mono HB5.out.size))
        clear g6
        go_wp2
        go_ret
        exact ⟨rfl, HB6.out⟩
  · clear hT
    go_wp2_with fail
    with_reducible refine (Fr.lives_c w2 (HW.out.below HB2.out)).mono ?_
    rintro e w3 ⟨rfl, g3⟩
    have HB3 := Lib.hid (HB2.out.trans (g3.mono HB2.out.size))
    clear g3
    go_wp2
    go_ret
    exact ⟨rfl, HB3.out⟩
end Go.Proofs.Ytkbkhohknniibaa
