/-
  The laws of package frame: FrameTorn.
-/
import Derived.Test.YtkbkhohknniibaaL83
namespace Go.Proofs.Ytkbkhohknniibaa
open Go.RowKit
theorem Fr.size_cons (t : Fr.Str) (L : List Fr.Str) : Fr.size (t :: L) = t.length + 8 + Fr.size L := by simp [Fr.size]
/-- How many frames are whole, as it is counted. -/
theorem Fr.whole_is : ∀ (L : List Fr.Str) (k m : Nat), m ≤ L.length → (∀ j, j < m → Fr.size (L.take (j + 1)) ≤ k) → (m = L.length ∨ k < Fr.size (L.take (m + 1))) → Fr.whole L k = m
  | [], _, m, h, _, _ => by
    obtain rfl : m = 0 := by simpa using h
    rfl
  | t :: L, k, 0, _, _, h => by
    rcases h with h | h
    · simp at h
    · rw [List.take_succ_cons, List.take_zero, Fr.size_cons] at h
      have : Fr.size ([] : List Fr.Str) = 0 := rfl
      unfold Fr.whole
      rw [if_neg (by omega)]
  | t :: L, k, m + 1, h1, h2, h3 => by
    have h0 := h2 0 (by omega)
    rw [List.take_succ_cons, List.take_zero, Fr.size_cons] at h0
    have hz : Fr.size ([] : List Fr.Str) = 0 := rfl
    have ih := Fr.whole_is L (k - (t.length + 8)) m (by simpa using h1) (fun j hj => by
      have := h2 (j + 1) (by omega)
      rw [List.take_succ_cons, Fr.size_cons] at this
      omega) (by
      rcases h3 with h3 | h3
      · exact .inl (by simpa using h3)
      · rw [List.take_succ_cons, Fr.size_cons] at h3
        exact .inr (by omega))
    unfold Fr.whole
    rw [if_pos (by omega), ih]
theorem Fr.whole_le : ∀ (L : List Fr.Str) (k : Nat), Fr.whole L k ≤ L.length
  | [], _ => Nat.le_refl _
  | t :: L, k => by
    unfold Fr.whole
    have := Fr.whole_le L (k - (t.length + 8))
    rw [List.length_cons]
    split <;> omega
theorem Fr.at_take {B : Nat} {w : World} {a : Option Addr} {k c j : Nat} {L : List Fr.Str} (h : Tx.At B w (.slice a k c) L) (hj : j ≤ k) (hc : k ≤ c) : Tx.At B w (.slice a j c) (L.take j) := by
  obtain ⟨a, c, e, _, hB, h⟩ := h
  simp only [Value.slice.injEq] at e
  obtain ⟨rfl, rfl, rfl⟩ := e
  have hl : (L.take j).length = j := by rw [List.length_take]; omega
  refine ⟨_, _, by rw [hl], by rw [hl]; omega, hB, ?_⟩
  rcases h with ⟨rfl, h⟩ | ⟨b, o, rfl, hlt, h⟩
  · exact .inl ⟨by simp, h⟩
  · exact .inr ⟨b, o, rfl, hlt, fun i hi => by rw [Tx.sv_take L (by omega)]; exact h i (by omega)⟩
theorem Fr.infoInt : (Try.prog.info? 3).map (fun i => (i.zero, i.size, i.bytes)) = some (some (.int .i64 0), 1, 8) := by kernel_rfl
/-- Where frames end. -/
def Fr.ends (L : List Fr.Str) (i : Nat) : Value := .int .i64 ((Fr.size (L.take (i + 1)) : Nat) : Int)
set_option maxHeartbeats 4000000 in
set_option maxRecDepth 100000 in
theorem Fr.lawTorn_w (v : Value) (L : List Fr.Str) (cut : Int) (w : World) (hw : Fr.W w) (hv : Tx.At w.heap.size w v L) (hs : Fr.size L ≤ 70368744177664) :
    Calls Try.prog 6 #[v, .int .i64 cut] w fun e w' => e = .returned (.bool true) ∧ Below w.heap.size w w' := by
  have hln : 8 * L.length ≤ Fr.size L := by
    clear hv hs
    induction L with
    | nil => simp
    | cons t L ih => rw [Fr.size_cons, List.length_cons]; omega
  have HW := Lib.hid hw
  have HV := Lib.hid hv
  have HS := Lib.hid hs
  obtain ⟨n, hnn⟩ : ∃ n, n = L.length := ⟨_, rfl⟩
  have CL := Lib.hid fun wz (hz : Below w.heap.size w wz) => Fr.long_c v L wz ((hv.below hz).mono hz.size (Nat.le_refl _)) (by omega)
  obtain ⟨a, c, rfl, hlc, _, h⟩ := hv
  have HH := Lib.hid h
  have hn : n ≤ 8796093022208 := by omega
  rw [← hnn] at CL HV hlc ⊢
  have HN := Lib.hid hnn
  clear h hnn hln hs hw
  go_enter Try.func6, Try.ntmps6
  go_wp2_with fail
  with_reducible refine (Fr.lives_c w HW.out).mono ?_
  rintro e w1 ⟨rfl, g1⟩
  have HB1 := Lib.hid g1
  clear g1
  go_wp2_with fail
  with_reducible refine (CL.out w1 HB1.out).mono ?_
  rintro e w2 ⟨rfl, g2⟩
  have HB2 := Lib.hid (HB1.out.trans (g2.mono HB1.out.size))
  clear g2
  cases hT : Fr.tooLong L
  · have HA := Lib.hid (Fr.long_all hT)
    clear hT
    go_wp2
    go_loopw [5, 6, 7] (fun sv ev i wr => ∃ k : Nat, k ≤ n ∧ sv = .string (Ty.S ((L.take k).flatMap Fr.frm)) ∧ i = .int .i64 k ∧ Bt.Buf 3 w.heap.size wr ev k (Fr.ends L) ∧ Below w.heap.size w wr) (fun _ _ i _ => n - (intOf i).toNat)
    case atStart => exact ⟨0, by omega, by simp; rfl, rfl, Bt.Buf.nil _ _ _ _, HB2.out⟩
    case round =>
      obtain ⟨k, hk, rfl, rfl, hO, hb⟩ := hrel
      have HB := Lib.hid hb
      have HO := Lib.hid hO
      clear hO
      by_cases hl : k < n
      · rcases HH.out with h | ⟨b, o, rfl, hlt, h⟩
        · exact absurd hl (by rw [HN.out, h.1]; simp)
        · have hc := (hb.cell (p := ⟨b, o + k, none⟩) hlt).trans (h k (by rw [← HN.out]; exact hl))
          have hkL : k < L.length := by rw [← HN.out]; exact hl
          unfold Tx.sv at hc
          have hz := Fr.size_le L (k + 1)
          have hez : (Ty.S ((L.take (k + 1)).flatMap Fr.frm)).size = Fr.size (L.take (k + 1)) := (Ty.size_S _).trans (Fr.size_is _)
          have HEZ := Lib.hid hez
          have hs := HS.out
          have hz2 := hz
          rw [← Fr.size_is, Fr.flat_snoc L hkL, List.length_append, Fr.frm_len] at hz2
          have CW := Lib.hid fun wz h => Fr.write_c (Ty.S (L.getD k [])) (by rw [Ty.size_S]; omega) wz h
          rw [Ty.data_S] at CW
          have hy1 : (Ty.S ((L.take k).flatMap Fr.frm)).size = ((L.take k).flatMap Fr.frm).length := rfl
          have hy2 : (Ty.S (Fr.frm (L.getD k []))).size = (L.getD k []).length + 8 := (Ty.size_S _).trans (Fr.frm_len _)
          have hct : Ty.S ((L.take k).flatMap Fr.frm) ++ Ty.S (Fr.frm (L.getD k [])) = Ty.S ((L.take (k + 1)).flatMap Fr.frm) := by rw [Fr.S_add, ← Fr.flat_snoc L hkL]
          have HCT := Lib.hid hct
          have n1 : ¬ 9223372036854775807 < (Ty.S ((L.take k).flatMap Fr.frm)).size + (Ty.S (Fr.frm (L.getD k []))).size := by omega
          generalize Ty.S ((L.take k).flatMap Fr.frm) = X at n1 hct HCT
          generalize Ty.S (Fr.frm (L.getD k [])) = Y at n1 hct HCT CW
          generalize Ty.S (L.getD k []) = x at hc CW
          obtain ⟨S2, hS2⟩ : ∃ S2, S2 = Ty.S ((L.take (k + 1)).flatMap Fr.frm) := ⟨_, rfl⟩
          rw [← hS2] at hct HCT HEZ
          have HS2 := Lib.hid hS2
          have dk : (k : Int) < (n : Int) := by omega
          have dk0 : (0 : Int) ≤ (k : Int) := by omega
          have dk2 : (k : Int) < 140737488355328 := by omega
          clear h hb hy1 hy2 hz hz2 hez hs hkL hS2
          go_wp2_with fail
          with_reducible refine (CW.out wr (HW.out.below HB.out)).mono ?_
          rintro e w4 ⟨rfl, g4⟩
          have HB4 := Lib.hid (HB.out.trans (g4.mono HB.out.size))
          have hO4 := Bt.Buf.kept HO.out (g4)
          have hws := HB4.out.size
          clear g4
          go_wp2_with (at_builtin; refine Bt.wpList_append_one 3 35 (.int .i64 0) 8 Try.underlying35 Fr.infoInt rfl hO4 hws (by omega) (by omega) (.tmp 34) (.tmp 37) _ rfl rfl rfl rfl rfl ?_; intro v5 w5 h5 g5)
          have HO5 := Lib.hid (h5 (by rw [HEZ.out]; rfl))
          have HB5 := Lib.hid (HB4.out.trans (g5.below hws (Bt.Buf.base_le hO4)))
          clear h5 g5 hO4 hws
          go_wp2
          go_roundw
          case rel => exact ⟨k + 1, by omega, by rw [HS2.out], by simp, HO5.out, HB5.out⟩
          case measure => simp [intOf]; omega
      · obtain rfl : k = n := by omega
        have dk : ¬ (k : Int) < (k : Int) := by omega
        have e : L.take k = L := List.take_of_length_le (by rw [← HN.out]; omega)
        rw [e]
        have hs := HS.out
        have hyz : (Ty.S (L.flatMap Fr.frm)).size = Fr.size L := (Ty.size_S _).trans (Fr.size_is L)
        have HXX : Hid (Ty.S (L.flatMap Fr.frm) = Ty.S (L.flatMap Fr.frm)) := Lib.hid rfl
        obtain ⟨X, hX⟩ : ∃ X, X = Ty.S (L.flatMap Fr.frm) := ⟨_, rfl⟩
        rw [← hX] at hyz ⊢
        have HX := Lib.hid hX
        have HBB := Lib.hid hb
        obtain ⟨q, hq, hq2⟩ : ∃ q : Nat, (IntKind.u64.wrap cut).tmod ((X.size : Int) + 1) = (q : Int) ∧ q ≤ X.size := by
          rw [Int.tmod_eq_emod_of_nonneg (by rw [IntKind.wrap_u64]; exact Int.emod_nonneg _ (by decide))]
          have h1 := Int.emod_nonneg (IntKind.u64.wrap cut) (b := (X.size : Int) + 1) (by omega)
          have h2 := Int.emod_lt_of_pos (IntKind.u64.wrap cut) (b := (X.size : Int) + 1) (by omega)
          exact ⟨(IntKind.u64.wrap cut % ((X.size : Int) + 1)).toNat, by omega, by omega⟩
        have hXs : X.size ≤ 70368744177664 := by omega
        have hxe : X.extract 0 q = Ty.S ((L.flatMap Fr.frm).take q) := by rw [Fr.ext_at, hX, Ty.data_S, List.drop_zero, Nat.sub_zero]
        have hqs : (Ty.S ((L.flatMap Fr.frm).take q)).size ≤ 70368744177664 := by rw [Ty.size_S, List.length_take]; omega
        have CS := Lib.hid fun wz h => Fr.scan_c (Ty.S ((L.flatMap Fr.frm).take q)) hqs wz h
        rw [Ty.data_S, Fr.scan_torn L q HA.out] at CS
        have HWI := Lib.hid fun m => Fr.whole_is L q m
        have hwl : Fr.whole L q ≤ L.length := Fr.whole_le L q
        generalize hmm : Fr.whole L q = m at CS HWI hwl
        have HMM := Lib.hid hmm
        generalize Ty.S ((L.flatMap Fr.frm).take q) = X2 at hxe hqs CS
        have hq0 : (q : Int) ≤ (X.size : Int) := by omega
        have hq1 : (0 : Int) ≤ (q : Int) := by omega
        have hq3 : (q : Int) < 9223372036854775808 := by omega
        clear hX hb e hs hyz HXX hmm hq2
        go_wp2_with fail
        with_reducible refine (CS.out wr (HW.out.below HBB.out)).mono ?_
        rintro e w3 ⟨v3, rfl, hV3, g3⟩
        have HB3 := Lib.hid (HBB.out.trans (g3.mono HBB.out.size))
        have H3 := Lib.hid hV3
        have HO3 := Lib.hid (Bt.Buf.kept HO.out g3)
        clear g3 hV3
        go_wp2_with fail
        obtain ⟨ea, ec, rfl, hee⟩ := (Bt.Buf.sl HO3.out).is
        have hkb : k ≤ 8796093022208 := hn
        obtain ⟨b2, o2, HEA, HCE⟩ : ∃ b2 o2, Hid (k ≠ 0 → ea = some ⟨b2, o2, none⟩) ∧ Hid (∀ i, i < k → ∀ wz, Below w3.heap.size w3 wz → wz.cell? ⟨b2, o2 + i, none⟩ = some (Fr.ends L i)) := by
          rcases hee with h | ⟨b2, o2, rfl, hlt, h⟩
          · exact ⟨0, 0, Lib.hid fun h2 => absurd h h2, Lib.hid fun i hi => by omega⟩
          · exact ⟨b2, o2, Lib.hid fun _ => rfl, Lib.hid fun i hi wz g => (g.cell (p := ⟨b2, o2 + i, none⟩) hlt).trans (h i hi)⟩
        clear hee
        go_loopw [12] (fun iv wr2 => ∃ j : Nat, j ≤ k ∧ iv = .int .i64 j ∧ (∀ i, i < j → Fr.size (L.take (i + 1)) ≤ q) ∧ Below w3.heap.size w3 wr2) (fun iv _ => k - (intOf iv).toNat)
        case atStart => exact ⟨0, by omega, rfl, fun i hi => absurd hi (by omega), Below.refl _ _⟩
        case round =>
          obtain ⟨j, hjk, rfl, hq5, hb2⟩ := hrel
          have HQ5 := Lib.hid hq5
          have HBR := Lib.hid (HB3.out.trans (hb2.mono HB3.out.size))
          clear hq5
          by_cases hl2 : j < k
          · obtain rfl := HEA.out (by omega)
            have hcj := HCE.out j hl2 _ hb2
            unfold Fr.ends at hcj
            have dj : (j : Int) < (k : Int) := by omega
            have dj0 : (0 : Int) ≤ (j : Int) := by omega
            have dj2 : (j : Int) < 140737488355328 := by omega
            by_cases hzq : Fr.size (L.take (j + 1)) ≤ q
            · have HQ6 : Hid (∀ i, i < j + 1 → Fr.size (L.take (i + 1)) ≤ q) := Lib.hid fun i hi => by
                rcases (by omega : i < j ∨ i = j) with h | rfl
                · exact HQ5.out i h
                · exact hzq
              generalize Fr.size (L.take (j + 1)) = Z at hcj hzq
              have hzi : (Z : Int) ≤ (q : Int) := by omega
              have HB2 := Lib.hid hb2
              clear hzq hb2
              go_wp2
              go_roundw
              case rel => exact ⟨j + 1, by omega, by simp, HQ6.out, HB2.out⟩
              case measure => simp [intOf]; omega
            · have hmj : m = j := HWI.out j (by rw [← HN.out]; exact hjk) HQ5.out (.inr (by omega))
              subst hmj
              generalize Fr.size (L.take (m + 1)) = Z at hcj hzq
              have hzi : ¬ (Z : Int) ≤ (q : Int) := by omega
              clear hzq
              have hat : Tx.At w.heap.size w (.slice a m c) (L.take m) := Fr.at_take HV.out hjk hlc
              have HAT := Lib.hid ((hat.below HBR.out).mono HBR.out.size (Nat.le_refl _))
              clear hat
              have H3 := Lib.hid ((H3.out.below hb2).mono hb2.size (Nat.le_refl _))
              have hjc : (m : Int) ≤ (c : Int) := by omega
              have hjc0 : (0 : Int) ≤ (m : Int) := by omega
              have hlt3 : Hid ((L.take m).length ≤ 140737488355328) := Lib.hid (by rw [List.length_take]; omega)
              by_cases hj0 : m = 0
              · have hji : ¬ (0 : Int) < (m : Int) := by omega
                have hzz : ((Fr.size (L.take m) : Nat) : Int) = 0 := by rw [hj0]; rfl
                generalize Fr.size (L.take m) = Z2 at hzz
                clear hj0 hb2
                go_upto_region 16 with (fail)
                try clear hxe; try clear hq; try clear hqs; try clear hq0; try clear hq1; try clear hq3; try clear hXs; try clear hkb; try clear hk; try clear hl; try clear hl2; try clear hzi; try clear hwl; try clear dj; try clear dj0; try clear dj2; try clear hjk; try clear dk
                go_wp2_with fail
                with_reducible refine (Tx.same_c _ _ (L.take m) _ H3.out HAT.out hlt3.out).mono ?_
                rintro e w5 ⟨rfl, g5⟩
                have HB5 := Lib.hid (HBR.out.trans (g5.mono HBR.out.size))
                clear g5
                go_wp2
                go_ret
                exact ⟨rfl, HB5.out⟩
              · have hji : (0 : Int) < (m : Int) := by omega
                have hcj := HCE.out (m - 1) (by omega) _ hb2
                unfold Fr.ends at hcj
                rw [show m - 1 + 1 = m by omega] at hcj
                have tj : ((m : Int) - 1).toNat = m - 1 := by omega
                have tj2 : (m : Int) - 1 < (k : Int) := by omega
                have tj3 : (0 : Int) ≤ (m : Int) - 1 := by omega
                generalize Fr.size (L.take m) = Z2 at hcj
                clear hj0 hb2
                go_upto_region 16 with (fail)
                try clear hxe; try clear hq; try clear hqs; try clear hq0; try clear hq1; try clear hq3; try clear hXs; try clear hkb; try clear hk; try clear hl; try clear hl2; try clear hzi; try clear hwl; try clear dj; try clear dj0; try clear dj2; try clear hjk; try clear dk
                go_wp2_with fail
                with_reducible refine (Tx.same_c _ _ (L.take m) _ H3.out HAT.out hlt3.out).mono ?_
                rintro e w5 ⟨rfl, g5⟩
                have HB5 := Lib.hid (HBR.out.trans (g5.mono HBR.out.size))
                clear g5
                go_wp2
                go_ret
                exact ⟨rfl, HB5.out⟩
          · obtain rfl : j = k := by omega
            have hmj : m = j := HWI.out j (by rw [← HN.out]; exact Nat.le_refl _) HQ5.out (.inl HN.out)
            subst hmj
            have dj : ¬ (m : Int) < (m : Int) := by omega
            have hat : Tx.At w.heap.size w (.slice a m c) (L.take m) := Fr.at_take HV.out hjk hlc
            have HAT := Lib.hid ((hat.below HBR.out).mono HBR.out.size (Nat.le_refl _))
            clear hat
            have H3 := Lib.hid ((H3.out.below hb2).mono hb2.size (Nat.le_refl _))
            have hjc : (m : Int) ≤ (c : Int) := by omega
            have hjc0 : (0 : Int) ≤ (m : Int) := by omega
            have hlt3 : Hid ((L.take m).length ≤ 140737488355328) := Lib.hid (by rw [List.length_take]; omega)
            by_cases hj0 : m = 0
            · have hji : ¬ (0 : Int) < (m : Int) := by omega
              have hzz : ((Fr.size (L.take m) : Nat) : Int) = 0 := by rw [hj0]; rfl
              generalize Fr.size (L.take m) = Z2 at hzz
              clear hj0 hb2
              go_upto_region 16 with (fail)
              try clear hxe; try clear hq; try clear hqs; try clear hq0; try clear hq1; try clear hq3; try clear hXs; try clear hkb; try clear hk; try clear hl; try clear hl2; try clear hzi; try clear hwl; try clear dj; try clear dj0; try clear dj2; try clear hjk; try clear dk
              go_wp2_with fail
              with_reducible refine (Tx.same_c _ _ (L.take m) _ H3.out HAT.out hlt3.out).mono ?_
              rintro e w5 ⟨rfl, g5⟩
              have HB5 := Lib.hid (HBR.out.trans (g5.mono HBR.out.size))
              clear g5
              go_wp2
              go_ret
              exact ⟨rfl, HB5.out⟩
            · have hji : (0 : Int) < (m : Int) := by omega
              obtain rfl := HEA.out hj0
              have hcj := HCE.out (m - 1) (by omega) _ hb2
              unfold Fr.ends at hcj
              rw [show m - 1 + 1 = m by omega] at hcj
              have tj : ((m : Int) - 1).toNat = m - 1 := by omega
              have tj2 : (m : Int) - 1 < (m : Int) := by omega
              have tj3 : (0 : Int) ≤ (m : Int) - 1 := by omega
              generalize Fr.size (L.take m) = Z2 at hcj
              clear hj0 hb2
              go_upto_region 16 with (fail)
              try clear hxe; try clear hq; try clear hqs; try clear hq0; try clear hq1; try clear hq3; try clear hXs; try clear hkb; try clear hk; try clear hl; try clear hl2; try clear hzi; try clear hwl; try clear dj; try clear dj0; try clear dj2; try clear hjk; try clear dk
              go_wp2_with fail
              with_reducible refine (Tx.same_c _ _ (L.take m) _ H3.out HAT.out hlt3.out).mono ?_
              rintro e w5 ⟨rfl, g5⟩
              have HB5 := Lib.hid (HBR.out.trans (g5.mono HBR.out.size))
              clear g5
              go_wp2
              go_ret
              exact ⟨rfl, HB5.out⟩
  · clear hT
    go_wp2_with fail
    with_reducible refine (Fr.lives_c w2 (HW.out.below HB2.out)).mono ?_
    rintro e w3 ⟨rfl, g3⟩
    have HB3 := Lib.hid (HB2.out.trans (g3.mono HB2.out.size))
    clear g3
    go_wp2
    go_ret
    exact ⟨rfl, HB3.out⟩
end Go.Proofs.Ytkbkhohknniibaa
