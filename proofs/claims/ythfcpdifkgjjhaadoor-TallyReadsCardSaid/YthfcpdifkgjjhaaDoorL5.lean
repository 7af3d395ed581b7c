/-
  The walk of the law TallyCuts.
-/
import Derived.Test.YthfcpdifkgjjhaaDoorL4
import Derived.Test.YthfcpdifkgjjhaaDoorM4
namespace Go.Proofs.YthfcpdifkgjjhaaDoor
open Go.RowKit
theorem Ty.cut_in (cut : Int) (m : Nat) (h : 0 < m) (hm : m ≤ 140737488355328) : 0 ≤ wrap64 ((IntKind.u64.wrap cut).tmod (m : Int)) ∧ wrap64 ((IntKind.u64.wrap cut).tmod (m : Int)) < (m : Int) := by
  have h0 : 0 ≤ IntKind.u64.wrap cut := by rw [IntKind.wrap_u64]; omega
  rw [Int.tmod_eq_emod_of_nonneg h0]
  have h1 := Int.emod_nonneg (IntKind.u64.wrap cut) (show (m : Int) ≠ 0 by omega)
  have h2 := Int.emod_lt_of_pos (IntKind.u64.wrap cut) (show (0 : Int) < m by omega)
  rw [IntWalk.wrap64_in _ (by omega)]
  exact ⟨h1, h2⟩
theorem Ty.extract0 (l : List UInt8) (k : Nat) : (Ty.S l).extract 0 k = Ty.S (l.take k) := by rw [Ty.extract_S, Ty.data_S]; simp
theorem Ty.txt_prefix (s : List UInt8) (hs : Ty.U64 s.length) (k : Nat) (hk : k < (Ty.encU s.length ++ s).length) : Ty.txt ((Ty.encU s.length ++ s).take k) (s.length : Int) = ([], 0, 2) := by
  rw [List.length_append] at hk
  by_cases h : k < (Ty.encU s.length).length
  · rw [List.take_append_of_le_length (by omega)]
    have e := Ty.num_prefix s.length hs k h
    rw [Ty.txt_bad (by rw [e]; decide), e]
  · rw [List.take_append]
    rw [List.take_of_length_le (by omega)]
    have e := Ty.num_encU s.length hs (s.take (k - (Ty.encU s.length).length))
    rw [Ty.txt_short (by rw [e]) (by rw [e]; simp) (by rw [e]; simp only [List.length_append, List.length_take]; omega)]
set_option maxHeartbeats 2000000 in
theorem Ty.cuts_w (n : Int) (hn : 0 ≤ n) (un : Ty.U64 n.toNat) (s : ByteArray) (hs : s.size ≤ 140737488351232) (cut : Int) (w : World) (hw : Ty.Tabs w) :
    Calls Tryd.prog 9 #[.int .u64 n, .string s, .int .i64 cut] w fun e w' => e = .returned (.bool true) ∧ Below w.heap.size w w' := by
  have p1 : 0 < (Ty.S (Ty.encU n.toNat)).size := by rw [Ty.size_S, Ty.encU_length]; omega
  have p2 : 0 < (Ty.S (Ty.encU s.size ++ s.data.toList)).size := by rw [Ty.size_S, List.length_append, Ty.encU_length]; omega
  have p3 : (Ty.S (Ty.encU n.toNat)).size ≤ 9 := Ty.encU_len9 _
  have p4 : (Ty.S (Ty.encU s.size ++ s.data.toList)).size ≤ 140737488355328 := by rw [Ty.size_S, List.length_append, Ty.length_data]; have := Ty.encU_len9 s.size; omega
  obtain ⟨q1, q2⟩ := Ty.cut_in cut _ p1 (by omega)
  obtain ⟨q3, q4⟩ := Ty.cut_in cut _ p2 p4
  have Hx : Hid (Ty.num ((Ty.encU n.toNat).take (wrap64 ((IntKind.u64.wrap cut).tmod ((Ty.S (Ty.encU n.toNat)).size : Int))).toNat) = (0, 0, 2)) := Lib.hid (Ty.num_prefix _ un _ (by rw [Ty.size_S] at q1 q2 ⊢; omega))
  have us : Ty.U64 s.data.toList.length := by unfold Ty.U64; rw [Ty.length_data]; omega
  have Hy : Hid (Ty.txt ((Ty.encU s.size ++ s.data.toList).take (wrap64 ((IntKind.u64.wrap cut).tmod ((Ty.S (Ty.encU s.size ++ s.data.toList)).size : Int))).toNat) (s.size : Int) = ([], 0, 2)) := Lib.hid (by
    have e := Ty.txt_prefix s.data.toList us (wrap64 ((IntKind.u64.wrap cut).tmod ((Ty.S (Ty.encU s.size ++ s.data.toList)).size : Int))).toNat (by rw [Ty.length_data]; rw [Ty.size_S] at q3 q4 ⊢; omega)
    rw [Ty.length_data] at e
    exact e)
  go_enter Tryd.func9, Tryd.ntmps9
  go_wp2_with fail
  refine (Ty.lives_c _ hw).mono ?_
  rintro e w1 ⟨rfl, hb⟩
  have hT := hw.below hb hw.two
  go_wp2_with fail
  go_region_with (first
    | (go_at_call 11; refine (Ty.uintNil n hn un _ ?_).mono ?_; exact hT.drew; rintro e wa ⟨va, rfl, hBa, hTa, hba⟩; have hca := hBa.str)
    | (go_at_call 13; refine (Ty.textNil s hs _ ?_).mono ?_; exact hTa; rintro e wb ⟨vb, rfl, hBb, hTb, hbb⟩; have hcb := hBb.str; have hca2 := (hBa.later hbb).str))
  all_goals
    try clear hca hcb hca2
    have hend : Below w.heap.size w wb := hb.trans ((((Below.refl _ w1).drew.trans hba).mono hb.size).trans (hbb.mono (Nat.le_trans hb.size hba.size)))
    clear hBa hBb hba hbb hTa
    go_wp2_with fail
    rw [Ty.extract0]
    refine (Ty.from_f _ _ hTb).mono ?_
    rintro e w2 ⟨rfl, hC, hT2, hg2⟩
    go_wp2_with fail
    rw [Ty.extract0]
    refine (Ty.from_f _ _ hT2).mono ?_
    rintro e w3 ⟨rfl, hD, hT3, hg3⟩
    have hC3 := hC.none_ hg3
    have l1 := hC.lt
    have b1 := hend.size
    have b2 := hw.two
    have hend3 : Below w.heap.size w w3 := hend.trans ((Ty.below_none hg2 b1).trans (Ty.below_none hg3 (Nat.le_trans b1 hg2.size)))
    clear hC hg2 hg3 hT2 hend
    go_wp2_with fail
    refine (Ty.cuint_c _ _ _ _ hT3 hC3 (by rw [List.length_take]; rw [Ty.size_S] at p3; omega)).mono ?_
    rintro e w4 ⟨rfl, hC4, hg4⟩
    have hD4 := hD.at_ hg4 (by omega)
    have hT4 := hT3.at_ hg4 (by omega)
    have hend4 := hend3.trans (Ty.below_at hg4 hend3.size (by omega))
    have er : ∀ l : List UInt8, Ty.num l = (0, 0, 2) → Ty.rdU l 0 = (0, l.drop 0, 2) := fun l h => by unfold Ty.rdU; rw [if_neg (by omega), h]
    rw [er _ Hx.out] at hC4 ⊢
    clear hC3 hD hT3 hg4 hend3
    go_wp2_with fail
    refine (Ty.err_c _ _ _ _ hC4).mono ?_
    rintro e w5 ⟨rfl, rfl⟩
    go_wp2_with fail
    refine (Ty.ctext_c _ _ _ _ (by omega) _ hT4 hD4 (by rw [List.length_take]; rw [Ty.size_S] at p4; omega)).mono ?_
    rintro e w6 ⟨rfl, hD6, hg6⟩
    have et : ∀ (l : List UInt8) (m : Int), Ty.txt l m = ([], 0, 2) → Ty.rdT m l 0 = ([], l.drop 0, 2) := fun l m h => by unfold Ty.rdT; rw [if_neg (by omega), h]
    have hend6 := hend4.trans (Ty.below_at hg6 hend4.size (by omega))
    rw [et _ _ Hy.out] at hD6 ⊢
    have hemp : (Ty.S []).toList.isEmpty = true := by rw [ByteArray.toList_eq]; rfl
    clear er et hC4 hD4 hT4 hg6 hend4
    go_wp2_with fail
    refine (Ty.err_c _ _ _ _ hD6).mono ?_
    rintro e w7 ⟨rfl, rfl⟩
    go_wp2
    go_ret
    exact ⟨rfl, hend6⟩
end Go.Proofs.YthfcpdifkgjjhaaDoor
