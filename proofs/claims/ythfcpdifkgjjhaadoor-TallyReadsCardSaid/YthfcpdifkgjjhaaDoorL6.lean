/-
  The walk of the law TallyOnly.
-/
import Derived.Test.YthfcpdifkgjjhaaDoorL5
import Derived.Deep.DeepCutAuto
import Derived.Deep.QuietTactic
import Derived.BigQuiet
import Derived.WalkSmall
namespace Go.Proofs.YthfcpdifkgjjhaaDoor
open Go.RowKit
theorem Ty.Cur.drew {b : Nat} {w : World} {l : List UInt8} {e : Nat} (h : Ty.Cur b w l e) : Ty.Cur b w.drew l e := h
theorem Ty.Cur.drewN {b : Nat} {w : World} {l : List UInt8} {e : Nat} (h : Ty.Cur b w l e) (n : Nat) : Ty.Cur b (w.drewN n) l e := h
theorem Ty.Tabs.drewN {w : World} (h : Ty.Tabs w) (n : Nat) : Ty.Tabs (w.drewN n) := h.kept (Nat.le_refl _) fun _ _ => rfl
theorem Ty.rdU_of {l : List UInt8} {n sz e : Nat} (h : Ty.num l = (n, sz, e)) : Ty.rdU l 0 = (n, l.drop sz, e) := by unfold Ty.rdU; rw [if_neg (by omega), h]
theorem Ty.rdT_of {l t : List UInt8} {m : Int} {sz e : Nat} (h : Ty.txt l m = (t, sz, e)) : Ty.rdT m l 0 = (t, l.drop sz, e) := by unfold Ty.rdT; rw [if_neg (by omega), h]
theorem Ty.left_is (b : Nat) (l : List UInt8) (er : Nat) (w : World) (k : Int) (hk : k = (l.length : Int)) (h : Ty.Cur b w l er) :
    Calls Tryd.prog 27 #[.pointer (some ⟨b, 0, none⟩)] w fun e w' => e = .returned (.int .i64 k) ∧ w' = w := by
  rw [hk]
  exact Ty.left_c b l er w h
theorem Ty.uintNilN (n : Nat) (hz : Ty.U64 n) (w : World) (hw : Ty.Tabs w) :
    Calls Tryd.prog 11 #[.slice none 0 0, .int .u64 (n : Int)] w (Ty.Fresh w (Ty.encU n)) :=
  Ty.uintNil (n : Int) (by omega) hz w hw
theorem Ty.textNilL (t : List UInt8) (hs : t.length ≤ 140737488351232) (w : World) (hw : Ty.Tabs w) :
    Calls Tryd.prog 13 #[.slice none 0 0, .string (Ty.S t)] w (Ty.Fresh w (Ty.encU t.length ++ t)) :=
  Ty.textNil (Ty.S t) hs w hw
theorem Ty.txt_only (l : List UInt8) (m : Int) (h : (Ty.txt l m).2.2 = 0) : Ty.encU (Ty.txt l m).1.length ++ (Ty.txt l m).1 = l.take (Ty.txt l m).2.1 := by
  unfold Ty.txt at h ⊢
  split at h
  · rename_i h1; exact absurd h h1
  · rename_i h1
    rw [if_neg h1]
    split at h
    · cases h
    · rename_i h2
      rw [if_neg h2]
      split at h
      · cases h
      · rename_i h3
        rw [if_neg h3]
        have e := Ty.encU_num l (by omega)
        have hl : ((l.drop (Ty.num l).2.1).take (Ty.num l).1).length = (Ty.num l).1 := by rw [List.length_take, List.length_drop]; omega
        show Ty.encU ((l.drop (Ty.num l).2.1).take (Ty.num l).1).length ++ _ = l.take ((Ty.num l).2.1 + (Ty.num l).1)
        rw [hl, e.1, List.take_add]
theorem Ty.txt_len (l : List UInt8) (m : Int) : (Ty.txt l m).1.length ≤ l.length := by
  unfold Ty.txt
  repeat' split
  all_goals simp
  all_goals omega
/-- The bytes that a reading went past, as the laws cut them out: their end is m. -/
theorem Ty.past (l x : List UInt8) (sz : Nat) (hz : sz ≤ l.length) (hs : l.length ≤ 140737488351232) (hx : x = l.take sz) : ∃ k m : Int, k = ((l.drop sz).length : Int) ∧ 0 ≤ k ∧ k ≤ ((Ty.S l).size : Int) ∧ IntKind.i64.wrap (((Ty.S l).size : Int) - k) = m ∧ 0 ≤ m ∧ m ≤ ((Ty.S l).size : Int) ∧ ((Ty.S x).toList == ((Ty.S l).extract 0 m.toNat).toList) = true := by
  refine ⟨_, (sz : Int), rfl, by omega, by rw [List.length_drop, Ty.size_S]; omega, ?_, by omega, by rw [Ty.size_S]; omega, ?_⟩
  · rw [IntWalk.i64_in _ (by rw [List.length_drop, Ty.size_S]; omega), List.length_drop, Ty.size_S]; omega
  · rw [Ty.extract0, Ty.S_beq, hx]; simp
set_option maxHeartbeats 4000000 in
theorem Ty.only_w (l : List UInt8) (hs : l.length ≤ 140737488351232) (w : World) (hw : Ty.Tabs w) :
    Calls Tryd.prog 6 #[.string (Ty.S l)] w fun e w' => e = .returned (.bool true) ∧ Below w.heap.size w w' := by
  have hsz : (Ty.S l).size ≤ 140737488351232 := hs
  obtain ⟨n, sz, e1, hnum⟩ : ∃ n sz e1, Ty.num l = (n, sz, e1) := ⟨_, _, _, rfl⟩
  obtain ⟨t, tz, e2, htxt⟩ : ∃ t tz e2, Ty.txt l ((Ty.S l).size : Int) = (t, tz, e2) := ⟨_, _, _, rfl⟩
  have un : Ty.U64 n := by have := Ty.num_u64 l; rw [hnum] at this; exact this
  have zn : sz ≤ l.length := by have := Ty.num_size l; rw [hnum] at this; exact this
  have zt : tz ≤ l.length := by have := Ty.txt_size l ((Ty.S l).size : Int); rw [htxt] at this; exact this
  have lt : t.length ≤ 140737488351232 := by have := Ty.txt_len l ((Ty.S l).size : Int); rw [htxt] at this; exact Nat.le_trans this hs
  have X1 : Hid (e1 = 0 → Ty.encU n = l.take sz) := Lib.hid (by have := Ty.encU_num l; rw [hnum] at this; exact fun h => (this h).1)
  have X2 : Hid (e2 = 0 → Ty.encU t.length ++ t = l.take tz) := Lib.hid (by have := Ty.txt_only l ((Ty.S l).size : Int); rw [htxt] at this; exact this)
  have HU := Lib.hid (Ty.rdU_of hnum)
  have HT := Lib.hid (Ty.rdT_of htxt)
  clear hnum htxt
  go_enter Tryd.func6, Tryd.ntmps6
  go_wp2_with fail
  refine (Ty.lives_c _ hw).mono ?_
  rintro e w1 ⟨rfl, hb⟩
  have hT := hw.below hb hw.two
  go_wp2_with fail
  refine (Ty.from_f l _ hT).mono ?_
  rintro e w2 ⟨rfl, hC, hT2, hg2⟩
  go_wp2_with fail
  refine (Ty.from_f l _ hT2).mono ?_
  rintro e w3 ⟨rfl, hD, hT3, hg3⟩
  have hC3 := hC.none_ hg3
  have l1 := hC.lt
  have b1 := hb.size
  have b2 := hw.two
  have hend3 : Below w.heap.size w w3 := hb.trans ((Ty.below_none hg2 b1).trans (Ty.below_none hg3 (Nat.le_trans b1 hg2.size)))
  clear hC hg2 hg3 hT2 hb hT
  go_wp2_with fail
  refine (Ty.cuint_c _ _ _ _ hT3 hC3 (by omega)).mono ?_
  rintro e w4 ⟨rfl, hC4, hg4⟩
  have hD4 := hD.at_ hg4 (by omega)
  have hT4 := hT3.at_ hg4 (by omega)
  have hend4 := hend3.trans (Ty.below_at hg4 hend3.size (by omega))
  rw [HU.out] at hC4 ⊢
  clear hC3 hD hT3 hg4 hend3 HU
  go_wp2_with fail
  refine (Ty.ctext_c _ _ _ _ (by omega) _ hT4 hD4 (by omega)).mono ?_
  rintro e w6 ⟨rfl, hD6, hg6⟩
  have hC6 := hC4.at_ hg6 (by omega)
  have hT6 := hT4.at_ hg6 (by omega)
  have hend6 := hend4.trans (Ty.below_at hg6 hend4.size (by omega))
  rw [HT.out] at hD6 ⊢
  have hlt6 : w1.heap.size < w6.drew.heap.size := hC6.lt
  have hld6 : w2.heap.size < w6.drew.heap.size := hD6.lt
  clear hC4 hD4 hT4 hg6 hend4 HT
  go_upto_region 6 with fail
  go_cut [34] (fun s34 wx => s34 = .bool false ∧ Ty.Cur w2.heap.size wx (l.drop tz) e2 ∧ Ty.Tabs wx ∧ Below w.heap.size w wx)
  case first =>
    by_cases he : e1 = 0
    · obtain ⟨k, m, hk, k0, k1, hwr, m0, m1, hcmp⟩ := Ty.past l _ sz zn hs (X1.out he)
      have HK := Lib.hid hk
      subst he
      clear hk
      go_region_with (first
        | (go_at_call 29; refine (Ty.err_c _ _ _ _ hC6.drew).mono ?_; rintro e wx ⟨rfl, rfl⟩)
        | (go_at_call 11; refine (Ty.uintNilN n un _ hT6.drew).mono ?_; rintro e wa ⟨va, rfl, hBa, hTa, hba⟩; have hca := hBa.str; have hCa := hC6.drew.below hba hlt6)
        | (go_at_call 27; refine (Ty.left_is _ _ _ _ k HK.out hCa).mono ?_; rintro e wy ⟨rfl, rfl⟩))
      all_goals
        go_wp2_with fail
        go_meet
        exact ⟨rfl, hD6.drew.below hba hld6, hTa, hend6.drew.trans (hba.mono hend6.size)⟩
    · have hne : ((e1 : Int) == 0) = false := by rw [beq_eq_false_iff_ne]; omega
      clear he
      go_quiet ((go_at_call 29; exact Calls.quiet_of_same (Ty.err_c _ _ _ _ (hC6.drewN _))))
      go_wp2_with fail
      go_meet
      exact ⟨rfl, hD6.drewN _, hT6.drewN _, below_drewN hend6 _⟩
  case rest =>
    obtain ⟨rfl, hD7, hT7, hend7⟩ := hcut
    have hld7 : w2.heap.size < wc.drew.heap.size := hD7.lt
    go_wp2_with fail
    by_cases he : e2 = 0
    · obtain ⟨k, m, hk, k0, k1, hwr, m0, m1, hcmp⟩ := Ty.past l _ tz zt hs (X2.out he)
      have HK := Lib.hid hk
      subst he
      clear hk
      go_region_with (first
        | (go_at_call 29; refine (Ty.err_c _ _ _ _ hD7.drew).mono ?_; rintro e wx ⟨rfl, rfl⟩)
        | (go_at_call 13; refine (Ty.textNilL t lt _ hT7.drew).mono ?_; rintro e wa ⟨va, rfl, hBa, hTa, hba⟩; have hca := hBa.str; have hCa := hD7.drew.below hba hld7)
        | (go_at_call 27; refine (Ty.left_is _ _ _ _ k HK.out hCa).mono ?_; rintro e wy ⟨rfl, rfl⟩))
      all_goals
        go_wp2
        go_ret
        exact ⟨rfl, hend7.drew.trans (hba.mono hend7.size)⟩
    · have hne : ((e2 : Int) != 0) = true := by rw [bne_iff_ne]; omega
      clear he
      go_quiet ((go_at_call 29; exact Calls.quiet_of_same (Ty.err_c _ _ _ _ (hD7.drewN _))))
      go_wp2
      go_ret
      exact ⟨rfl, below_drewN hend7 _⟩
end Go.Proofs.YthfcpdifkgjjhaaDoor
