/-
  The law ColumnKinds.
-/
import Derived.Test.YtcognkgabdaneaaGreatDoorC8
namespace Go.Proofs.YtcognkgabdaneaaGreatDoor
open Go.RowKit
def Cl.zero : Kn.V := ⟨false, 0, ⟨#[]⟩⟩
theorem Cl.zero_is {x : Kn.V} (h1 : Cl.is ⟨1, false⟩ x = true) (h2 : Cl.is ⟨2, false⟩ x = true) : x = Cl.zero := by
  have hn : x.null = false := by
    cases hn : x.null
    · rfl
    · have := (Cl.is_null h1 hn).2
      cases this
  have e1 := Cl.is_num (c := ⟨1, false⟩) rfl h1 hn
  have e2 := (Cl.is_str (c := ⟨2, false⟩) (by decide) h2 hn).1
  rw [e1] at e2 ⊢
  unfold Cl.ofN Cl.ofS at e2
  simp only [Kn.V.mk.injEq] at e2
  unfold Cl.ofN Cl.zero
  rw [e2.2.1]
theorem Cl.is_wide {x : Kn.V} (h : Cl.is ⟨1, false⟩ x = true) : Cl.is ⟨1, true⟩ x = true := by
  unfold Cl.is at h ⊢
  simp only [Bool.and_eq_true, Bool.or_true, and_true] at h ⊢
  exact h.1
theorem Cl.wE_wide {l : List Kn.V} (h : Cl.wE ⟨1, false⟩ l = 0) : Cl.wV ⟨1, true⟩ l = Cl.wV ⟨1, false⟩ l := by
  obtain ⟨_, hl, ha⟩ := Cl.wE_0 h
  have ha2 : l.all (Cl.is ⟨1, true⟩) = true := List.all_eq_true.2 fun v hv => Cl.is_wide (List.all_eq_true.1 ha v hv)
  have h2 : Cl.wE ⟨1, true⟩ l = 0 := by
    unfold Cl.wE
    rw [if_pos (by decide), if_neg (by omega), if_pos ha2]
  rw [Cl.wV_ok h, Cl.wV_ok h2]
  rfl
theorem Cl.enc_pos (c : Kn.C) (l : List Kn.V) : 0 < (Cl.enc c l).length := by
  have : 0 < (Ty.encU l.length).length := by rw [Ty.encU_length]; omega
  unfold Cl.enc
  rw [List.length_append]
  omega
set_option maxHeartbeats 2000000 in
set_option maxRecDepth 100000 in
theorem Cl.lawKinds_w (v : Value) (l : List Kn.V) (w : World) (hw : Cl.T w) (hv : Kn.Vals w v l) (hi : ∀ v ∈ l, Ty.I64 v.n) :
    Calls Tryz.prog 7 #[v] w fun e w' => e = .returned (.bool true) ∧ Below w.heap.size w w' := by
  have c1 := fun wz hT h => Cl.write_c ⟨1, false⟩ v l wz hT h hi
  have c2 := fun wz hT h => Cl.write_c ⟨2, false⟩ v l wz hT h hi
  have c3 := fun wz hT h => Cl.write_c ⟨1, true⟩ v l wz hT h hi
  have HV := Lib.hid hv
  clear hi hv
  by_cases hE1 : Cl.wE ⟨1, false⟩ l = 0
  · rw [Cl.wE_wide hE1] at c3
    rw [Cl.wV_ok hE1] at c1 c3
    have hp1 : 0 < (Ty.S (Cl.enc ⟨1, false⟩ l)).size := by rw [Ty.size_S]; exact Cl.enc_pos ⟨1, false⟩ l
    have hself : ((Ty.S (Cl.enc ⟨1, false⟩ l)).toList == (Ty.S (Cl.enc ⟨1, false⟩ l)).toList) = true := by simp
    by_cases hE2 : Cl.wE ⟨2, false⟩ l = 0
    · rw [Cl.wV_ok hE2] at c2
      have hp2 : 0 < (Ty.S (Cl.enc ⟨2, false⟩ l)).size := by rw [Ty.size_S]; exact Cl.enc_pos ⟨2, false⟩ l
      have HZ : Hid (∀ (i : Nat) (x : Kn.V), l[i]? = some x → x = Cl.zero) := Lib.hid fun i x hx =>
        Cl.zero_is (List.all_eq_true.1 (Cl.wE_0 hE1).2.2 x (List.mem_of_getElem? hx)) (List.all_eq_true.1 (Cl.wE_0 hE2).2.2 x (List.mem_of_getElem? hx))
      generalize Ty.S (Cl.enc ⟨1, false⟩ l) = S1 at c1 c3 hp1 hself
      generalize Ty.S (Cl.enc ⟨2, false⟩ l) = S2 at c2 hp2
      unfold Kn.C.val at c1 c2 c3
      clear hE1 hE2
      obtain ⟨a, cp, rfl, h⟩ := HV.out.is
      have HH := Lib.hid h
      clear h
      go_enter Tryz.func7, Tryz.ntmps7
      go_wp2_with fail
      refine (Cl.lives_c _ hw).mono ?_
      rintro e w1 ⟨rfl, hb1⟩
      have d1 := c1 _ (hw.below hb1) (HV.out.later hb1)
      clear c1
      go_wp2_with fail
      refine d1.mono ?_
      rintro e w2 ⟨rfl, g2⟩
      have hb2 := hb1.trans (g2.mono hb1.size)
      have d2 := c2 _ (hw.below hb2) (HV.out.later hb2)
      clear c2 d1 g2 hb1
      go_wp2_with fail
      refine d2.mono ?_
      rintro e w3 ⟨rfl, g3⟩
      have hb3 := hb2.trans (g3.mono hb2.size)
      have d3 := c3 _ (hw.below hb3) (HV.out.later hb3)
      clear c3 d2 g3 hb2
      go_wp2_with fail
      refine d3.mono ?_
      rintro e w4 ⟨rfl, g4⟩
      have hb4 := hb3.trans (g4.mono hb3.size)
      have HB4 := Lib.hid hb4
      clear d3 g4 hb3 hb4
      go_wp2_with fail
      go_loop [9] (fun i => ∃ k : Nat, k ≤ l.length ∧ i = .int .i64 k) (fun i => l.length - (intOf i).toNat)
      case atStart => exact ⟨0, by omega, rfl⟩
      case round =>
        obtain ⟨k, hkl, rfl⟩ := hrel
        by_cases hlt : k < l.length
        · rcases HH.out with h | ⟨b, o, rfl, hbl, hm, h⟩
          · exact absurd hlt (by rw [h]; simp)
          · obtain ⟨x, hx⟩ : ∃ x, l[k]? = some x := ⟨_, List.getElem?_eq_getElem hlt⟩
            obtain ⟨a0, a1, a2⟩ := (h k x hx).later HB4.out
            have hz := HZ.out k x hx
            subst hz
            have dk : (k : Int) < (l.length : Int) := by omega
            have dk0 : (0 : Int) ≤ (k : Int) := by omega
            have e1 : Cl.zero.null = false := rfl
            have e2 : Cl.zero.n = 0 := rfl
            have e3 : Cl.zero.s = ⟨#[]⟩ := rfl
            rw [e1] at a0
            rw [e2] at a1
            rw [e3] at a2
            clear h hx e1 e2 e3
            go_wp2
            go_round
            case rel => exact ⟨k + 1, by omega, by simp⟩
            case measure => simp [intOf]; omega
        · obtain rfl : k = l.length := by omega
          have dk : ¬ (l.length : Int) < (l.length : Int) := by omega
          go_wp2
          go_ret
          exact ⟨rfl, HB4.out⟩
    · rw [Cl.wV_bad rfl hE2] at c2
      have hz : (((Cl.wE ⟨2, false⟩ l : Nat) : Int) != 0) = true := by rw [bne_iff_ne]; omega
      generalize ((Cl.wE ⟨2, false⟩ l : Nat) : Int) = E2 at c2 hz
      generalize Ty.S (Cl.enc ⟨1, false⟩ l) = S1 at c1 c3 hp1 hself
      generalize Ty.S [] = S2 at c2
      unfold Kn.C.val at c1 c2 c3
      clear hE1 hE2
      go_enter Tryz.func7, Tryz.ntmps7
      go_wp2_with fail
      refine (Cl.lives_c _ hw).mono ?_
      rintro e w1 ⟨rfl, hb1⟩
      have d1 := c1 _ (hw.below hb1) (HV.out.later hb1)
      clear c1
      go_wp2_with fail
      refine d1.mono ?_
      rintro e w2 ⟨rfl, g2⟩
      have hb2 := hb1.trans (g2.mono hb1.size)
      have d2 := c2 _ (hw.below hb2) (HV.out.later hb2)
      clear c2 d1 g2 hb1
      go_wp2_with fail
      refine d2.mono ?_
      rintro e w3 ⟨rfl, g3⟩
      have hb3 := hb2.trans (g3.mono hb2.size)
      have d3 := c3 _ (hw.below hb3) (HV.out.later hb3)
      clear c3 d2 g3 hb2
      go_wp2_with fail
      refine d3.mono ?_
      rintro e w4 ⟨rfl, g4⟩
      have hb4 := hb3.trans (g4.mono hb3.size)
      clear d3 g4 hb3
      go_wp2
      go_ret
      exact ⟨rfl, hb4⟩
  · rw [Cl.wV_bad rfl hE1] at c1
    have hz : (((Cl.wE ⟨1, false⟩ l : Nat) : Int) == 0) = false := by rw [beq_eq_false_iff_ne]; omega
    have hz2 : (((Cl.wE ⟨1, false⟩ l : Nat) : Int) != 0) = true := by rw [bne_iff_ne]; omega
    unfold Cl.wV at c2 c3
    generalize ((Cl.wE ⟨1, false⟩ l : Nat) : Int) = E1 at c1 hz hz2
    generalize ((Cl.wE ⟨2, false⟩ l : Nat) : Int) = E2 at c2
    generalize ((Cl.wE ⟨1, true⟩ l : Nat) : Int) = E3 at c3
    generalize Ty.S [] = S1 at c1
    generalize Ty.S (Cl.wS ⟨2, false⟩ l) = S2 at c2
    generalize Ty.S (Cl.wS ⟨1, true⟩ l) = S3 at c3
    unfold Kn.C.val at c1 c2 c3
    clear hE1
    go_enter Tryz.func7, Tryz.ntmps7
    go_wp2_with fail
    refine (Cl.lives_c _ hw).mono ?_
    rintro e w1 ⟨rfl, hb1⟩
    have d1 := c1 _ (hw.below hb1) (HV.out.later hb1)
    clear c1
    go_wp2_with fail
    refine d1.mono ?_
    rintro e w2 ⟨rfl, g2⟩
    have hb2 := hb1.trans (g2.mono hb1.size)
    have d2 := c2 _ (hw.below hb2) (HV.out.later hb2)
    clear c2 d1 g2 hb1
    go_wp2_with fail
    refine d2.mono ?_
    rintro e w3 ⟨rfl, g3⟩
    have hb3 := hb2.trans (g3.mono hb2.size)
    have d3 := c3 _ (hw.below hb3) (HV.out.later hb3)
    clear c3 d2 g3 hb2
    go_wp2_with fail
    refine d3.mono ?_
    rintro e w4 ⟨rfl, g4⟩
    have hb4 := hb3.trans (g4.mono hb3.size)
    clear d3 g4 hb3
    go_wp2
    go_ret
    exact ⟨rfl, hb4⟩
end Go.Proofs.YtcognkgabdaneaaGreatDoor
