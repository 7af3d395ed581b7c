/-
  The walk of the law ZoneSafe.
-/
import Derived.Test.YtdjnjhlcdcmeaaaZA
import Derived.Test.YtdjnjhlcdcmeaaaZ1
namespace Go.Proofs.Ytdjnjhlcdcmeaaa
open Go.RowKit
theorem Zn.any_take {l : List Kn.V} {k : Nat} {x : Kn.V} (h : l[k]? = some x) (p : Kn.V → Bool) : (l.take (k + 1)).any p = ((l.take k).any p || p x) := by
  obtain ⟨hk, rfl⟩ := List.getElem?_eq_some_iff.1 h
  rw [List.take_succ_eq_append_getElem hk, List.any_append]
  simp
set_option maxHeartbeats 4000000 in
set_option maxRecDepth 100000 in
theorem Zn.lawSafe_w (v : Value) (l : List Kn.V) (a : Zn.As) (w : World) (hv : Kn.Vals w v l) (hz : ∀ x ∈ l, Kn.Z x) :
    Calls Try.prog 5 #[v, a.val] w fun e w' => e = .returned (.bool true) ∧ Below w.heap.size w w' := by
  have CO : Hid (∀ wz, Kn.Vals wz v l → Calls Try.prog 11 #[v] wz fun e w' => e = .returned (Zn.of l).val ∧ Below wz.heap.size wz w') := Lib.hid fun wz h => Zn.of_c v l wz h hz
  have CM : Hid (∀ wz, _) := Lib.hid fun wz => Zn.may_c a (Zn.of l) wz
  have CH : Hid (∀ x wz, _) := Lib.hid fun x wz => Zn.holds_c a x wz
  have HSAFE := Lib.hid (Zn.safe a l)
  have hb : Below w.heap.size w (w.alloc (.cells (Zn.acs a) 25)) := (Below.refl _ w).alloc (Nat.le_refl _) _
  have HA := Lib.hid (Zn.ABlk.new w a 25)
  have HV := Lib.hid (hv.later hb)
  have HB := Lib.hid hb
  have hsz : w.heap.size < (w.alloc (.cells (Zn.acs a) 25)).heap.size := by simp
  clear hb hv hz
  have HH : Hid (∀ k x, l[k]? = some x → (l.take (k + 1)).any (Zn.holds a) = ((l.take k).any (Zn.holds a) || Zn.holds a x)) := Lib.hid fun k x h => Zn.any_take h (Zn.holds a)
  go_enter Try.func5, Try.ntmps5
  go_upto_region 1 with (fail)
  unfold Zn.acs at HA HV HB hsz
  generalize w.alloc _ = wo at HA HV HB hsz ⊢
  go_wp2_with fail
  with_reducible refine (Zn.lives_c _).mono ?_
  rintro e w1 ⟨rfl, g1⟩
  have HA1 := Lib.hid (HA.out.kept g1)
  have HV1 := Lib.hid (HV.out.later g1)
  have HB1 := Lib.hid (Zn.grow HB.out g1)
  have HL1 : Hid (w.heap.size < w1.heap.size) := Lib.hid (by have := g1.size; omega)
  clear g1 hsz HA HV HB
  obtain ⟨av, cv, hvv, _⟩ := HV1.out.is
  subst hvv
  go_wp2_with fail
  go_loopw [6, 5] (fun i one wr => ∃ k : Nat, k ≤ l.length ∧ i = .int .i64 k ∧ one = .bool ((l.take k).any (Zn.holds a)) ∧ Below w1.heap.size w1 wr) (fun i _ _ => l.length - (intOf i).toNat)
  case atStart => exact ⟨0, Nat.zero_le _, rfl, by simp, Below.refl _ _⟩
  case round =>
    obtain ⟨k, hk, rfl, rfl, hg⟩ := hrel
    by_cases hkl : k < l.length
    · obtain ⟨av2, cv2, hvv2, hc⟩ := HV1.out.is
      obtain ⟨rfl, _, rfl⟩ := Value.slice.inj hvv2
      rcases hc with rfl | ⟨b, o, rfl, hlt, hm, hc⟩
      · simp at hkl
      · have hx := List.getElem?_eq_getElem hkl
        generalize l[k] = x at hx
        have HN := Lib.hid (HH.out k x hx)
        obtain ⟨e0, e1, e2⟩ := (hc k x hx).later hg
        obtain ⟨c0, c1, c2, c3, c4⟩ := HA1.out.kept hg
        have dk : (k : Int) < (l.length : Int) := by omega
        have dk0 : (0 : Int) ≤ (k : Int) := by omega
        have HK := Lib.hid hkl
        have HG := Lib.hid hg
        have cH := CH.out x
        have HC := Lib.hid hc
        clear hx hc hg hkl hk hvv2
        generalize hone : (l.take k).any (Zn.holds a) = one at HN ⊢
        clear hone
        have E0 := fun d os => cell_regrown e0 d os
        have E1 := fun d os => cell_regrown e1 d os
        have E2 := fun d os => cell_regrown e2 d os
        have A0 := fun d os => cell_regrown c0 d os
        have A1 := fun d os => cell_regrown c1 d os
        have A2 := fun d os => cell_regrown c2 d os
        have A3 := fun d os => cell_regrown c3 d os
        have A4 := fun d os => cell_regrown c4 d os
        have CC : Hid (∀ p : Regrown, _) := Lib.hid fun p : Regrown => Calls.regrown_of (d := p.d) (os := p.os) (w := wr) (cH _)
        clear cH e0 e1 e2 c0 c1 c2 c3 c4
        generalize Zn.holds a x = B at HN CC
        unfold Zn.As.val Kn.V.val at CC
        cases one
        · go_upto_region 7 with (fail)
          refine wp_region_quiet_below (by kernel_rfl) (by kernel_rfl) ?_
          repeat (go_big_quiet_step (first | with_reducible exact CC.out _))
          refine wpQuiet_nil ?_
          intro _ hw'
          have HG2 := Lib.hid (Zn.grow HG.out (Kn.below_reg hw'))
          go_wp2
          go_roundw
          case rel => exact ⟨k + 1, HK.out, by simp, by rw [HN.out]; rfl, HG2.out⟩
          case measure => (have := HK.out; simp [intOf]; omega)
        · go_upto_region 7 with (fail)
          refine wp_region_quiet_below (by kernel_rfl) (by kernel_rfl) ?_
          repeat (go_big_quiet_step (first | with_reducible exact CC.out _))
          refine wpQuiet_nil ?_
          intro _ hw'
          have HG2 := Lib.hid (Zn.grow HG.out (Kn.below_reg hw'))
          go_wp2
          go_roundw
          case rel => exact ⟨k + 1, HK.out, by simp, by rw [HN.out]; rfl, HG2.out⟩
          case measure => (have := HK.out; simp [intOf]; omega)
    · obtain rfl : k = l.length := by omega
      have dk : ¬ (l.length : Int) < (l.length : Int) := by omega
      rw [List.take_length]
      generalize Zn.of l = z at CO CM HSAFE
      generalize Zn.may a z = M at CM HSAFE
      generalize l.any (Zn.holds a) = one at HSAFE ⊢
      obtain ⟨zn, zw, ⟨ln, li, ls⟩, ⟨hn, hi, hs⟩⟩ := z
      have HA2 := Lib.hid (HA1.out.kept hg)
      have HV2 := Lib.hid (HV1.out.later hg)
      obtain ⟨c0, c1, c2, c3, c4⟩ := HA2.out
      have HG := Lib.hid (Zn.grow HB1.out hg)
      have hV := fun (p : Regrown) => HV2.out.later (below_regrown wr p.d p.os)
      have A0 := fun d os => cell_regrown c0 d os
      have A1 := fun d os => cell_regrown c1 d os
      have A2 := fun d os => cell_regrown c2 d os
      have A3 := fun d os => cell_regrown c3 d os
      have A4 := fun d os => cell_regrown c4 d os
      have C1 : Hid (∀ p : Regrown, _) := Lib.hid fun p : Regrown => Calls.regrown_of (d := p.d) (os := p.os) (w := wr) (CO.out _ (hV p))
      have C2 : Hid (∀ p : Regrown, _) := Lib.hid fun p : Regrown => Calls.regrown_of (d := p.d) (os := p.os) (w := wr) (CM.out _)
      unfold Zn.Zo.val at C1
      unfold Zn.Zo.val Zn.As.val at C2
      simp only at C1 C2
      clear c0 c1 c2 c3 c4 hg hV hk hkl
      go_upto_region 8 with (fail)
      refine wp_region_quiet_below (by kernel_rfl) (by kernel_rfl) ?_
      repeat (go_big_quiet_step (first | with_reducible exact C1.out _ | with_reducible exact C2.out _))
      refine wpQuiet_nil ?_
      intro w8 hw'
      have HG2 := Lib.hid (Zn.grow HG.out (Kn.below_reg hw'))
      obtain ⟨c0, c1, c2, c3, c4⟩ := HA2.out.kept (Kn.below_reg hw')
      clear A0 A1 A2 A3 A4 C1 C2 hw' dk
      have hsafe := HSAFE.out
      clear HSAFE
      generalize hop : (a.op == 1) = bo at hsafe
      cases one <;> cases M
      · go_wp2
        go_ret
        exact ⟨rfl, HG2.out⟩
      · obtain rfl : bo = true := by simpa using hsafe
        go_wp2
        go_ret
        exact ⟨rfl, HG2.out⟩
      · simp at hsafe
      · go_wp2
        go_ret
        exact ⟨rfl, HG2.out⟩
end Go.Proofs.Ytdjnjhlcdcmeaaa
