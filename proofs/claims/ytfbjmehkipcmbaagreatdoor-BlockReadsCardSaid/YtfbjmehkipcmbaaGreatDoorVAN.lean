/-
  The document's answers for package ints: runs read.
  The document's answers for package ints: packed numbers read.
-/
import Derived.Test.YtfbjmehkipcmbaaGreatDoorVAM
import Derived.Deep.Onto
namespace Go.Proofs.YtfbjmehkipcmbaaGreatDoor
open Go.RowKit
open Ig (nth encI encR grp low off diffs prv sg rest)
open Ty (encU num)
def Ig.RRd (r : Nat) (s : ByteArray) (w : World) (t : Nat × List Int × List UInt8) (e : Ending) (w' : World) : Prop :=
  ∃ v, e = .returned (.tuple #[v, .int .i64 ((t.1 : Nat) : Int)]) ∧ Ig.Own w.heap.size w' v (if t.1 = 0 then t.2.1 else []) ∧ (t.1 = 0 → Ty.RS r s w' t.2.2 0) ∧ w.grownBy w' (some r)
theorem Ig.RRd.bad {r : Nat} {s : ByteArray} {w w' : World} {t : Nat × List Int × List UInt8} {z : Int} (hz : z = ((t.1 : Nat) : Int)) (h : t.1 ≠ 0) (g : w.grownBy w' (some r)) : Ig.RRd r s w t (.returned (.tuple #[.slice none 0 0, .int .i64 z])) w' :=
  ⟨_, by rw [hz], by rw [if_neg h]; exact Ig.Own.nil _ _, fun e => absurd e h, g⟩
theorem Ig.RRd.good {r : Nat} {s : ByteArray} {w w' : World} {t : Nat × List Int × List UInt8} {v : Value} (h : t.1 = 0) (ho : Ig.Own w.heap.size w' v t.2.1) (hc : Ty.RS r s w' t.2.2 0) (g : w.grownBy w' (some r)) : Ig.RRd r s w t (.returned (.tuple #[v, .int .i64 0])) w' :=
  ⟨_, by rw [h]; rfl, by rw [if_pos h]; exact ho, fun _ => hc, g⟩
theorem Ig.ruint_x (r : Nat) (s : ByteArray) (hs : s.size ≤ 140737488351232) (l : List UInt8) (w : World) (h : Ty.RS r s w l 0) :
    Calls Tryz.prog 36 #[.pointer (some ⟨r, 0, none⟩)] w (Ty.RLeft r s w (.int .u64 ((num l).1 : Int)) (rest l) (num l).2.2) := by
  have e : Ty.rdU l 0 = ((num l).1, rest l, (num l).2.2) := by unfold Ty.rdU; rw [if_neg (by omega)]; rfl
  have := Ty.ruint_m r s hs l 0 w h
  rw [e] at this
  exact this
theorem Ig.rint_x (r : Nat) (s : ByteArray) (hs : s.size ≤ 140737488351232) (l : List UInt8) (w : World) (h : Ty.RS r s w l 0) :
    Calls Tryz.prog 114 #[.pointer (some ⟨r, 0, none⟩)] w (Ty.RLeft r s w (.int .i64 (sg l)) (rest l) (num l).2.2) := by
  have e : Ty.rdU l 0 = ((num l).1, rest l, (num l).2.2) := by unfold Ty.rdU; rw [if_neg (by omega)]; rfl
  have := Ty.rint_m r s hs l 0 w h
  rw [e] at this
  exact this
theorem Ig.rint_bad (r : Nat) (s : ByteArray) (hs : s.size ≤ 140737488351232) (l : List UInt8) (er : Nat) (he : er ≠ 0) (w : World) (h : Ty.RS r s w l er) :
    Calls Tryz.prog 114 #[.pointer (some ⟨r, 0, none⟩)] w (Ty.RLeft r s w (.int .i64 0) l er) := by
  have e : Ty.rdU l er = (0, l, er) := by unfold Ty.rdU; rw [if_pos he]
  have := Ty.rint_m r s hs l er w h
  rw [e] at this
  have ez : Ty.zag (((0, l, er) : Nat × List UInt8 × Nat).1 : Int) = 0 := by unfold Ty.zag; simp
  rw [ez] at this
  exact this
set_option maxHeartbeats 4000000 in
set_option maxRecDepth 100000 in
theorem Ig.rreadRuns_c (r : Nat) (s : ByteArray) (hs : s.size ≤ 140737488351232) (l : List UInt8) (n : Nat) (w : World) (h : Ty.RS r s w l 0) (hn : n ≤ 65536) :
    Calls Tryz.prog 112 #[.pointer (some ⟨r, 0, none⟩), .int .i64 n] w (Ig.RRd r s w (Ig.rdR n l)) := by
  have hrw := Ig.RS_lt h
  go_enter Tryz.func112, Tryz.ntmps112
  go_wp2
  go_loopw [6] (fun lv wr => ∃ M l2, Ig.MidR n l M l2 ∧ Ig.Own w.heap.size wr lv M ∧ Ty.RS r s wr l2 0 ∧ w.grownBy wr (some r)) (fun lv _ => match lv with | .slice _ m _ => n - m | _ => 0)
  case atStart => exact ⟨[], l, Ig.MidR.start n l, Ig.Own.nil _ _, h, Ty.by_refl _ _⟩
  case round =>
    obtain ⟨M, l2, hM, hO, hc, hg⟩ := hrel
    have hMn := hM.1
    have HM := Lib.hid hM
    have HO := Lib.hid hO
    have HGR := Lib.hid hg
    have HC := Lib.hid hc
    obtain ⟨a, c, rfl⟩ := Ig.own_len hO
    clear hM hO hg h
    by_cases hk : M.length < n
    · have hki : (M.length : Int) < (n : Int) := by omega
      have cu := Ig.ruint_x r s hs l2 wr hc
      clear hc
      by_cases he : (num l2).2.2 = 0
      · rw [he] at cu
        have ci := fun wz h1 => Ig.rint_x r s hs (rest l2) wz h1
        by_cases hb2 : (num l2).1 = 0 ∨ n - M.length < (num l2).1
        · have HB := Lib.hid (HM.out.bad2 hk he hb2)
          generalize (num l2).1 = k at cu hb2
          generalize rest l2 = l3 at cu
          clear he ci
          rcases Nat.eq_zero_or_pos k with h0 | h0
          · subst h0
            clear hb2
            go_wp2_with fail
            refine cu.mono ?_
            rintro e w3 ⟨rfl, hc3, hg3⟩
            have he3 := Ig.RS_err hc3
            simp only [Int.natCast_zero] at he3
            have HG3 := Lib.hid (Ty.by_trans HGR.out hg3)
            clear cu hg3 hc3
            go_wp2
            go_ret2
            exact Ig.RRd.bad (by rw [HB.out]; rfl) (by rw [HB.out]; omega) HG3.out
          · have hk0 : ((k : Int) == 0) = false := by rw [beq_eq_false_iff_ne]; omega
            have hlt : (n : Int) - (M.length : Int) < (k : Int) := by omega
            clear hb2
            go_wp2_with fail
            refine cu.mono ?_
            rintro e w3 ⟨rfl, hc3, hg3⟩
            have he3 := Ig.RS_err hc3
            simp only [Int.natCast_zero] at he3
            have HG3 := Lib.hid (Ty.by_trans HGR.out hg3)
            clear cu hg3 hc3
            go_wp2
            go_ret2
            exact Ig.RRd.bad (by rw [HB.out]; rfl) (by rw [HB.out]; omega) HG3.out
        · have hk1 : 0 < (num l2).1 := by omega
          have hk2 : (num l2).1 ≤ n - M.length := by omega
          have hk0 : (((num l2).1 : Int) == 0) = false := by rw [beq_eq_false_iff_ne]; omega
          have hle : ((num l2).1 : Int) ≤ (n : Int) - (M.length : Int) := by omega
          by_cases he2 : (num (rest l2)).2.2 = 0
          · rw [he2] at ci
            by_cases hlast : M.getLast? = some (sg (rest l2))
            · have HB := Lib.hid (HM.out.bad4 hk he hb2 he2 hlast)
              obtain ⟨q, hq⟩ : ∃ q, M.length = q + 1 := by
                cases hM : M with
                | nil => rw [hM] at hlast; cases hlast
                | cons y M => exact ⟨M.length, rfl⟩
              rw [Ig.last_nth hq] at hlast
              have hx : nth M q = sg (rest l2) := Option.some.inj hlast
              obtain ⟨g, c', hv, _⟩ := Ig.own_some HO.out hq
              simp only [Value.slice.injEq] at hv
              obtain ⟨rfl, _, rfl⟩ := hv
              have hq2 : q < M.length := by omega
              generalize (num l2).1 = k at cu hk1 hk2 hk0 hle
              generalize sg (rest l2) = x at ci hx
              generalize rest (rest l2) = l4 at ci
              generalize rest l2 = l3 at cu ci
              have HX := Lib.hid hx
              have HQ := Lib.hid hq2
              clear he he2 hlast hq hx hb2 hq2
              go_wp2_with fail
              refine cu.mono ?_
              rintro e w3 ⟨rfl, hc3, hg3⟩
              have he3 := Ig.RS_err hc3
              simp only [Int.natCast_zero] at he3
              have hO3 := HO.out.by hg3 hrw
              have HG3 := Lib.hid (Ty.by_trans HGR.out hg3)
              have HO3 := Lib.hid hO3
              have ci3 := ci _ hc3
              clear cu ci hg3 hc3 hO3
              go_wp2_with fail
              refine ci3.mono ?_
              rintro e w5 ⟨rfl, hc5, hg5⟩
              have he5 := Ig.RS_err hc5
              simp only [Int.natCast_zero] at he5
              have HO5 := Lib.hid (HO3.out.by hg5 hrw)
              have HG5 := Lib.hid (Ty.by_trans HG3.out hg5)
              have HC5 := Lib.hid hc5
              clear ci3 hc5 hg5 he3 HO3 HG3
              have hcl : _ = some (Value.int .i64 _) := (Ig.buf_cell HO5.out HQ.out).1
              rw [HX.out] at hcl
              go_wp2
              go_ret2
              exact Ig.RRd.bad (by rw [HB.out]; rfl) (by rw [HB.out]; omega) HG5.out
            · have HN := Lib.hid (HM.out.next hk he hb2 he2 hlast)
              generalize hkk : (num l2).1 = k at cu hk1 hk2 hk0 hle HN
              generalize hxx : sg (rest l2) = x at ci HN hlast
              generalize rest (rest l2) = l4 at ci HN
              generalize rest l2 = l3 at cu ci
              clear he he2 hb2 hkk hxx
              rcases (by
                cases hM : M with
                | nil => exact .inl rfl
                | cons y M' => exact .inr ⟨M'.length, rfl⟩ : M.length = 0 ∨ ∃ q, M.length = q + 1) with hq | ⟨q, hq⟩
              · have hz : ¬ (0 : Int) < (M.length : Int) := by omega
                have HZ := Lib.hid hz
                clear hlast hz
                go_wp2_with fail
                refine cu.mono ?_
                rintro e w3 ⟨rfl, hc3, hg3⟩
                have he3 := Ig.RS_err hc3
                simp only [Int.natCast_zero] at he3
                have hO3 := HO.out.by hg3 hrw
                have HG3 := Lib.hid (Ty.by_trans HGR.out hg3)
                have HO3 := Lib.hid hO3
                have ci3 := ci _ hc3
                clear cu ci hg3 hc3 hO3
                go_wp2_with fail
                refine ci3.mono ?_
                rintro e w5 ⟨rfl, hc5, hg5⟩
                have he5 := Ig.RS_err hc5
                simp only [Int.natCast_zero] at he5
                have HO5 := Lib.hid (HO3.out.by hg5 hrw)
                have HG5 := Lib.hid (Ty.by_trans HG3.out hg5)
                have HC5 := Lib.hid hc5
                clear ci3 hc5 hg5 he3 HO3 HG3
                have hkb : (k : Int) ≤ 65536 := by omega
                have HKN : Hid (k ≤ n - M.length ∧ 0 < k) := Lib.hid ⟨hk2, hk1⟩
                have HO6 := HO5.out
                rw [hq] at HO6
                go_wp2
                clear he5
                go_loopw [6, 9] (fun lv i wz => ∃ j M2, j ≤ k ∧ i = .int .u64 ((j : Nat) : Int) ∧ M2 = M ++ List.replicate j x ∧ Ig.Own w.heap.size wz lv M2 ∧ Ty.RS r s wz l4 0 ∧ w.grownBy wz (some r)) (fun _ i _ => k - (intOf i).toNat)
                case atStart => exact ⟨0, M, by omega, rfl, by simp, HO6, HC5.out, HG5.out⟩
                case round =>
                  obtain ⟨j, M2, hj, rfl, hM2, hO2, hc2, hg2⟩ := hrel
                  have HM2 := Lib.hid hM2
                  have HO2 := Lib.hid hO2
                  have HC2 := Lib.hid hc2
                  have HG2 := Lib.hid hg2
                  have hM2l : M2.length = M.length + j := by rw [hM2]; exact Ig.rep_len M x j
                  have HL2 := Lib.hid hM2l
                  have hs2 := hg2.size
                  obtain ⟨a2, c2, rfl⟩ := Ig.own_len hO2
                  clear hM2 hc2 hg2 hM2l HO6 hO2
                  by_cases hjk : j < k
                  · have hji : (j : Int) < (k : Int) := by omega
                    have hj0 : (0 : Int) ≤ (j : Int) := by omega
                    go_wp2_with (at_builtin; refine Bt.wpList_append_one 2 115 (.int .i64 0) 8 Tryz.underlying115 Ig.infoI rfl (HO2.out.pre x) (by omega) (by have := HL2.out; have := HKN.out; omega) (by have := HL2.out; have := HKN.out; omega) (.tmp 63) (.tmp 65) _ rfl rfl rfl rfl rfl ?_; intro v7 w7 h7 g7)
                    have H7 := Lib.hid (Ig.Own.post (h7 (Ig.iv_snoc M2 x)))
                    have HC7 := Lib.hid (Ig.RS_by HC2.out g7 (Ig.buf_ne HO2.out hrw))
                    have HG7 := Lib.hid (Ig.grew_by g7 HG2.out (Bt.Buf.base_le HO2.out))
                    clear h7 g7
                    go_roundw
                    case rel => exact ⟨j + 1, _, by omega, by simp, by rw [HM2.out, Ig.rep_snoc], H7.out, HC7.out, HG7.out⟩
                    case measure => simp [intOf]; omega
                  · obtain rfl : j = k := by omega
                    have hji : ¬ (j : Int) < (j : Int) := by omega
                    go_wp2
                    go_roundw
                    case rel => exact ⟨M2, l4, by rw [HM2.out]; exact HN.out, HO2.out, HC2.out, HG2.out⟩
                    case measure =>
                      have := HL2.out
                      have := HKN.out
                      simp only
                      omega
              · have hx : nth M q ≠ x := fun e => hlast (by rw [Ig.last_nth hq, e])
                obtain ⟨g, c', hv, _⟩ := Ig.own_some HO.out hq
                simp only [Value.slice.injEq] at hv
                obtain ⟨rfl, _, rfl⟩ := hv
                have hq2 : q < M.length := by omega
                obtain ⟨y, ey⟩ : ∃ y, y = nth M q := ⟨_, rfl⟩
                have hxy : (y == x) = false := by rw [beq_eq_false_iff_ne, ey]; exact hx
                have HY := Lib.hid ey
                have HQ := Lib.hid hq2
                clear hlast hx ey hq2
                go_wp2_with fail
                refine cu.mono ?_
                rintro e w3 ⟨rfl, hc3, hg3⟩
                have he3 := Ig.RS_err hc3
                simp only [Int.natCast_zero] at he3
                have hO3 := HO.out.by hg3 hrw
                have HG3 := Lib.hid (Ty.by_trans HGR.out hg3)
                have HO3 := Lib.hid hO3
                have ci3 := ci _ hc3
                clear cu ci hg3 hc3 hO3
                go_wp2_with fail
                refine ci3.mono ?_
                rintro e w5 ⟨rfl, hc5, hg5⟩
                have he5 := Ig.RS_err hc5
                simp only [Int.natCast_zero] at he5
                have HO5 := Lib.hid (HO3.out.by hg5 hrw)
                have HG5 := Lib.hid (Ty.by_trans HG3.out hg5)
                have HC5 := Lib.hid hc5
                clear ci3 hc5 hg5 he3 HO3 HG3
                have hcl : _ = some (Value.int .i64 _) := (Ig.buf_cell HO5.out HQ.out).1
                rw [← HY.out] at hcl
                have hkb : (k : Int) ≤ 65536 := by omega
                have HKN : Hid (k ≤ n - M.length ∧ 0 < k) := Lib.hid ⟨hk2, hk1⟩
                have HO6 := HO5.out
                rw [hq] at HO6
                go_wp2
                clear he5
                go_loopw [6, 9] (fun lv i wz => ∃ j M2, j ≤ k ∧ i = .int .u64 ((j : Nat) : Int) ∧ M2 = M ++ List.replicate j x ∧ Ig.Own w.heap.size wz lv M2 ∧ Ty.RS r s wz l4 0 ∧ w.grownBy wz (some r)) (fun _ i _ => k - (intOf i).toNat)
                case atStart => exact ⟨0, M, by omega, rfl, by simp, HO6, HC5.out, HG5.out⟩
                case round =>
                  obtain ⟨j, M2, hj, rfl, hM2, hO2, hc2, hg2⟩ := hrel
                  have HM2 := Lib.hid hM2
                  have HO2 := Lib.hid hO2
                  have HC2 := Lib.hid hc2
                  have HG2 := Lib.hid hg2
                  have hM2l : M2.length = M.length + j := by rw [hM2]; exact Ig.rep_len M x j
                  have HL2 := Lib.hid hM2l
                  have hs2 := hg2.size
                  obtain ⟨a2, c2, rfl⟩ := Ig.own_len hO2
                  clear hM2 hc2 hg2 hM2l HO6 hO2
                  by_cases hjk : j < k
                  · have hji : (j : Int) < (k : Int) := by omega
                    have hj0 : (0 : Int) ≤ (j : Int) := by omega
                    go_wp2_with (at_builtin; refine Bt.wpList_append_one 2 115 (.int .i64 0) 8 Tryz.underlying115 Ig.infoI rfl (HO2.out.pre x) (by omega) (by have := HL2.out; have := HKN.out; omega) (by have := HL2.out; have := HKN.out; omega) (.tmp 63) (.tmp 65) _ rfl rfl rfl rfl rfl ?_; intro v7 w7 h7 g7)
                    have H7 := Lib.hid (Ig.Own.post (h7 (Ig.iv_snoc M2 x)))
                    have HC7 := Lib.hid (Ig.RS_by HC2.out g7 (Ig.buf_ne HO2.out hrw))
                    have HG7 := Lib.hid (Ig.grew_by g7 HG2.out (Bt.Buf.base_le HO2.out))
                    clear h7 g7
                    go_roundw
                    case rel => exact ⟨j + 1, _, by omega, by simp, by rw [HM2.out, Ig.rep_snoc], H7.out, HC7.out, HG7.out⟩
                    case measure => simp [intOf]; omega
                  · obtain rfl : j = k := by omega
                    have hji : ¬ (j : Int) < (j : Int) := by omega
                    go_wp2
                    go_roundw
                    case rel => exact ⟨M2, l4, by rw [HM2.out]; exact HN.out, HO2.out, HC2.out, HG2.out⟩
                    case measure =>
                      have := HL2.out
                      have := HKN.out
                      simp only
                      omega
          · have HB := Lib.hid (HM.out.bad3 hk he hb2 he2)
            generalize (num (rest l2)).2.2 = q at ci he2 HB
            have hne : ((q : Int) != 0) = true := by rw [bne_iff_ne]; omega
            have HQ := Lib.hid he2
            generalize (num l2).1 = k at cu hk1 hk2 hk0 hle
            generalize sg (rest l2) = x at ci
            generalize rest (rest l2) = l4 at ci
            generalize rest l2 = l3 at cu ci
            clear he he2 hb2
            go_wp2_with fail
            refine cu.mono ?_
            rintro e w3 ⟨rfl, hc3, hg3⟩
            have he3 := Ig.RS_err hc3
            simp only [Int.natCast_zero] at he3
            have hO3 := HO.out.by hg3 hrw
            have HG3 := Lib.hid (Ty.by_trans HGR.out hg3)
            have HO3 := Lib.hid hO3
            have ci3 := ci _ hc3
            clear cu ci hg3 hc3 hO3
            go_wp2_with fail
            refine ci3.mono ?_
            rintro e w5 ⟨rfl, hc5, hg5⟩
            have he5 := Ig.RS_err hc5
            have HO5 := Lib.hid (HO3.out.by hg5 hrw)
            have HG5 := Lib.hid (Ty.by_trans HG3.out hg5)
            have HC5 := Lib.hid hc5
            clear ci3 hc5 hg5 he3 HO3 HG3
            go_wp2_with fail
            go_quiet (fail)
            go_wp2
            go_ret2
            exact Ig.RRd.bad (by rw [HB.out]) (by rw [HB.out]; exact HQ.out) (Ty.by_then HG5.out _)
      · have HE := Lib.hid (HM.out.bad1 hk he)
        have ci := fun l3 wz h1 => Ig.rint_bad r s hs l3 (num l2).2.2 he wz h1
        generalize (num l2).2.2 = q at cu he HE ci
        generalize (num l2).1 = k at cu
        have hne : ((q : Int) != 0) = true := by rw [bne_iff_ne]; omega
        have hne2 : ((q : Int) == 0) = false := by rw [beq_eq_false_iff_ne]; omega
        have HQ := Lib.hid he
        clear he
        go_wp2_with fail
        refine cu.mono ?_
        rintro e w3 ⟨rfl, hc3, hg3⟩
        have he3 := Ig.RS_err hc3
        have ci3 := ci _ _ hc3
        have HG3 := Lib.hid (Ty.by_trans HGR.out hg3)
        clear cu ci hg3 hc3
        go_wp2_with fail
        refine ci3.mono ?_
        rintro e w5 ⟨rfl, hc5, hg5⟩
        have he5 := Ig.RS_err hc5
        have HG5 := Lib.hid (Ty.by_trans HG3.out hg5)
        clear ci3 hc5 hg5 he3
        go_wp2_with fail
        go_quiet (fail)
        go_wp2
        go_ret2
        exact Ig.RRd.bad (by rw [HE.out]) (by rw [HE.out]; exact HQ.out) (Ty.by_then HG5.out _)
    · have hki : ¬ (M.length : Int) < (n : Int) := by omega
      have HD := Lib.hid (HM.out.done (by omega))
      clear hc hMn
      go_wp2
      go_ret2
      exact Ig.RRd.good (by rw [HD.out]) (by rw [HD.out]; exact HO.out) (by rw [HD.out]; exact HC.out) HGR.out
end Go.Proofs.YtfbjmehkipcmbaaGreatDoor

namespace Go.Proofs.YtfbjmehkipcmbaaGreatDoor
open Go.RowKit
open Ig (nth encI encR grp low off diffs prv sg rest outs good un rdPacked)
open Ty (encU num)
theorem Ig.own_of {base : Nat} {w : World} {v : Value} {n : Nat} {L : List Int} (h : Bt.Buf 2 base w v n (Ig.iv L)) (hl : L.length = n) : Ig.Own base w v L := by
  unfold Ig.Own
  rw [hl]
  exact h
def Ig.anyZ (X : Nat → Nat) (k : Nat) : Bool := (List.range k).any (fun i => X i == 0)
theorem Ig.anyZ_next (X : Nat → Nat) (k : Nat) : Ig.anyZ X (k + 1) = (Ig.anyZ X k || X k == 0) := by
  unfold Ig.anyZ
  rw [List.range_succ, List.any_append]
  simp
theorem Ig.good_parts {n q : Nat} {x : Int} {X : Nat → Nat} : good n q x X = (Ig.anyZ X n && (Bt.wid n X == q) && (low (outs n x X) == x)) := rfl
set_option maxHeartbeats 4000000 in
set_option maxRecDepth 100000 in
theorem Ig.rreadPacked_c (r : Nat) (s : ByteArray) (hs : s.size ≤ 140737488351232) (l : List UInt8) (n : Nat) (w : World) (h : Ty.RS r s w l 0) (hn0 : 0 < n) (hn : n ≤ 65536) :
    Calls Tryz.prog 113 #[.pointer (some ⟨r, 0, none⟩), .int .i64 n] w (Ig.RRd r s w (rdPacked n l)) := by
  have hrw := Ig.RS_lt h
  have ci := Ig.rint_x r s hs l w h
  by_cases he : (num l).2.2 = 0
  · rw [he] at ci
    cases hr : rest l with
    | nil =>
      have HB := Lib.hid (Ig.rdP2 (n := n) he hr)
      rw [hr] at ci
      have cb := fun wz (hc : Ty.RS r s wz [] 0) => Ty.rbyte_m r s hs [] 0 wz hc
      have e1 : Ty.rdB [] 0 = (0, [], 2) := rfl
      rw [e1] at cb
      clear e1 he hr h
      go_enter Tryz.func113, Tryz.ntmps113
      go_wp2_with fail
      refine ci.mono ?_
      rintro e w3 ⟨rfl, hc3, hg3⟩
      have cb3 := cb _ hc3
      have HG3 := Lib.hid hg3
      clear ci cb hg3 hc3
      go_wp2_with fail
      refine cb3.mono ?_
      rintro e w4 ⟨rfl, hc4, hg4⟩
      have he4 := Ig.RS_err hc4
      simp only [Int.cast_ofNat_Int] at he4
      have HG4 := Lib.hid (Ty.by_trans HG3.out hg4)
      clear cb3 hc4 hg4 HG3
      go_wp2_with fail
      go_quiet (fail)
      go_wp2
      go_ret2
      exact Ig.RRd.bad (by rw [HB.out]; rfl) (by rw [HB.out]; omega) (Ty.by_then HG4.out _)
    | cons x t =>
      rw [hr] at ci
      have cb := fun wz (hc : Ty.RS r s wz (x :: t) 0) => Ig.rbyte_x r s hs x t wz hc
      by_cases h64 : 64 < x.toNat
      · have HB := Lib.hid (Ig.rdP3 (n := n) he hr h64)
        have h64i : (64 : Int) < (x.toNat : Int) := by omega
        clear he hr h h64
        go_enter Tryz.func113, Tryz.ntmps113
        go_wp2_with fail
        refine ci.mono ?_
        rintro e w3 ⟨rfl, hc3, hg3⟩
        have cb3 := cb _ hc3
        have HG3 := Lib.hid hg3
        clear ci cb hg3 hc3
        go_wp2_with fail
        refine cb3.mono ?_
        rintro e w4 ⟨rfl, hc4, hg4⟩
        have he4 := Ig.RS_err hc4
        simp only [Int.natCast_zero] at he4
        have HG4 := Lib.hid (Ty.by_trans HG3.out hg4)
        clear cb3 hc4 hg4 HG3
        go_wp2
        go_ret2
        exact Ig.RRd.bad (by rw [HB.out]; rfl) (by rw [HB.out]; omega) HG4.out
      · obtain ⟨q, hq⟩ : ∃ q, q = x.toNat := ⟨_, rfl⟩
        have hq64 : q ≤ 64 := by omega
        have hmul := Bt.mul_le n q hq64
        obtain ⟨m, hm⟩ : ∃ m, n * q = m := ⟨_, rfl⟩
        have hmi : (n : Int) * (q : Int) = (m : Int) := by rw [← hm]; simp
        have hmm : m ≤ 4194304 := by omega
        have hd := Ig.need_is hm
        obtain ⟨sz, hsz⟩ : ∃ sz, sz = Bt.need (n * q) := ⟨_, rfl⟩
        rw [← hsz] at hd
        have hsz2 : sz ≤ 524289 := by rw [hsz, hm]; unfold Bt.need; omega
        have hq64i : ¬ (64 : Int) < (q : Int) := by omega
        rw [← hq] at cb
        by_cases hss : t.length < sz
        · have HB := Lib.hid (Ig.rdP4 (n := n) he hr h64 (by rw [← hq, ← hsz]; exact hss))
          have ct := fun wz (hc : Ty.RS r s wz t 0) => Ig.raw_short r s hs t sz wz hc hss (by omega)
          clear he hr h h64 hq hss hsz hm hmul
          go_enter Tryz.func113, Tryz.ntmps113
          go_wp2_with fail
          refine ci.mono ?_
          rintro e w3 ⟨rfl, hc3, hg3⟩
          have cb3 := cb _ hc3
          have HG3 := Lib.hid hg3
          clear ci cb hg3 hc3
          go_wp2_with fail
          refine cb3.mono ?_
          rintro e w4 ⟨rfl, hc4, hg4⟩
          have he4 := Ig.RS_err hc4
          simp only [Int.natCast_zero] at he4
          have HG4 := Lib.hid (Ty.by_trans HG3.out hg4)
          have ct4 := ct _ hc4
          clear cb3 hc4 hg4 HG3 ct
          go_wp2_with fail
          refine ct4.mono ?_
          rintro e w5 ⟨t5, l5, rfl, hc5, hg5⟩
          have he5 := Ig.RS_err hc5
          simp only [Int.cast_ofNat_Int] at he5
          have HG5 := Lib.hid (Ty.by_trans HG4.out hg5)
          clear ct4 hc5 hg5 he4
          go_wp2_with fail
          go_quiet (fail)
          go_wp2
          go_ret2
          exact Ig.RRd.bad (by rw [HB.out]; rfl) (by rw [HB.out]; omega) (Ty.by_then HG5.out _)
        · have ct := fun wz (hc : Ty.RS r s wz t 0) => Ig.raw_ok r s hs t sz wz hc (by omega) (by omega)
          have hts : (Ty.S (t.take sz)).size ≤ 140737488355328 := by rw [Ty.size_S, List.length_take]; omega
          have cun := fun wz => Bt.runpack_c (Ty.S (t.take sz)) (n : Int) (q : Int) wz hts
          have e3 : Bt.upE (Ty.S (t.take sz)) (n : Int) (q : Int) = Bt.chk (Ty.S (t.take sz)) (n * q) := by unfold Bt.upE; rw [if_pos ⟨by omega, by omega⟩]; rfl
          have e4 : Bt.upN (Ty.S (t.take sz)) (n : Int) (q : Int) = if Bt.chk (Ty.S (t.take sz)) (n * q) = 0 then n else 0 := by unfold Bt.upN; rw [e3]; rfl
          rw [e3, e4, Int.toNat_natCast] at cun
          have F5 := Lib.hid (fun h5 => Ig.rdP5 (n := n) (x := x) he hr h64 (by rw [← hq, ← hsz]; exact hss) h5)
          have F6 := Lib.hid (fun h5 => Ig.rdP6 (n := n) (x := x) he hr h64 (by rw [← hq, ← hsz]; exact hss) h5)
          have F7 := Lib.hid (fun h5 => Ig.rdP7 (n := n) (x := x) he hr h64 (by rw [← hq, ← hsz]; exact hss) h5)
          rw [← hq, ← hsz] at F5 F6 F7
          clear e3 e4 he hr h h64 hq hts
          generalize Ty.S (t.take sz) = b at ct cun F5 F6 F7
          generalize t.drop sz = l9 at ct F7
          by_cases hck : Bt.chk b (n * q) = 0
          · rw [if_pos hck, hck] at cun
            simp only [Int.natCast_zero] at cun
            have G6 := Lib.hid (F6.out hck)
            have G7 := Lib.hid (F7.out hck)
            have hX : ∀ i, Bt.nums b q i < 2 ^ 64 := fun i => Nat.lt_of_lt_of_le (Bt.num_lt q _) (Nat.pow_le_pow_right (by decide) hq64)
            rw [Ig.un_nums] at G6 G7
            generalize Bt.nums b q = X at cun G6 G7 hX
            rw [Ig.good_parts] at G6 G7
            have hxi := Ig.sg_i64 l
            generalize sg l = y at ci G6 G7 hxi
            have HX := Lib.hid hX
            clear hck F5 F6 F7 hss hsz hm hmul hX
            go_enter Tryz.func113, Tryz.ntmps113
            go_wp2_with fail
            refine ci.mono ?_
            rintro e w3 ⟨rfl, hc3, hg3⟩
            have cb3 := cb _ hc3
            have HG3 := Lib.hid hg3
            clear ci cb hg3 hc3
            go_wp2_with fail
            refine cb3.mono ?_
            rintro e w4 ⟨rfl, hc4, hg4⟩
            have he4 := Ig.RS_err hc4
            simp only [Int.natCast_zero] at he4
            have HG4 := Lib.hid (Ty.by_trans HG3.out hg4)
            have ct4 := ct _ hc4
            clear cb3 hc4 hg4 HG3 ct
            go_wp2_with fail
            refine ct4.mono ?_
            rintro e w5 ⟨rfl, hc5, hg5⟩
            have he5 := Ig.RS_err hc5
            simp only [Int.natCast_zero] at he5
            have HC5 := Lib.hid hc5
            have HG5 := Lib.hid (Ty.by_trans HG4.out hg5)
            clear ct4 hc5 hg5 he4
            go_wp2_with fail
            refine (cun _).mono ?_
            rintro e w8 ⟨vd, rfl, hS8, g8⟩
            have HG8 := Lib.hid (Ig.below_by g8 HG5.out)
            have HC8 := Lib.hid (Ig.RS_below HC5.out g8 (by have := HG5.out.size; omega))
            clear cun g8 HC5 HG5 he5
            have HS8 := Lib.hid hS8
            obtain ⟨a8, c8, rfl, h8⟩ := hS8
            have H8 := Lib.hid h8
            have hw8 := HG8.out.size
            clear hd hmi hmm hsz2 h8
            go_wp2_with fail
            go_loopw [11, 12, 13] (fun v z i wr => ∃ k : Nat, k ≤ n ∧ i = .int .i64 k ∧ z = .bool (Ig.anyZ X k) ∧ Bt.Buf 2 w8.heap.size wr v k (Ig.iv (outs n y X)) ∧ Below w8.heap.size w8 wr) (fun _ _ i _ => n - (intOf i).toNat)
            case atStart => exact ⟨0, by omega, rfl, rfl, Bt.Buf.nil _ _ _ _, Below.refl _ _⟩
            case round =>
              obtain ⟨k, hk, rfl, rfl, hBf, hb⟩ := hrel
              have HBf := Lib.hid hBf
              have HB := Lib.hid hb
              have HBB := Lib.hid hBf.base_le
              have hbs := hb.size
              have hbw : w8.heap.size ≤ wr.heap.size := hb.size
              clear hBf hb
              by_cases hl2 : k < n
              · rcases H8.out with h8 | ⟨b2, o2, rfl, hb2, h8⟩
                · omega
                · have hcell : wr.cell? ⟨b2, o2 + k, none⟩ = some (.int .u64 ((X k : Nat) : Int)) := (HB.out.cell (p := ⟨b2, o2 + k, none⟩) hb2).trans (h8 k hl2)
                  have hkl : (k : Int) < (n : Int) := by omega
                  have hk0 : (0 : Int) ≤ (k : Int) := by omega
                  have HO := Lib.hid (Ig.outs_nth n y X hl2)
                  have HSW := Lib.hid (Ig.sum_wrap (x := y) (n := X k))
                  have HZN := Lib.hid (Ig.anyZ_next X k)
                  generalize X k = X0 at hcell HO HSW HZN
                  generalize Ig.anyZ X k = Z at HZN ⊢
                  clear h8
                  cases Z
                  · by_cases hx0 : X0 = 0
                    · subst hx0
                      simp only [Int.natCast_zero] at hcell
                      go_wp2_with (at_builtin; refine Bt.wpList_append_one 2 115 (.int .i64 0) 8 Tryz.underlying115 Ig.infoI rfl HBf.out hbw (by omega) (by omega) (.tmp 70) (.tmp 79) _ rfl rfl rfl rfl rfl ?_; intro v1 w1 h1 g1)
                      have H1 := Lib.hid (h1 (by unfold Ig.iv; rw [HO.out, ← HSW.out]; try simp))
                      have G1 := Lib.hid (g1.below (B := w8.heap.size) hbs (fun j hj => HBB.out j hj))
                      clear h1 g1
                      go_roundw
                      case rel => exact ⟨k + 1, by omega, by simp, by rw [HZN.out]; first | rfl | simp, H1.out, HB.out.trans G1.out⟩
                      case measure => simp [intOf]; omega
                    · have hxz : ((X0 : Int) == 0) = false := by rw [beq_eq_false_iff_ne]; omega
                      have HX0 : Hid ((X0 == 0) = false) := Lib.hid (by rw [beq_eq_false_iff_ne]; exact hx0)
                      have HZN2 := HZN.out
                      rw [HX0.out] at HZN2
                      have HZN := Lib.hid HZN2
                      clear hx0 HZN2
                      go_wp2_with (at_builtin; refine Bt.wpList_append_one 2 115 (.int .i64 0) 8 Tryz.underlying115 Ig.infoI rfl HBf.out hbw (by omega) (by omega) (.tmp 70) (.tmp 79) _ rfl rfl rfl rfl rfl ?_; intro v1 w1 h1 g1)
                      have H1 := Lib.hid (h1 (by unfold Ig.iv; rw [HO.out, ← HSW.out]; try simp))
                      have G1 := Lib.hid (g1.below (B := w8.heap.size) hbs (fun j hj => HBB.out j hj))
                      clear h1 g1
                      go_roundw
                      case rel => exact ⟨k + 1, by omega, by simp, by rw [HZN.out]; first | rfl | simp, H1.out, HB.out.trans G1.out⟩
                      case measure => simp [intOf]; omega
                  · go_wp2_with (at_builtin; refine Bt.wpList_append_one 2 115 (.int .i64 0) 8 Tryz.underlying115 Ig.infoI rfl HBf.out hbw (by omega) (by omega) (.tmp 70) (.tmp 79) _ rfl rfl rfl rfl rfl ?_; intro v1 w1 h1 g1)
                    have H1 := Lib.hid (h1 (by unfold Ig.iv; rw [HO.out, ← HSW.out]; try simp))
                    have G1 := Lib.hid (g1.below (B := w8.heap.size) hbs (fun j hj => HBB.out j hj))
                    clear h1 g1
                    go_roundw
                    case rel => exact ⟨k + 1, by omega, by simp, by rw [HZN.out]; first | rfl | simp, H1.out, HB.out.trans G1.out⟩
                    case measure => simp [intOf]; omega
              · obtain rfl : k = n := by omega
                have hkl : ¬ (k : Int) < (k : Int) := by omega
                have hown := Ig.own_of HBf.out (Ig.outs_len k y X)
                have hlo := Ig.outs_len k y X
                have hO64 : ∀ x ∈ outs k y X, Ty.I64 x := fun x hx => by
                  obtain ⟨i, _, rfl⟩ := List.mem_map.1 hx
                  exact Ig.wrap_i64 _
                have co := Ig.offsets_c _ (outs k y X) wr (Ig.Own.at hown) hO64 (by rw [hlo]; exact hn0) (by rw [hlo]; omega)
                have cwd := fun wz h => Bt.rwidth_c (.slice a8 k c8) k X wz h HX.out (by omega)
                have HOW := Lib.hid hown
                have hslr := HS8.out.later HB.out
                have HSR := Lib.hid hslr
                obtain ⟨a9, c9, rfl⟩ := Ig.own_len hown
                clear hlo hO64 hown hslr
                cases hZ : Ig.anyZ X k
                · have HBD := Lib.hid (G6.out (by rw [hZ]; simp))
                  clear hZ
                  go_wp2_with fail
                  refine co.mono ?_
                  rintro e w9 ⟨v9, rfl, _, g9⟩
                  have HG9 := Lib.hid (Ig.below_by ((HB.out.trans (g9.mono hbw))) HG8.out)
                  clear co g9 cwd
                  go_wp2
                  go_ret2
                  exact Ig.RRd.bad (by rw [HBD.out]; rfl) (by rw [HBD.out]; omega) HG9.out
                · by_cases hwq : Bt.wid k X = q
                  · by_cases hly : low (outs k y X) = y
                    · have HE := Lib.hid (G7.out (by rw [hZ, hwq, hly]; simp))
                      rw [hly] at co
                      rw [hwq] at cwd
                      have hyy : (y != y) = false := by simp
                      have hqq : ((q : Int) != (q : Int)) = false := by simp
                      clear hly hwq hZ
                      go_wp2_with fail
                      refine co.mono ?_
                      rintro e w9 ⟨v9, rfl, _, g9⟩
                      have HG9 := Lib.hid (Ig.below_by ((HB.out.trans (g9.mono hbw))) HG8.out)
                      have HC9 := Lib.hid (Ig.RS_below HC8.out (HB.out.trans (g9.mono hbw)) (by omega))
                      have HO9 := Lib.hid (Bt.Buf.kept HOW.out g9)
                      have cw9 := cwd _ (HSR.out.later g9)
                      clear co g9 cwd
                      go_wp2_with fail
                      refine cw9.mono ?_
                      rintro e w10 ⟨rfl, rfl⟩
                      clear cw9
                      go_wp2
                      go_ret2
                      refine Ig.RRd.good (by rw [HE.out]) ?_ (by rw [HE.out]; exact HC9.out) HG9.out
                      rw [HE.out]
                      exact World.ownsRow.mono HO9.out (by omega)
                    · have HBD := Lib.hid (G6.out (by rw [hZ, hwq]; simp; exact hly))
                      have hyy : (low (outs k y X) != y) = true := by rw [bne_iff_ne]; exact hly
                      have hqq : ((q : Int) != (q : Int)) = false := by simp
                      rw [hwq] at cwd
                      generalize low (outs k y X) = z at co hyy
                      clear hly hwq hZ
                      go_wp2_with fail
                      refine co.mono ?_
                      rintro e w9 ⟨v9, rfl, _, g9⟩
                      have HG9 := Lib.hid (Ig.below_by ((HB.out.trans (g9.mono hbw))) HG8.out)
                      have cw9 := cwd _ (HSR.out.later g9)
                      clear co g9 cwd
                      go_wp2_with fail
                      refine cw9.mono ?_
                      rintro e w10 ⟨rfl, rfl⟩
                      clear cw9
                      go_wp2
                      go_ret2
                      exact Ig.RRd.bad (by rw [HBD.out]; rfl) (by rw [HBD.out]; omega) HG9.out
                  · have HBD := Lib.hid (G6.out (by rw [hZ]; simp; intro e; exact absurd e hwq))
                    have hqq : (((Bt.wid k X : Nat) : Int) != (q : Int)) = true := by rw [bne_iff_ne]; omega
                    generalize Bt.wid k X = z at cwd hqq
                    clear hwq hZ
                    go_wp2_with fail
                    refine co.mono ?_
                    rintro e w9 ⟨v9, rfl, _, g9⟩
                    have HG9 := Lib.hid (Ig.below_by ((HB.out.trans (g9.mono hbw))) HG8.out)
                    have cw9 := cwd _ (HSR.out.later g9)
                    clear co g9 cwd
                    go_wp2_with fail
                    refine cw9.mono ?_
                    rintro e w10 ⟨rfl, rfl⟩
                    clear cw9
                    go_wp2
                    go_ret2
                    exact Ig.RRd.bad (by rw [HBD.out]; rfl) (by rw [HBD.out]; omega) HG9.out
          · rw [if_neg hck] at cun
            have HB := Lib.hid (F5.out hck)
            generalize Bt.chk b (n * q) = C at cun hck HB
            have hCi : ((C : Int) != 0) = true := by rw [bne_iff_ne]; omega
            have HC := Lib.hid hck
            clear hck F5 F6 F7 hss hsz hm hmul
            go_enter Tryz.func113, Tryz.ntmps113
            go_wp2_with fail
            refine ci.mono ?_
            rintro e w3 ⟨rfl, hc3, hg3⟩
            have cb3 := cb _ hc3
            have HG3 := Lib.hid hg3
            clear ci cb hg3 hc3
            go_wp2_with fail
            refine cb3.mono ?_
            rintro e w4 ⟨rfl, hc4, hg4⟩
            have he4 := Ig.RS_err hc4
            simp only [Int.natCast_zero] at he4
            have HG4 := Lib.hid (Ty.by_trans HG3.out hg4)
            have ct4 := ct _ hc4
            clear cb3 hc4 hg4 HG3 ct
            go_wp2_with fail
            refine ct4.mono ?_
            rintro e w5 ⟨rfl, hc5, hg5⟩
            have he5 := Ig.RS_err hc5
            simp only [Int.natCast_zero] at he5
            have HC5 := Lib.hid hc5
            have HG5 := Lib.hid (Ty.by_trans HG4.out hg5)
            clear ct4 hc5 hg5 he4
            go_wp2_with fail
            refine (cun _).mono ?_
            rintro e w8 ⟨vd, rfl, hS8, g8⟩
            have HG8 := Lib.hid (Ig.below_by g8 HG5.out)
            have HC8 := Lib.hid (Ig.RS_below HC5.out g8 (by have := HG5.out.size; omega))
            clear cun g8 HC5 HG5 he5
            go_wp2
            go_ret2
            exact Ig.RRd.bad (by rw [HB.out]) (by rw [HB.out]; exact HC.out) HG8.out
  · have HB := Lib.hid (Ig.rdP1 (n := n) he)
    have cb := fun l2 wz (hc : Ty.RS r s wz l2 (num l).2.2) => Ty.rbyte_m r s hs l2 (num l).2.2 wz hc
    have e1 : ∀ l2, Ty.rdB l2 (num l).2.2 = (0, l2, (num l).2.2) := fun l2 => by unfold Ty.rdB; rw [if_pos he]
    have cb2 := cb (rest l)
    rw [e1] at cb2
    clear cb e1
    generalize (num l).2.2 = q at ci he HB cb2
    have hne : ((q : Int) != 0) = true := by rw [bne_iff_ne]; omega
    have HQ := Lib.hid he
    generalize rest l = l3 at ci cb2
    clear he h
    go_enter Tryz.func113, Tryz.ntmps113
    go_wp2_with fail
    refine ci.mono ?_
    rintro e w3 ⟨rfl, hc3, hg3⟩
    have cb3 := cb2 _ hc3
    have HG3 := Lib.hid hg3
    clear ci cb2 hg3 hc3
    go_wp2_with fail
    refine cb3.mono ?_
    rintro e w4 ⟨rfl, hc4, hg4⟩
    have he4 := Ig.RS_err hc4
    have HG4 := Lib.hid (Ty.by_trans HG3.out hg4)
    clear cb3 hc4 hg4 HG3
    go_wp2_with fail
    go_quiet (fail)
    go_wp2
    go_ret2
    exact Ig.RRd.bad (by rw [HB.out]) (by rw [HB.out]; exact HQ.out) (Ty.by_then HG4.out _)
end Go.Proofs.YtfbjmehkipcmbaaGreatDoor
