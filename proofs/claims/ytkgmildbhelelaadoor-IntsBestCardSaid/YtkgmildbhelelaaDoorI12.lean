/-
  Contracts of package ints: the reader of runs, the walk.
-/
import Derived.Test.YtkgmildbhelelaaDoorI11
namespace Go.Proofs.YtkgmildbhelelaaDoor
open Go.RowKit
open Ig (nth encI encR grp diffs prv low off sg rest rdInts acc rdRuns spread)
open Ty (encU num)
theorem Ig.own_len {base : Nat} {w : World} {v : Value} {M : List Int} (h : Ig.Own base w v M) : ∃ a c, v = .slice a M.length c := by
  obtain ⟨a, c, rfl, _⟩ := Bt.Buf.sl h
  exact ⟨a, c, rfl⟩
theorem Ig.own_some {base : Nat} {w : World} {v : Value} {M : List Int} {q : Nat} (h : Ig.Own base w v M) (hq : M.length = q + 1) : ∃ g c, v = .slice (some ⟨g, 0, none⟩) (q + 1) c ∧ w.cell? ⟨g, q, none⟩ = some (.int .i64 (nth M q)) := by
  obtain ⟨a, c, rfl, h1⟩ := Bt.Buf.sl h
  rcases h.2 with ⟨e1, e2⟩ | ⟨g, cap, cur, e1, _⟩
  · omega
  · simp only [Value.slice.injEq, true_and] at e1
    obtain ⟨rfl, rfl⟩ := e1
    refine ⟨g, c, by rw [hq], ?_⟩
    have := (Ig.buf_cell (i := q) h (by omega)).1
    exact this
theorem Ig.rep_snoc (M : List Int) (x : Int) (j : Nat) : M ++ List.replicate (j + 1) x = (M ++ List.replicate j x) ++ [x] := by
  rw [List.replicate_succ', List.append_assoc]
theorem Ig.rep_len (M : List Int) (x : Int) (j : Nat) : (M ++ List.replicate j x).length = M.length + j := by simp
set_option maxHeartbeats 4000000 in
set_option maxRecDepth 100000 in
theorem Ig.readRuns_c (b n : Nat) (l : List UInt8) (w : World) (hw : Ty.Tabs w) (hG : Ty.G ≤ b) (h : Ty.Cur b w l 0) (hl : l.length ≤ 140737488355328) (hn : n ≤ 65536) :
    Calls Tryd.prog 65 #[.pointer (some ⟨b, 0, none⟩), .int .i64 n] w (Ig.Rd b w (Ig.rdR n l)) := by
  have hbw := h.lt
  go_enter Tryd.func65, Tryd.ntmps65
  go_wp2
  go_loopw [6] (fun lv wr => ∃ M l2, Ig.MidR n l M l2 ∧ Ig.Own w.heap.size wr lv M ∧ Ty.Cur b wr l2 0 ∧ w.grownBy wr (some b)) (fun lv _ => match lv with | .slice _ m _ => n - m | _ => 0)
  case atStart => exact ⟨[], l, Ig.MidR.start n l, Ig.Own.nil _ _, h, Ty.by_refl _ _⟩
  case round =>
    obtain ⟨M, l2, hM, hO, hc, hg⟩ := hrel
    have hT := hw.by hg (by intro k hk; cases hk; exact hG)
    have hMn := hM.1
    have hl2 := hM.2.1
    have HM := Lib.hid hM
    have HO := Lib.hid hO
    have HGR := Lib.hid hg
    obtain ⟨a, c, rfl⟩ := Ig.own_len hO
    clear hM hO hg h
    by_cases hk : M.length < n
    · have hki : (M.length : Int) < (n : Int) := by omega
      have cu := Ig.cuint_m b l2 wr hT hc (by omega)
      have hu := Ty.num_u64 l2
      by_cases he : (num l2).2.2 = 0
      · rw [he] at cu
        have HE := Lib.hid he
        have hr1 := Ig.rest_le l2
        by_cases hb2 : (num l2).1 = 0 ∨ n - M.length < (num l2).1
        · have HB := Lib.hid (HM.out.bad2 hk he hb2)
          generalize (num l2).1 = k at cu hb2
          generalize rest l2 = l3 at cu
          clear he hc hT hl2 hr1 hu
          rcases Nat.eq_zero_or_pos k with h0 | h0
          · subst h0
            clear hb2
            go_wp2_with fail
            refine cu.mono ?_
            rintro e w3 ⟨rfl, hc3, hg3⟩
            have HG3 := Lib.hid (Ty.by_trans HGR.out hg3)
            have HC3 := Lib.hid hc3
            clear cu hg3 hc3
            go_wp2_with fail
            refine (Ty.err_c b _ 0 _ HC3.out).mono ?_
            rintro e w4 ⟨rfl, rfl⟩
            go_wp2
            go_ret2
            exact Ig.Rd.bad (by rw [HB.out]; rfl) (by rw [HB.out]; omega) HG3.out
          · have hk0 : ((k : Int) == 0) = false := by rw [beq_eq_false_iff_ne]; omega
            have hlt : (n : Int) - (M.length : Int) < (k : Int) := by omega
            clear hb2
            go_wp2_with fail
            refine cu.mono ?_
            rintro e w3 ⟨rfl, hc3, hg3⟩
            have HG3 := Lib.hid (Ty.by_trans HGR.out hg3)
            have HC3 := Lib.hid hc3
            clear cu hg3 hc3
            go_wp2_with fail
            refine (Ty.err_c b _ 0 _ HC3.out).mono ?_
            rintro e w4 ⟨rfl, rfl⟩
            go_wp2
            go_ret2
            exact Ig.Rd.bad (by rw [HB.out]; rfl) (by rw [HB.out]; omega) HG3.out
        · have HNB := Lib.hid hb2
          have hk1 : 0 < (num l2).1 := by omega
          have hk2 : (num l2).1 ≤ n - M.length := by omega
          have ci := fun wz h1 h2 => Ig.cint_m b (rest l2) wz h1 h2 (by omega)
          have hk0 : (((num l2).1 : Int) == 0) = false := by rw [beq_eq_false_iff_ne]; omega
          have hle : ((num l2).1 : Int) ≤ (n : Int) - (M.length : Int) := by omega
          by_cases he2 : (num (rest l2)).2.2 = 0
          · rw [he2] at ci
            by_cases hlast : M.getLast? = some (sg (rest l2))
            · have HB := Lib.hid (HM.out.bad4 hk he hb2 he2 hlast)
              obtain ⟨q, hq⟩ : ∃ q, M.length = q + 1 := by
                cases hM : M with
                | nil => rw [hM] at hlast; cases hlast
                | cons y M => exact ⟨M.length, rfl⟩
              rw [Ig.last_nth hq] at hlast
              have hx : nth M q = sg (rest l2) := Option.some.inj hlast
              obtain ⟨g, c', hv, _⟩ := Ig.own_some HO.out hq
              simp only [Value.slice.injEq] at hv
              obtain ⟨rfl, _, rfl⟩ := hv
              have hq2 : q < M.length := by omega
              generalize (num l2).1 = k at cu hk1 hk2 hu hk0 hle
              generalize sg (rest l2) = x at ci hx
              generalize rest (rest l2) = l4 at ci
              generalize rest l2 = l3 at cu ci
              have HX := Lib.hid hx
              have HQ := Lib.hid hq2
              clear he he2 hlast hq hx hr1 hb2 hl2 hq2
              go_wp2_with fail
              refine cu.mono ?_
              rintro e w3 ⟨rfl, hc3, hg3⟩
              have hT3 := hT.at_ hg3 hG
              have hO3 := HO.out.by hg3 hbw
              have HG3 := Lib.hid (Ty.by_trans HGR.out hg3)
              have HC3 := Lib.hid hc3
              have HO3 := Lib.hid hO3
              clear cu hg3 hc3 hO3 hc hT
              go_wp2_with fail
              refine (Ty.err_c b _ 0 _ HC3.out).mono ?_
              rintro e w4 ⟨rfl, rfl⟩
              have ci2 := ci _ hT3 HC3.out
              clear ci
              go_wp2_with fail
              refine ci2.mono ?_
              rintro e w5 ⟨rfl, hc5, hg5⟩
              have HO5 := Lib.hid (HO3.out.by hg5 hbw)
              have HG5 := Lib.hid (Ty.by_trans HG3.out hg5)
              have HC5 := Lib.hid hc5
              clear ci2 hg5 hc5 hT3 HO3 HG3 HC3
              go_wp2_with fail
              refine (Ty.err_c b _ 0 _ HC5.out).mono ?_
              rintro e w6 ⟨rfl, rfl⟩
              have hcl : _ = some (Value.int .i64 _) := (Ig.buf_cell HO5.out HQ.out).1
              rw [HX.out] at hcl
              go_wp2
              go_ret2
              exact Ig.Rd.bad (by rw [HB.out]; rfl) (by rw [HB.out]; omega) HG5.out
            · have HN := Lib.hid (HM.out.next hk he hb2 he2 hlast)
              have hu2 := hu
              generalize hkk : (num l2).1 = k at cu hk1 hk2 hu hk0 hle HN
              generalize hxx : sg (rest l2) = x at ci HN hlast
              generalize rest (rest l2) = l4 at ci HN
              generalize rest l2 = l3 at cu ci
              clear he he2 hr1 hb2 hl2 hkk hxx hu2
              rcases (by
                cases hM : M with
                | nil => exact .inl rfl
                | cons y M' => exact .inr ⟨M'.length, rfl⟩ : M.length = 0 ∨ ∃ q, M.length = q + 1) with hq | ⟨q, hq⟩
              · have hz : ¬ (0 : Int) < (M.length : Int) := by omega
                have HZ := Lib.hid hz
                clear hlast hz
                go_wp2_with fail
                refine cu.mono ?_
                rintro e w3 ⟨rfl, hc3, hg3⟩
                have hT3 := hT.at_ hg3 hG
                have hO3 := HO.out.by hg3 hbw
                have HG3 := Lib.hid (Ty.by_trans HGR.out hg3)
                have HC3 := Lib.hid hc3
                have HO3 := Lib.hid hO3
                clear cu hg3 hc3 hO3 hc hT
                go_wp2_with fail
                refine (Ty.err_c b _ 0 _ HC3.out).mono ?_
                rintro e w4 ⟨rfl, rfl⟩
                have ci2 := ci _ hT3 HC3.out
                clear ci
                go_wp2_with fail
                refine ci2.mono ?_
                rintro e w5 ⟨rfl, hc5, hg5⟩
                have HO5 := Lib.hid (HO3.out.by hg5 hbw)
                have HG5 := Lib.hid (Ty.by_trans HG3.out hg5)
                have HC5 := Lib.hid hc5
                clear ci2 hg5 hc5 hT3 HO3 HG3 HC3
                go_wp2_with fail
                refine (Ty.err_c b _ 0 _ HC5.out).mono ?_
                rintro e w6 ⟨rfl, rfl⟩
                have hkb : (k : Int) ≤ 65536 := by omega
                have HKN : Hid (k ≤ n - M.length ∧ 0 < k) := Lib.hid ⟨hk2, hk1⟩
                have HO6 := HO5.out
                rw [hq] at HO6
                go_wp2
                go_loopw [6, 52] (fun lv i wz => ∃ j M2, j ≤ k ∧ i = .int .u64 ((j : Nat) : Int) ∧ M2 = M ++ List.replicate j x ∧ Ig.Own w.heap.size wz lv M2 ∧ Ty.Cur b wz l4 0 ∧ w.grownBy wz (some b)) (fun _ i _ => k - (intOf i).toNat)
                case atStart => exact ⟨0, M, by omega, rfl, by simp, HO6, HC5.out, HG5.out⟩
                case round =>
                  obtain ⟨j, M2, hj, rfl, hM2, hO2, hc2, hg2⟩ := hrel
                  have HM2 := Lib.hid hM2
                  have HO2 := Lib.hid hO2
                  have HC2 := Lib.hid hc2
                  have HG2 := Lib.hid hg2
                  have hM2l : M2.length = M.length + j := by rw [hM2]; exact Ig.rep_len M x j
                  have HL2 := Lib.hid hM2l
                  have hs2 := hg2.size
                  obtain ⟨a2, c2, rfl⟩ := Ig.own_len hO2
                  clear hM2 hc2 hg2 hM2l HO6 hO2
                  by_cases hjk : j < k
                  · have hji : (j : Int) < (k : Int) := by omega
                    have hj0 : (0 : Int) ≤ (j : Int) := by omega
                    go_wp2_with (at_builtin; refine Bt.wpList_append_one 2 22 (.int .i64 0) 8 Tryd.underlying22 Ig.infoI rfl (HO2.out.pre x) (by omega) (by have := HL2.out; have := HKN.out; omega) (by have := HL2.out; have := HKN.out; omega) (.tmp 54) (.tmp 56) _ rfl rfl rfl rfl rfl ?_; intro v7 w7 h7 g7)
                    have H7 := Lib.hid (Ig.Own.post (h7 (Ig.iv_snoc M2 x)))
                    have HC7 := Lib.hid (Ig.cur_grew HC2.out g7 (Ig.buf_ne HO2.out hbw))
                    have HG7 := Lib.hid (Ig.grew_by g7 HG2.out (Bt.Buf.base_le HO2.out))
                    clear h7 g7
                    go_roundw
                    case rel => exact ⟨j + 1, _, by omega, by simp, by rw [HM2.out, Ig.rep_snoc], H7.out, HC7.out, HG7.out⟩
                    case measure => simp [intOf]; omega
                  · obtain rfl : j = k := by omega
                    have hji : ¬ (j : Int) < (j : Int) := by omega
                    go_wp2
                    go_roundw
                    case rel => exact ⟨M2, l4, by rw [HM2.out]; exact HN.out, HO2.out, HC2.out, HG2.out⟩
                    case measure =>
                      have := HL2.out
                      have := HKN.out
                      simp only
                      omega
              · have hx : nth M q ≠ x := fun e => hlast (by rw [Ig.last_nth hq, e])
                obtain ⟨g, c', hv, _⟩ := Ig.own_some HO.out hq
                simp only [Value.slice.injEq] at hv
                obtain ⟨rfl, _, rfl⟩ := hv
                have hq2 : q < M.length := by omega
                obtain ⟨y, ey⟩ : ∃ y, y = nth M q := ⟨_, rfl⟩
                have hxy : (y == x) = false := by rw [beq_eq_false_iff_ne, ey]; exact hx
                have HY := Lib.hid ey
                have HQ := Lib.hid hq2
                clear hlast hx ey hq2
                go_wp2_with fail
                refine cu.mono ?_
                rintro e w3 ⟨rfl, hc3, hg3⟩
                have hT3 := hT.at_ hg3 hG
                have hO3 := HO.out.by hg3 hbw
                have HG3 := Lib.hid (Ty.by_trans HGR.out hg3)
                have HC3 := Lib.hid hc3
                have HO3 := Lib.hid hO3
                clear cu hg3 hc3 hO3 hc hT
                go_wp2_with fail
                refine (Ty.err_c b _ 0 _ HC3.out).mono ?_
                rintro e w4 ⟨rfl, rfl⟩
                have ci2 := ci _ hT3 HC3.out
                clear ci
                go_wp2_with fail
                refine ci2.mono ?_
                rintro e w5 ⟨rfl, hc5, hg5⟩
                have HO5 := Lib.hid (HO3.out.by hg5 hbw)
                have HG5 := Lib.hid (Ty.by_trans HG3.out hg5)
                have HC5 := Lib.hid hc5
                clear ci2 hg5 hc5 hT3 HO3 HG3 HC3
                go_wp2_with fail
                refine (Ty.err_c b _ 0 _ HC5.out).mono ?_
                rintro e w6 ⟨rfl, rfl⟩
                have hcl : _ = some (Value.int .i64 _) := (Ig.buf_cell HO5.out HQ.out).1
                rw [← HY.out] at hcl
                have hkb : (k : Int) ≤ 65536 := by omega
                have HKN : Hid (k ≤ n - M.length ∧ 0 < k) := Lib.hid ⟨hk2, hk1⟩
                have HO6 := HO5.out
                rw [hq] at HO6
                go_wp2
                go_loopw [6, 52] (fun lv i wz => ∃ j M2, j ≤ k ∧ i = .int .u64 ((j : Nat) : Int) ∧ M2 = M ++ List.replicate j x ∧ Ig.Own w.heap.size wz lv M2 ∧ Ty.Cur b wz l4 0 ∧ w.grownBy wz (some b)) (fun _ i _ => k - (intOf i).toNat)
                case atStart => exact ⟨0, M, by omega, rfl, by simp, HO6, HC5.out, HG5.out⟩
                case round =>
                  obtain ⟨j, M2, hj, rfl, hM2, hO2, hc2, hg2⟩ := hrel
                  have HM2 := Lib.hid hM2
                  have HO2 := Lib.hid hO2
                  have HC2 := Lib.hid hc2
                  have HG2 := Lib.hid hg2
                  have hM2l : M2.length = M.length + j := by rw [hM2]; exact Ig.rep_len M x j
                  have HL2 := Lib.hid hM2l
                  have hs2 := hg2.size
                  obtain ⟨a2, c2, rfl⟩ := Ig.own_len hO2
                  clear hM2 hc2 hg2 hM2l HO6 hO2
                  by_cases hjk : j < k
                  · have hji : (j : Int) < (k : Int) := by omega
                    have hj0 : (0 : Int) ≤ (j : Int) := by omega
                    go_wp2_with (at_builtin; refine Bt.wpList_append_one 2 22 (.int .i64 0) 8 Tryd.underlying22 Ig.infoI rfl (HO2.out.pre x) (by omega) (by have := HL2.out; have := HKN.out; omega) (by have := HL2.out; have := HKN.out; omega) (.tmp 54) (.tmp 56) _ rfl rfl rfl rfl rfl ?_; intro v7 w7 h7 g7)
                    have H7 := Lib.hid (Ig.Own.post (h7 (Ig.iv_snoc M2 x)))
                    have HC7 := Lib.hid (Ig.cur_grew HC2.out g7 (Ig.buf_ne HO2.out hbw))
                    have HG7 := Lib.hid (Ig.grew_by g7 HG2.out (Bt.Buf.base_le HO2.out))
                    clear h7 g7
                    go_roundw
                    case rel => exact ⟨j + 1, _, by omega, by simp, by rw [HM2.out, Ig.rep_snoc], H7.out, HC7.out, HG7.out⟩
                    case measure => simp [intOf]; omega
                  · obtain rfl : j = k := by omega
                    have hji : ¬ (j : Int) < (j : Int) := by omega
                    go_wp2
                    go_roundw
                    case rel => exact ⟨M2, l4, by rw [HM2.out]; exact HN.out, HO2.out, HC2.out, HG2.out⟩
                    case measure =>
                      have := HL2.out
                      have := HKN.out
                      simp only
                      omega
          · have HB := Lib.hid (HM.out.bad3 hk he hb2 he2)
            generalize (num (rest l2)).2.2 = q at ci he2 HB
            have hne : ((q : Int) != 0) = true := by rw [bne_iff_ne]; omega
            have HQ := Lib.hid he2
            generalize (num l2).1 = k at cu hk1 hk2 hu hk0 hle
            generalize sg (rest l2) = x at ci
            generalize rest (rest l2) = l4 at ci
            generalize rest l2 = l3 at cu ci
            clear he he2 hr1 hb2 hl2
            go_wp2_with fail
            refine cu.mono ?_
            rintro e w3 ⟨rfl, hc3, hg3⟩
            have hT3 := hT.at_ hg3 hG
            have hO3 := HO.out.by hg3 hbw
            have HG3 := Lib.hid (Ty.by_trans HGR.out hg3)
            have HC3 := Lib.hid hc3
            have HO3 := Lib.hid hO3
            clear cu hg3 hc3 hO3 hc hT
            go_wp2_with fail
            refine (Ty.err_c b _ 0 _ HC3.out).mono ?_
            rintro e w4 ⟨rfl, rfl⟩
            have ci2 := ci _ hT3 HC3.out
            clear ci
            go_wp2_with fail
            refine ci2.mono ?_
            rintro e w5 ⟨rfl, hc5, hg5⟩
            have HO5 := Lib.hid (HO3.out.by hg5 hbw)
            have HG5 := Lib.hid (Ty.by_trans HG3.out hg5)
            have HC5 := Lib.hid hc5
            clear ci2 hg5 hc5 hT3 HO3 HG3 HC3
            go_wp2_with fail
            refine (Ty.err_c b _ q _ HC5.out).mono ?_
            rintro e w6 ⟨rfl, rfl⟩
            go_wp2_with fail
            refine (Ty.err_c b _ q _ HC5.out).mono ?_
            rintro e w6 ⟨rfl, rfl⟩
            go_wp2
            go_ret2
            exact Ig.Rd.bad (by rw [HB.out]) (by rw [HB.out]; exact HQ.out) HG5.out
      · have HE := Lib.hid (HM.out.bad1 hk he)
        generalize (num l2).2.2 = q at cu he HE
        have hne : ((q : Int) != 0) = true := by rw [bne_iff_ne]; omega
        have HQ := Lib.hid he
        clear he hT hc hu hl2
        go_wp2_with fail
        refine cu.mono ?_
        rintro e w3 ⟨rfl, hc3, hg3⟩
        have HG3 := Lib.hid (Ty.by_trans HGR.out hg3)
        have HC3 := Lib.hid hc3
        clear cu hg3 hc3
        go_wp2_with fail
        refine (Ty.err_c b _ q _ HC3.out).mono ?_
        rintro e w4 ⟨rfl, rfl⟩
        go_wp2_with fail
        refine (Ty.err_c b _ q _ HC3.out).mono ?_
        rintro e w4 ⟨rfl, rfl⟩
        go_wp2
        go_ret2
        exact Ig.Rd.bad (by rw [HE.out]) (by rw [HE.out]; exact HQ.out) HG3.out
    · have hki : ¬ (M.length : Int) < (n : Int) := by omega
      have HD := Lib.hid (HM.out.done (by omega))
      have HC := Lib.hid hc
      clear hc hl2 hMn
      go_wp2
      go_ret2
      exact Ig.Rd.good (by rw [HD.out]) (by rw [HD.out]; exact HO.out) (by rw [HD.out]; exact HC.out) HGR.out
end Go.Proofs.YtkgmildbhelelaaDoor
