import Derived.Test.YtikdcmplihgdcaaZAR
import Derived.Lib.QuietBelow
import Derived.BigQuiet
namespace Go.Proofs.Ytikdcmplihgdcaa
open Go Go.RowKit
theorem Mg.Rd.append {w0 : World} {Es Fs : List Mg.Y} {L M : List Dd.D} (h : Mg.Rd w0 Es L) (k : Mg.Rd w0 Fs M) : Mg.Rd w0 (Es ++ Fs) (L ++ M) := by
 refine ⟨by rw [List.length_append, List.length_append, h.1, k.1], fun i x hx => ?_⟩
 rcases Nat.lt_or_ge i L.length with hi | hi
 ·rw [List.getElem?_append_left hi] at hx
  obtain ⟨y, e1, e2⟩ := h.2 i x hx
  exact ⟨y, by rw [List.getElem?_append_left (by rw [h.1]; exact hi)]; exact e1, e2⟩
 ·rw [List.getElem?_append_right hi] at hx
  obtain ⟨y, e1, e2⟩ := k.2 _ x hx
  exact ⟨y, by rw [List.getElem?_append_right (by rw [h.1]; exact hi), h.1]; exact e1, e2⟩
theorem Mg.flat_next {LL : List (List Dd.D)} {i : Nat} {L : List Dd.D} (h : LL[i]? = some L) : (LL.take (i + 1)).flatten = (LL.take i).flatten ++ L := by
 obtain ⟨hi, rfl⟩ := List.getElem?_eq_some_iff.1 h
 rw [List.take_succ_eq_append_getElem hi, List.flatten_append]
 simp
theorem Mg.flat_le (LL : List (List Dd.D)) (i : Nat) : (LL.take i).flatten.length ≤ LL.flatten.length := by
 have : LL.flatten = (LL.take i).flatten ++ (LL.drop i).flatten := by rw [← List.flatten_append, List.take_append_drop]
 rw [this, List.length_append]
 omega
set_option maxHeartbeats 16000000 in
set_option maxRecDepth 100000 in
theorem Mg.parts_w (v : Value) (L : List Dd.D) (n : Int) (w : World) (hv : Bk.Ds w v L) (hrr : Mg.Rl L) (hl : L.length ≤ 4398046511104) (hn : n ≤ 9223372036854775807) :
 Calls Try.prog 4 #[v, .int .i64 n] w fun e w' => e = .returned (.bool true) ∧ Below w.heap.size w w' := by
 have HV := Lib.hid hv
 have HL := Lib.hid hl
 obtain ⟨a, c, rfl, -, -, -⟩ := hv
 have CA := Lib.hid fun (W : World) (g : Below w.heap.size w W) => Mg.split_c _ L n W (HV.out.later g) HL.out hn
 have CB := Lib.hid fun (W : World) (g : Below w.heap.size w W) => Mg.rsplit_c _ L n W (HV.out.later g) HL.out
 have CC := Lib.hid fun (W : World) (g : Below w.heap.size w W) => Mg.live_c _ L W (HV.out.later g) hrr HL.out
 have CD := Lib.hid fun (W : World) (g : Below w.heap.size w W) => Mg.rlive_c _ L W (HV.out.later g) HL.out
 have CS := Lib.hid fun (W : World) (u : Value) (g : Below w.heap.size w W) (hu : Bk.Ds W u L) => Bk.rsame_c u _ L W hu (HV.out.later g)
 have HFL := Lib.hid (Mg.cut_flat (Mg.step_pos n L.length) L)
 have HNE := Lib.hid fun (l : List Dd.D) (h : l ∈ Mg.cut (Mg.step n L.length) L) => Mg.cut_ne (Mg.step_pos n L.length) h
 have HCL : Hid ((Mg.cut (Mg.step n L.length) L).length ≤ 4398046511104) := Lib.hid (by
  have := Mg.cut_len (L := L) (Mg.step_pos n L.length) (Nat.le_refl _)
  rw [List.take_length] at this
  omega)
 generalize Mg.cut (Mg.step n L.length) L = CC9 at CA CB HFL HNE HCL
 generalize Mg.live L = LV at CC CD
 clear hl hrr hn
 go_enter Try.func4, Try.ntmps4
 go_wp2_with fail
 refine (Mg.lives_c w).mono ?_
 rintro e w1 ⟨rfl, g1⟩
 have HG1 := Lib.hid g1
 have CA1 := Lib.hid (CA.out w1 g1)
 clear g1
 go_wp2_with fail
 refine (CA1.out).mono ?_
 rintro e w2 ⟨x, rfl, hx, g2⟩
 have HG2 := Lib.hid (Mg.grow HG1.out g2)
 have HX := Lib.hid hx
 have CB1 := Lib.hid (CB.out w2 HG2.out)
 obtain ⟨xa, xc, rfl, -, -, -⟩ := hx
 clear g2
 go_wp2_with fail
 refine (CB1.out).mono ?_
 rintro e w3 ⟨y, rfl, hy, g3⟩
 have HG3 := Lib.hid (Mg.grow HG2.out g3)
 have HX3 := Lib.hid (HX.out.later g3)
 have HY3 := Lib.hid hy
 have CC1 := Lib.hid (CC.out w3 HG3.out)
 obtain ⟨ya, yc, rfl, -, -, -⟩ := hy
 generalize hN : CC9.length = N at HCL ⊢
 have HN := Lib.hid hN
 have hcl := HCL.out
 clear g3 HX CA CB CA1 CB1 hN
 go_wp2_with fail
 refine (CC1.out).mono ?_
 rintro e w4 ⟨p, rfl, hp, g4⟩
 have HG4 := Lib.hid (Mg.grow HG3.out g4)
 have HX4 := Lib.hid (HX3.out.later g4)
 have HY4 := Lib.hid (HY3.out.later g4)
 have HP4 := Lib.hid hp
 have CD1 := Lib.hid (CD.out w4 HG4.out)
 obtain ⟨pa, pc, rfl, -, -, -⟩ := hp
 clear g4 HX3 HY3 CC1
 generalize hLV : LV.length = M at *
 go_wp2_with fail
 refine (CD1.out).mono ?_
 rintro e w5 ⟨q, rfl, hq, g5⟩
 have HG5 := Lib.hid (Mg.grow HG4.out g5)
 have HX5 := Lib.hid (HX4.out.later g5)
 have HY5 := Lib.hid (HY4.out.later g5)
 have HSM := Lib.hid (Bk.rsame_c _ _ _ w5 (HP4.out.later g5) hq)
 obtain ⟨qa, qc, rfl, -, -, -⟩ := hq
 rw [hLV] at HSM ⊢
 clear g5 HX4 HY4 HP4 CD1 hLV
 go_wp2_with fail
 refine (HSM.out).mono ?_
 rintro e w6 ⟨rfl, g6⟩
 have HG6 := Lib.hid (Mg.grow HG5.out g6)
 have HX6 := Lib.hid (HX5.out.later g6)
 have HY6 := Lib.hid (HY5.out.later g6)
 clear g6 HX5 HY5 HSM
 obtain ⟨R, hR, hRV⟩ := HX6.out.lr
 obtain ⟨S, hS, hSV⟩ := HY6.out.lr
 obtain ⟨a9, c9, e9, -, -, h9⟩ := hR
 obtain ⟨a8, c8, e8, -, -, h8⟩ := hS
 simp only [Value.slice.injEq] at e9 e8
 obtain ⟨rfl, -, rfl⟩ := e9
 obtain ⟨rfl, -, rfl⟩ := e8
 have HRV := Lib.hid hRV
 have HSV := Lib.hid hSV
 have H9 := Lib.hid h9
 have H8 := Lib.hid h8
 have hn0 : (0 : Int) ≤ (N : Int) := by omega
 clear hRV hSV h9 h8 hn0
 go_upto_region 8 with (fail)
 go_loopw [7, 8] (fun av iv wr => ∃ (i : Nat) (Es : List Mg.Y), i ≤ N ∧ iv = .int .i64 i ∧ Dk.Own 41 2 Rn.e2 w6.heap.size wr av Es ∧ Mg.Rd w6 Es ((CC9.take i).flatten) ∧ Below w6.heap.size w6 wr) (fun _ iv _ => N - (intOf iv).toNat)
 case atStart => exact ⟨0, [], Nat.zero_le _, rfl, Dk.Own.nil _ _, ⟨rfl, fun i x hx => by simp at hx⟩, Below.refl _ _⟩
 case round =>
  obtain ⟨i, Es, hi, rfl, hO, hrd, hB⟩ := hrel
  have HB := Lib.hid hB
  have HRD := Lib.hid hrd
  have hi0 : (0 : Int) ≤ (i : Int) := by omega
  by_cases hil : i < N
  ·have hx := List.getElem?_eq_getElem (show i < CC9.length by rw [HN.out]; exact hil)
   generalize CC9[i]'(by rw [HN.out]; exact hil) = l at hx
   rcases H9.out with h9 | ⟨b, o, rfl, hlt, hc⟩
   ·rw [h9] at hx; simp at hx
   rcases H8.out with h8 | ⟨b2, o2, rfl, hlt2, hc2⟩
   ·rw [h8] at hx; simp at hx
   have c0 := (hB.cell (p := ⟨b, o + i, none⟩) hlt).trans (hc i l hx)
   have d0 := (hB.cell (p := ⟨b2, o2 + i, none⟩) hlt2).trans (hc2 i l hx)
   have hds := HRV.out i l hx
   have hds2 := HSV.out i l hx
   have hne := HNE.out l (List.mem_of_getElem? hx)
   obtain ⟨Ys, hys, hsrc⟩ := Mg.ds_src hds hne
   have HSRC := Lib.hid hsrc
   have HNX : Hid (Mg.Rd w6 (Es ++ Ys) ((CC9.take (i + 1)).flatten)) := Lib.hid (by rw [Mg.flat_next hx]; exact hrd.append hys)
   have HSZ : Hid (Es.length + Ys.length ≤ 4398046511104) := Lib.hid (by
    have h1 := HNX.out.1
    have h2 := Mg.flat_le CC9 (i + 1)
    rw [HFL.out] at h2
    rw [List.length_append] at h1
    have := HL.out
    omega)
   have CSA := Lib.hid fun (W : World) (g : Below wr.heap.size wr W) => Bk.rsame_c _ _ l W ((hds.later hB).later g) ((hds2.later hB).later g)
   have hl0 : ((l.length : Int) == 0) = false := by
    rw [beq_eq_false_iff_ne]
    have := List.length_pos_iff.2 hne
    omega
   obtain ⟨_, _, e7, -, -, -⟩ := id hds
   obtain ⟨_, _, e6, -, -, -⟩ := id hds2
   generalize R i = r9 at c0 CSA HSRC e7
   generalize S i = s9 at d0 CSA e6
   obtain ⟨ra, rn, rc⟩ := r9
   obtain ⟨sa, sn, sc⟩ := s9
   simp only [Bk.sv] at c0 d0 CSA HSRC e7 e6
   simp only [Value.slice.injEq] at e7 e6
   obtain ⟨rfl, rfl, rfl⟩ := e7
   obtain ⟨rfl, rfl, rfl⟩ := e6
   have hii : (i : Int) < (N : Int) := by omega
   have hi2 : (i : Int) ≤ 4398046511104 := by omega
   have HIL := Lib.hid hil
   have C0 := fun d os => cell_regrown c0 d os
   have D0 := fun d os => cell_regrown d0 d os
   have CQ : Hid (∀ p : Regrown, _) := Lib.hid fun p : Regrown => Calls.regrown_of (d := p.d) (os := p.os) (w := wr) (CSA.out _ (below_regrown wr p.d p.os))
   have HC0 := Lib.hid c0
   have HLT := Lib.hid hlt
   have HO := Lib.hid hO
   generalize l.length = ll at c0 d0 C0 D0 CQ hl0 HSRC HC0
   clear hx hc hc2 hlt2 hds hds2 hne hys hsrc hi hil hB hrd c0 d0 CSA hlt hO hcl
   go_upto_region 10 with (fail)
   refine wp_region_quiet_below (by kernel_rfl) (by kernel_rfl) ?_
   repeat (go_big_quiet_step (first | with_reducible exact CQ.out _))
   refine wpQuiet_nil ?_
   intro w8 hw8
   have hg8 := Bk.below_reg hw8
   have HB8 := Lib.hid (Mg.grow HB.out hg8)
   have c0 := (hg8.cell (p := ⟨b, o + i, none⟩) (World.block_lt_of_cell? wr _ HC0.out)).trans HC0.out
   have hO8 := HO.out.kept hg8
   have hb8 := HB8.out.size
   have hsz := HSZ.out
   clear hw8 hg8 C0 D0 hl0
   go_wp2_with (at_builtin; refine Dk.wpList_append 25 _ 32 Try.underlying25 Rn.infoD rfl (by decide) Rn.e2_len Rn.e2_one Ys hO8 hb8 (by omega) (by omega) (HSRC.out w8 HB8.out) (.tmp 54) (.tmp 58) (by rfl) (by rfl) (by rfl) (by rfl) ?_; intro v9 w9 o9 g9)
   have H9O := Lib.hid o9
   have HB9 := Lib.hid (Dk.own_below HB8.out hO8 g9)
   clear o9 g9 hO8 hb8 hsz c0
   go_roundw
   case rel => exact ⟨i + 1, Es ++ Ys, HIL.out, by simp, H9O.out, HNX.out, HB9.out⟩
   case measure => (have := HIL.out; simp [intOf]; omega)
  ·obtain rfl : N = i := by omega
   have hii : ¬ (N : Int) < (N : Int) := by omega
   have hds := Mg.own_rd hO hrd hB
   rw [← HN.out, List.take_length, HFL.out] at hds
   have HG8 := Lib.hid (Mg.grow HG6.out hB)
   have CZ := Lib.hid (CS.out wr _ HG8.out hds)
   obtain ⟨za, zc, rfl, -, -, -⟩ := hds
   clear hi hil hB hO hrd hcl
   go_wp2_with fail
   refine (CZ.out).mono ?_
   rintro e w9 ⟨rfl, g9⟩
   have HG9 := Lib.hid (Mg.grow HG8.out g9)
   clear g9
   go_wp2
   go_ret
   exact ⟨rfl, HG9.out⟩
end Go.Proofs.Ytikdcmplihgdcaa
