import Derived.Test.YtodeodndjkkkbaaTAG
import Derived.BigQuiet
import Derived.Deep.RegionHeld3
import Derived.Test.YtodeodndjkkkbaaTAA
import Derived.Deep.Slices
import Derived.Deep.Fields
import Derived.ChangeSame
import Derived.ProofKit
import Derived.OpenShut
import Derived.SizedLaws
import Derived.Test.YtodeodndjkkkbaaTAF
namespace Go.Proofs.Ytodeodndjkkkbaa
section
open Go Go.RowKit Go.Lib Go.Sort
def Lv.Lat (w : World) (v : Value) : Option Mf.P → Prop
 | none => v = .pointer none
 | some q => ∃ b, v = .pointer (some ⟨b, 0, none⟩) ∧ Mf.PA w b 0 q
theorem Lv.Lat.kept {w w' : World} {v : Value} {o : Option Mf.P} (h : Lv.Lat w v o) (g : Below w.heap.size w w') : Lv.Lat w' v o := by
 cases o with
 | none => exact h
 | some q => obtain ⟨b, e, h⟩ := h; exact ⟨b, e, h.kept g⟩
theorem Lv.lp_hit {o : Option Mf.P} {K : List Mf.P} {k : Nat} {p : Mf.P} (h : K[k]? = some p) (hh : Lv.hit o p = true) : Lv.lp o (K.drop k) = false := by rw [Lv.lp_step h, if_pos hh]
theorem Lv.lp_next {o : Option Mf.P} {K : List Mf.P} {k : Nat} {p : Mf.P} (h : K[k]? = some p) (hh : Lv.hit o p = false) : Lv.lp o (K.drop k) = Lv.lp (Lv.nxt o p) (K.drop (k + 1)) := by rw [Lv.lp_step h, if_neg (by rw [hh]; decide)]
theorem Lv.cl_ne {q p : Mf.P} (h : ¬ q.lv = p.lv) : Lv.cl q p = false := by
 unfold Lv.cl
 rw [show (q.lv == p.lv) = false from beq_eq_false_iff_ne.2 h]
 rfl
theorem Lv.cl_eq {q p : Mf.P} (h : q.lv = p.lv) : Lv.cl q p = Lv.ov q p := by
 unfold Lv.cl
 rw [show (q.lv == p.lv) = true from beq_iff_eq.2 h]
 rfl
set_option maxHeartbeats 2000000 in
set_option maxRecDepth 100000 in
theorem Lv.disjoint_c (v : Value) (L : List Mf.P) (w : World) (hL : Mf.Ps w v L) (hl : L.length ≤ 1000000000) :
 Calls Try.prog 18 #[v] w fun e w' => ∃ B : Bool, e = .returned (.bool B) ∧ (B = true ↔ Lv.DJ L) ∧ Below w.heap.size w w' := by
 have C1 := Lv.those_c v L w hL hl 51 #[] (enters_of Try.func51 (by kernel_rfl) rfl) (fun x => x.lv != 0) (Lv.dis1_keeps w)
 have hfl : (L.filter fun x => x.lv != 0).length ≤ 1000000000 := Nat.le_trans (List.length_filter_le _ _) hl
 have HFL := Lib.hid hfl
 obtain ⟨a, c, rfl, -⟩ := hL.form
 clear hL hl hfl
 go_enter Try.func18, Try.ntmps18
 go_wp2_with fail
 refine C1.mono ?_
 rintro e w1 ⟨u, rfl, hu, g1⟩
 have C2 := Lv.sort_c hu (by have := HFL.out; omega)
 have HU := Lib.hid hu
 have HG1 := Lib.hid g1
 clear hu g1 C1
 go_wp2_with fail
 refine C2.mono ?_
 rintro e w2 ⟨rfl, K, hperm, hsd, hs⟩
 have HG2 := Lib.hid (Lv.Sorted.below0 hs HU.out HG1.out HG1.out.size)
 have HPS := Lib.hid hs.row.ps
 have HDJ := Lib.hid (Lv.dj_lp hperm hsd)
 have HKN : Hid (K.length ≤ 1000000000) := Lib.hid (by rw [hperm.length_eq]; exact HFL.out)
 obtain ⟨ka, kc, rfl, -⟩ := HPS.out.form
 clear hs hperm hsd C2
 go_wp2_with fail
 go_loopw [4, 13] (fun lat i wr => ∃ (k : Nat) (o : Option Mf.P), k ≤ K.length ∧ i = .int .i64 (k : Int) ∧ Lv.lp none K = Lv.lp o (K.drop k) ∧ Below w2.heap.size w2 wr ∧ Lv.Lat wr lat o) (fun _ i _ => K.length - (intOf i).toNat)
 case atStart => exact ⟨0, none, Nat.zero_le _, rfl, rfl, Below.refl _ _, rfl⟩
 case round =>
  obtain ⟨k, o, hk, rfl, hlp, hB, hlat⟩ := hrel
  have HLP := Lib.hid hlp
  have HB := Lib.hid hB
  have HLAT := Lib.hid hlat
  clear hlp
  by_cases hkl : k < K.length
  ·have hki : (k : Int) < (K.length : Int) := by omega
   have hk0 : (0 : Int) ≤ (k : Int) := by omega
   have hk9 : (k : Int) ≤ 1000000000 := by have := HKN.out; omega
   have hx := List.getElem?_eq_getElem hkl
   generalize K[k] = x at hx
   obtain ⟨kb, ko, rfl, hPA⟩ := (HPS.out.kept hB).at_ hx
   have HX := Lib.hid hx
   have HKL := Lib.hid hkl
   obtain ⟨w3, hw3⟩ : ∃ w3, w3 = wr.alloc (.cells (Mf.cs x) 38) := ⟨_, rfl⟩
   have g3 : Below wr.heap.size wr w3 := by rw [hw3]; exact (Below.refl _ _).alloc (Nat.le_refl _) _
   have HPN : Hid (Mf.PA w3 wr.heap.size 0 x) := Lib.hid (by rw [hw3]; exact Mf.PA.new wr x 38)
   have HB3 := Lib.hid (hB.trans (g3.mono hB.size))
   have HL3 := Lib.hid (HLAT.out.kept g3)
   obtain ⟨i, l, ⟨an, ai, sa⟩, ⟨bn, bi, sb⟩⟩ := x
   obtain ⟨c0, c1, c2, c3, c4, c5, c6, c7⟩ := hPA
   simp only [Mf.cs] at hw3 c0 c1 c2 c3 c4 c5 c6 c7
   obtain ⟨q, hq⟩ : ∃ q, q = wr.heap.size := ⟨_, rfl⟩
   rw [← hq] at HPN
   clear hk hkl hB hlat g3 hx HLAT
   go_upto_region 7 with (fail)
   rw [← hw3]
   rw [← hq]
   clear hw3 hq c0 c1 c2 c3 c4 c5 c6 c7
   obtain ⟨d0, d1, d2, d3, d4, d5, d6, d7⟩ := HPN.out
   simp only [Nat.zero_add] at d0 d1 d2 d3 d4 d5 d6 d7
   have HCC := Lib.hid fun (W : World) => Kn.compare_c ⟨an, ai, sa⟩ ⟨bn, bi, sb⟩ W
   have hrt : Lv.rt ⟨i, l, ⟨an, ai, sa⟩, ⟨bn, bi, sb⟩⟩ = decide (Kn.cmp ⟨an, ai, sa⟩ ⟨bn, bi, sb⟩ ≤ 0) := rfl
   generalize Kn.cmp ⟨an, ai, sa⟩ ⟨bn, bi, sb⟩ = z at HCC hrt
   have HRT := Lib.hid hrt
   clear hrt
   cases o with
   | none =>
     have hv := HL3.out
     unfold Lv.Lat at hv
     subst hv
     have HH : Hid (Lv.hit none ⟨i, l, ⟨an, ai, sa⟩, ⟨bn, bi, sb⟩⟩ = false) := Lib.hid rfl
     go_quiet (fail)
     have HB5 := Lib.hid (Kn.below_drewN HB3.out nq)
     have HP5 := Lib.hid (HPN.out.kept (Kn.below_drewN (Below.refl _ w3) nq))
     have HL5 : Hid (Lv.Lat (w3.drewN nq) (.pointer none) none) := Lib.hid rfl
     generalize w3.drewN nq = w5 at HB5 HP5 HL5 ⊢
     clear d0 d1 d2 d3 d4 d5 d6 d7
     obtain ⟨d0, d1, d2, d3, d4, d5, d6, d7⟩ := HP5.out
     simp only [Nat.zero_add] at d0 d1 d2 d3 d4 d5 d6 d7
     have HNX := Lib.hid (HLP.out.trans (Lv.lp_next HX.out HH.out))
     by_cases hz : z ≤ 0
     ·have HE : Hid (Lv.nxt none ⟨i, l, ⟨an, ai, sa⟩, ⟨bn, bi, sb⟩⟩ = some ⟨i, l, ⟨an, ai, sa⟩, ⟨bn, bi, sb⟩⟩) := Lib.hid (by unfold Lv.nxt; rw [if_pos (by rw [HRT.out]; exact decide_eq_true hz)])
      have hzd : decide (z ≤ 0) = true := decide_eq_true hz
      rw [HE.out] at HNX
      go_wp2_with fail
      refine (HCC.out w5).mono ?_
      rintro e w6 ⟨rfl, g6⟩
      have HB6 := Lib.hid (HB5.out.trans (g6.mono HB5.out.size))
      have HP6 := Lib.hid (HP5.out.kept g6)
      clear d0 d1 d2 d3 d4 d5 d6 d7 g6
      go_wp2
      go_roundw
      case rel => exact ⟨k + 1, some ⟨i, l, ⟨an, ai, sa⟩, ⟨bn, bi, sb⟩⟩, HKL.out, by simp, HNX.out, HB6.out, q, rfl, HP6.out⟩
      case measure => (have := HKL.out; simp [intOf]; omega)
     ·have HE : Hid (Lv.nxt none ⟨i, l, ⟨an, ai, sa⟩, ⟨bn, bi, sb⟩⟩ = none) := Lib.hid (by unfold Lv.nxt; rw [if_neg (by rw [HRT.out, decide_eq_false hz]; decide)])
      have hzd : decide (z ≤ 0) = false := decide_eq_false hz
      rw [HE.out] at HNX
      go_wp2_with fail
      refine (HCC.out w5).mono ?_
      rintro e w6 ⟨rfl, g6⟩
      have HB6 := Lib.hid (HB5.out.trans (g6.mono HB5.out.size))
      have HL6 := Lib.hid (HL5.out.kept g6)
      clear d0 d1 d2 d3 d4 d5 d6 d7 g6
      go_wp2
      go_roundw
      case rel => exact ⟨k + 1, none, HKL.out, by simp, HNX.out, HB6.out, HL6.out⟩
      case measure => (have := HKL.out; simp [intOf]; omega)
   | some y =>
     obtain ⟨b, rfl, hy⟩ := HL3.out
     have HY := Lib.hid hy
     obtain ⟨qi, ql, ⟨en, ei, es⟩, ⟨fn, fi, fs⟩⟩ := y
     obtain ⟨e0, e1, e2, e3, e4, e5, e6, e7⟩ := hy
     simp only [Nat.zero_add] at e0 e1 e2 e3 e4 e5 e6 e7
     by_cases hlv : ql = l
     ·have HCL : Hid (Lv.cl ⟨qi, ql, ⟨en, ei, es⟩, ⟨fn, fi, fs⟩⟩ ⟨i, l, ⟨an, ai, sa⟩, ⟨bn, bi, sb⟩⟩ = Lv.ov ⟨qi, ql, ⟨en, ei, es⟩, ⟨fn, fi, fs⟩⟩ ⟨i, l, ⟨an, ai, sa⟩, ⟨bn, bi, sb⟩⟩) := Lib.hid (Lv.cl_eq hlv)
      have hlb : (ql == l) = true := beq_iff_eq.2 hlv
      clear hlv
      have CO : Hid (∀ W : World, Calls Try.prog 40 #[.agg (Mf.cs ⟨qi, ql, ⟨en, ei, es⟩, ⟨fn, fi, fs⟩⟩)] W fun e w' => ∃ g, e = .returned (.func (.func 68) #[] #[.pointer (some ⟨g, 0, none⟩)]) ∧ Mf.PA w' g 0 ⟨qi, ql, ⟨en, ei, es⟩, ⟨fn, fi, fs⟩⟩ ∧ Below W.heap.size W w') := Lib.hid fun W => (Lv.overlapping_c ⟨qi, ql, ⟨en, ei, es⟩, ⟨fn, fi, fs⟩⟩ W).mono fun e w' ⟨he, hw⟩ => ⟨W.heap.size, he, by rw [hw]; exact Mf.PA.new W ⟨qi, ql, ⟨en, ei, es⟩, ⟨fn, fi, fs⟩⟩ 38, by rw [hw]; exact (Below.refl _ _).alloc (Nat.le_refl _) _⟩
      have CV := Lib.hid fun (W : World) (b : Nat) (h : Mf.PA W b 0 ⟨qi, ql, ⟨en, ei, es⟩, ⟨fn, fi, fs⟩⟩) => Lv.overlapping1_c ⟨qi, ql, ⟨en, ei, es⟩, ⟨fn, fi, fs⟩⟩ ⟨i, l, ⟨an, ai, sa⟩, ⟨bn, bi, sb⟩⟩ b W h
      simp only [Mf.cs] at CO CV
      have HS : Hid (∀ W, Below w3.heap.size w3 W → W.cell? ⟨q, 0, none⟩ = some (.int .i64 i) ∧ W.cell? ⟨q, 1, none⟩ = some (.int .i64 l) ∧ W.cell? ⟨q, 2, none⟩ = some (.bool an) ∧ W.cell? ⟨q, 3, none⟩ = some (.int .i64 ai) ∧ W.cell? ⟨q, 4, none⟩ = some (.string sa) ∧ W.cell? ⟨q, 5, none⟩ = some (.bool bn) ∧ W.cell? ⟨q, 6, none⟩ = some (.int .i64 bi) ∧ W.cell? ⟨q, 7, none⟩ = some (.string sb) ∧ W.cell? ⟨b, 0, none⟩ = some (.int .i64 qi) ∧ W.cell? ⟨b, 1, none⟩ = some (.int .i64 ql) ∧ W.cell? ⟨b, 2, none⟩ = some (.bool en) ∧ W.cell? ⟨b, 3, none⟩ = some (.int .i64 ei) ∧ W.cell? ⟨b, 4, none⟩ = some (.string es) ∧ W.cell? ⟨b, 5, none⟩ = some (.bool fn) ∧ W.cell? ⟨b, 6, none⟩ = some (.int .i64 fi) ∧ W.cell? ⟨b, 7, none⟩ = some (.string fs)) := Lib.hid fun W g => by
       obtain ⟨d0, d1, d2, d3, d4, d5, d6, d7⟩ := HPN.out.kept g
       obtain ⟨e0, e1, e2, e3, e4, e5, e6, e7⟩ := HY.out.kept g
       simp only [Nat.zero_add] at d0 d1 d2 d3 d4 d5 d6 d7 e0 e1 e2 e3 e4 e5 e6 e7
       exact ⟨d0, d1, d2, d3, d4, d5, d6, d7, e0, e1, e2, e3, e4, e5, e6, e7⟩
      have H8 : Hid (Below w3.heap.size w3 w3.drew) := Lib.hid (Below.refl _ _).drew
      have eg : ∀ args w, (callFunc 68 args).run Try.prog w = .ok (.enter 68 args) w := enters_of Try.func68 (by kernel_rfl) rfl
      generalize hov : Lv.ov ⟨qi, ql, ⟨en, ei, es⟩, ⟨fn, fi, fs⟩⟩ ⟨i, l, ⟨an, ai, sa⟩, ⟨bn, bi, sb⟩⟩ = B at CV HCL
      clear hov
      go_region_held3 (fun W => W.cell? ⟨q, 0, none⟩ = some (.int .i64 i) ∧ W.cell? ⟨q, 1, none⟩ = some (.int .i64 l) ∧ W.cell? ⟨q, 2, none⟩ = some (.bool an) ∧ W.cell? ⟨q, 3, none⟩ = some (.int .i64 ai) ∧ W.cell? ⟨q, 4, none⟩ = some (.string sa) ∧ W.cell? ⟨q, 5, none⟩ = some (.bool bn) ∧ W.cell? ⟨q, 6, none⟩ = some (.int .i64 bi) ∧ W.cell? ⟨q, 7, none⟩ = some (.string sb) ∧ W.cell? ⟨b, 0, none⟩ = some (.int .i64 qi) ∧ W.cell? ⟨b, 1, none⟩ = some (.int .i64 ql) ∧ W.cell? ⟨b, 2, none⟩ = some (.bool en) ∧ W.cell? ⟨b, 3, none⟩ = some (.int .i64 ei) ∧ W.cell? ⟨b, 4, none⟩ = some (.string es) ∧ W.cell? ⟨b, 5, none⟩ = some (.bool fn) ∧ W.cell? ⟨b, 6, none⟩ = some (.int .i64 fi) ∧ W.cell? ⟨b, 7, none⟩ = some (.string fs))
       (first
        | with_reducible exact HS.out _ H8.out
        | exact HS.out _ (Below.refl _ _))
       (first
        | (go_at_call 40
           with_reducible refine (CO.out _).mono ?_
           rintro e w4 ⟨g, rfl, hpo, g4⟩
           have HPO := Lib.hid hpo
           have H8 := Lib.hid (H8.out.trans (g4.mono H8.out.size))
           clear hpo g4)
        | (go_at_call 68
           with_reducible refine (CV.out _ _ HPO.out).mono ?_
           rintro e w4 ⟨rfl, g4⟩
           have H8 := Lib.hid (H8.out.trans (g4.mono H8.out.size))))
      cases B
      ·have HH : Hid (Lv.hit (some ⟨qi, ql, ⟨en, ei, es⟩, ⟨fn, fi, fs⟩⟩) ⟨i, l, ⟨an, ai, sa⟩, ⟨bn, bi, sb⟩⟩ = false) := HCL
       have HB5 := Lib.hid (HB3.out.trans (H8.out.mono HB3.out.size))
       have HP5 := Lib.hid (HPN.out.kept H8.out)
       have HL5 : Hid (Lv.Lat w4 (.pointer (some ⟨b, 0, none⟩)) (some ⟨qi, ql, ⟨en, ei, es⟩, ⟨fn, fi, fs⟩⟩)) := Lib.hid ⟨b, rfl, HY.out.kept H8.out⟩
       clear d0 d1 d2 d3 d4 d5 d6 d7 e0 e1 e2 e3 e4 e5 e6 e7
       obtain ⟨w5, hw5⟩ : ∃ w5, w5 = w4 := ⟨_, rfl⟩
       subst hw5
       obtain ⟨d0, d1, d2, d3, d4, d5, d6, d7⟩ := HP5.out
       simp only [Nat.zero_add] at d0 d1 d2 d3 d4 d5 d6 d7
       have HNX := Lib.hid (HLP.out.trans (Lv.lp_next HX.out HH.out))
       by_cases hz : z ≤ 0
       ·have HE : Hid (Lv.nxt (some ⟨qi, ql, ⟨en, ei, es⟩, ⟨fn, fi, fs⟩⟩) ⟨i, l, ⟨an, ai, sa⟩, ⟨bn, bi, sb⟩⟩ = some ⟨i, l, ⟨an, ai, sa⟩, ⟨bn, bi, sb⟩⟩) := Lib.hid (by unfold Lv.nxt; rw [if_pos (by rw [HRT.out]; exact decide_eq_true hz)])
        have hzd : decide (z ≤ 0) = true := decide_eq_true hz
        rw [HE.out] at HNX
        go_wp2_with fail
        refine (HCC.out w5).mono ?_
        rintro e w6 ⟨rfl, g6⟩
        have HB6 := Lib.hid (HB5.out.trans (g6.mono HB5.out.size))
        have HP6 := Lib.hid (HP5.out.kept g6)
        clear d0 d1 d2 d3 d4 d5 d6 d7 g6
        go_wp2
        go_roundw
        case rel => exact ⟨k + 1, some ⟨i, l, ⟨an, ai, sa⟩, ⟨bn, bi, sb⟩⟩, HKL.out, by simp, HNX.out, HB6.out, q, rfl, HP6.out⟩
        case measure => (have := HKL.out; simp [intOf]; omega)
       ·have HE : Hid (Lv.nxt (some ⟨qi, ql, ⟨en, ei, es⟩, ⟨fn, fi, fs⟩⟩) ⟨i, l, ⟨an, ai, sa⟩, ⟨bn, bi, sb⟩⟩ = (some ⟨qi, ql, ⟨en, ei, es⟩, ⟨fn, fi, fs⟩⟩)) := Lib.hid (by unfold Lv.nxt; rw [if_neg (by rw [HRT.out, decide_eq_false hz]; decide)])
        have hzd : decide (z ≤ 0) = false := decide_eq_false hz
        rw [HE.out] at HNX
        go_wp2_with fail
        refine (HCC.out w5).mono ?_
        rintro e w6 ⟨rfl, g6⟩
        have HB6 := Lib.hid (HB5.out.trans (g6.mono HB5.out.size))
        have HL6 := Lib.hid (HL5.out.kept g6)
        clear d0 d1 d2 d3 d4 d5 d6 d7 g6
        go_wp2
        go_roundw
        case rel => exact ⟨k + 1, (some ⟨qi, ql, ⟨en, ei, es⟩, ⟨fn, fi, fs⟩⟩), HKL.out, by simp, HNX.out, HB6.out, HL6.out⟩
        case measure => (have := HKL.out; simp [intOf]; omega)
      ·have HH : Hid (Lv.hit (some ⟨qi, ql, ⟨en, ei, es⟩, ⟨fn, fi, fs⟩⟩) ⟨i, l, ⟨an, ai, sa⟩, ⟨bn, bi, sb⟩⟩ = true) := HCL
       have HB5 := Lib.hid (HB3.out.trans (H8.out.mono HB3.out.size))
       have HFIN := Lib.hid (HLP.out.trans (Lv.lp_hit HX.out HH.out))
       go_wp2
       go_ret
       exact ⟨false, rfl, ⟨fun h => (by cases h), fun h => (by rw [HDJ.out.2 h] at HFIN; exact absurd HFIN.out (by decide))⟩, HG2.out.trans (HB5.out.mono HG2.out.size)⟩
     ·have HH : Hid (Lv.hit (some ⟨qi, ql, ⟨en, ei, es⟩, ⟨fn, fi, fs⟩⟩) ⟨i, l, ⟨an, ai, sa⟩, ⟨bn, bi, sb⟩⟩ = false) := Lib.hid (Lv.cl_ne hlv)
      have hlb : (ql == l) = false := beq_eq_false_iff_ne.2 hlv
      clear hlv
      go_quiet (fail)
      have HB5 := Lib.hid (Kn.below_drewN HB3.out nq)
      have HP5 := Lib.hid (HPN.out.kept (Kn.below_drewN (Below.refl _ w3) nq))
      have HL5 : Hid (Lv.Lat (w3.drewN nq) (.pointer (some ⟨b, 0, none⟩)) (some ⟨qi, ql, ⟨en, ei, es⟩, ⟨fn, fi, fs⟩⟩)) := Lib.hid ⟨b, rfl, HY.out.kept (Kn.below_drewN (Below.refl _ w3) nq)⟩
      generalize w3.drewN nq = w5 at HB5 HP5 HL5 ⊢
      clear d0 d1 d2 d3 d4 d5 d6 d7 e0 e1 e2 e3 e4 e5 e6 e7
      obtain ⟨d0, d1, d2, d3, d4, d5, d6, d7⟩ := HP5.out
      simp only [Nat.zero_add] at d0 d1 d2 d3 d4 d5 d6 d7
      have HNX := Lib.hid (HLP.out.trans (Lv.lp_next HX.out HH.out))
      by_cases hz : z ≤ 0
      ·have HE : Hid (Lv.nxt (some ⟨qi, ql, ⟨en, ei, es⟩, ⟨fn, fi, fs⟩⟩) ⟨i, l, ⟨an, ai, sa⟩, ⟨bn, bi, sb⟩⟩ = some ⟨i, l, ⟨an, ai, sa⟩, ⟨bn, bi, sb⟩⟩) := Lib.hid (by unfold Lv.nxt; rw [if_pos (by rw [HRT.out]; exact decide_eq_true hz)])
       have hzd : decide (z ≤ 0) = true := decide_eq_true hz
       rw [HE.out] at HNX
       go_wp2_with fail
       refine (HCC.out w5).mono ?_
       rintro e w6 ⟨rfl, g6⟩
       have HB6 := Lib.hid (HB5.out.trans (g6.mono HB5.out.size))
       have HP6 := Lib.hid (HP5.out.kept g6)
       clear d0 d1 d2 d3 d4 d5 d6 d7 g6
       go_wp2
       go_roundw
       case rel => exact ⟨k + 1, some ⟨i, l, ⟨an, ai, sa⟩, ⟨bn, bi, sb⟩⟩, HKL.out, by simp, HNX.out, HB6.out, q, rfl, HP6.out⟩
       case measure => (have := HKL.out; simp [intOf]; omega)
      ·have HE : Hid (Lv.nxt (some ⟨qi, ql, ⟨en, ei, es⟩, ⟨fn, fi, fs⟩⟩) ⟨i, l, ⟨an, ai, sa⟩, ⟨bn, bi, sb⟩⟩ = (some ⟨qi, ql, ⟨en, ei, es⟩, ⟨fn, fi, fs⟩⟩)) := Lib.hid (by unfold Lv.nxt; rw [if_neg (by rw [HRT.out, decide_eq_false hz]; decide)])
       have hzd : decide (z ≤ 0) = false := decide_eq_false hz
       rw [HE.out] at HNX
       go_wp2_with fail
       refine (HCC.out w5).mono ?_
       rintro e w6 ⟨rfl, g6⟩
       have HB6 := Lib.hid (HB5.out.trans (g6.mono HB5.out.size))
       have HL6 := Lib.hid (HL5.out.kept g6)
       clear d0 d1 d2 d3 d4 d5 d6 d7 g6
       go_wp2
       go_roundw
       case rel => exact ⟨k + 1, (some ⟨qi, ql, ⟨en, ei, es⟩, ⟨fn, fi, fs⟩⟩), HKL.out, by simp, HNX.out, HB6.out, HL6.out⟩
       case measure => (have := HKL.out; simp [intOf]; omega)
  ·have hki : ¬ (k : Int) < (K.length : Int) := by omega
   obtain rfl : k = K.length := by omega
   have hlp := HLP.out
   rw [List.drop_length] at hlp
   have HFIN := Lib.hid hlp
   clear hk hkl hB hlat hlp
   go_wp2
   go_ret
   first
    | exact ⟨true, rfl, ⟨fun _ => HDJ.out.1 HFIN.out, fun _ => rfl⟩, HG2.out.trans (HB.out.mono HG2.out.size)⟩
    | exact .inr ⟨rfl, ⟨fun _ => HDJ.out.1 HFIN.out, fun _ => rfl⟩, HG2.out.trans (HB.out.mono HG2.out.size)⟩
    | exact .inr ⟨rfl, HDJ.out.1 HFIN.out, HG2.out.trans (HB.out.mono HG2.out.size)⟩
end
section
open Go Go.RowKit Go.Lib Go.Sort
theorem Lv.ps_take {w : World} {a : Option Addr} {c : Nat} {L : List Mf.P} (h : Mf.Ps w (.slice a L.length c) L) (n : Nat) : Mf.Ps w (.slice a (L.take n).length c) (L.take n) := by
 obtain ⟨a1, c1, e, hc, h⟩ := h
 simp only [Value.slice.injEq] at e
 obtain ⟨rfl, -, rfl⟩ := e
 refine ⟨a, c, rfl, by rw [List.length_take]; omega, ?_⟩
 rcases h with ⟨rfl, h⟩ | ⟨b, o, cs, fr, rfl, ht, hb, h⟩
 ·exact .inl ⟨List.take_nil, h⟩
 ·refine .inr ⟨b, o, cs, fr, rfl, ht, hb, fun i j x hi hj => h i j x ?_ hj⟩
  rw [List.getElem?_take] at hi
  split at hi
  ·exact hi
  ·cases hi
set_option maxRecDepth 100000 in
theorem Lv.early_c (v : Value) (L : List Mf.P) (w : World) (hL : Mf.Ps w v L) (hl : L.length ≤ 9223372036854775807) :
 Calls Try.prog 14 #[v] w fun e w' => ∃ u, e = .returned u ∧ Mf.Ps w u (L.take 80) ∧ w' = w := by
 obtain ⟨a, c, rfl, hc, -⟩ := id hL
 have HT := Lib.hid (Lv.ps_take hL 80)
 have hn : (L.length : Int) ≤ 9223372036854775807 := by omega
 by_cases h : L.length ≤ 80
 ·have e : (L.take 80).length = L.length := by rw [List.length_take]; omega
  rw [e] at HT
  have h80 : (L.length : Int) ≤ 80 := by omega
  have hm : min (L.length : Int) 80 = (L.length : Int) := by omega
  have hc2 : (L.length : Int) ≤ (c : Int) := by omega
  have h0 : (0 : Int) ≤ (L.length : Int) := by omega
  go_enter Try.func14, Try.ntmps14
  go_wp2
  go_ret
  exact ⟨_, rfl, HT.out, rfl⟩
 ·have e : (L.take 80).length = 80 := by rw [List.length_take]; omega
  rw [e] at HT
  have h80 : (80 : Int) ≤ (L.length : Int) := by omega
  have hm : min (L.length : Int) 80 = 80 := by omega
  have hc2 : (80 : Int) ≤ (c : Int) := by omega
  have hc3 : 80 ≤ c := by omega
  go_enter Try.func14, Try.ntmps14
  go_wp2
  go_ret
  exact ⟨_, rfl, HT.out, rfl⟩
def Lv.p0 (i l n : Int) : Mf.P := ⟨i, l, ⟨false, n, ⟨#[]⟩⟩, ⟨false, n, ⟨#[]⟩⟩⟩
def Lv.ex : List Mf.P := [Lv.p0 1 0 0, Lv.p0 4 0 0, Lv.p0 2 0 0, Lv.p0 3 0 0, Lv.p0 9 1 1]
theorem Lv.ex_cw : Lv.cw Lv.ex = some 0 := by kernel_rfl
theorem Lv.ex_bt : Lv.bt Lv.ex 0 = true := by kernel_rfl
theorem Lv.ex_dj : Lv.DJ Lv.ex := by unfold Lv.DJ; decide +kernel
end
section
open Go Go.RowKit Go.Lib Go.Sort
def Lv.exC : Array Value := #[.int .i64 1, .int .i64 0, .bool false, .int .i64 0, .string ⟨#[]⟩, .bool false, .int .i64 0, .string ⟨#[]⟩, .int .i64 4, .int .i64 0, .bool false, .int .i64 0, .string ⟨#[]⟩, .bool false, .int .i64 0, .string ⟨#[]⟩, .int .i64 2, .int .i64 0, .bool false, .int .i64 0, .string ⟨#[]⟩, .bool false, .int .i64 0, .string ⟨#[]⟩, .int .i64 3, .int .i64 0, .bool false, .int .i64 0, .string ⟨#[]⟩, .bool false, .int .i64 0, .string ⟨#[]⟩, .int .i64 9, .int .i64 1, .bool false, .int .i64 1, .string ⟨#[]⟩, .bool false, .int .i64 1, .string ⟨#[]⟩]
theorem Lv.ex_lit (w : World) : Mf.Ow w.heap.size (w.alloc (.cells Lv.exC 38)) (.slice (some ⟨w.heap.size, 0, none⟩) 5 5) Lv.ex := by
 have h := World.ownsRow_lit (base := w.heap.size) (size := 8) (e := 38) w Lv.exC 5 (Nat.le_refl _) (by decide) (by kernel_rfl)
 have e : Lv.exC.toList = Lv.ex.flatMap Mf.pc := by kernel_rfl
 rw [e] at h
 exact h
theorem Lv.Oi.at_ {base : Nat} {w : World} {a : Option Addr} {n c : Nat} {L : List Int} (h : Lv.Oi base w (.slice a n c) L) (hL : L ≠ []) : ∃ g, a = some ⟨g, 0, none⟩ ∧ n = L.length ∧ g < w.heap.size ∧ ∀ (i : Nat) (x : Int), L[i]? = some x → w.cell? ⟨g, i, none⟩ = some (.int .i64 x) := by
 rcases Dk.Own.form h with ⟨_, e⟩ | ⟨g, c', e, _, _, _, hg⟩
 ·exact absurd e hL
 ·simp only [Value.slice.injEq] at e
  obtain ⟨rfl, rfl, rfl⟩ := e
  refine ⟨g, rfl, rfl, hg, fun i x hx => ?_⟩
  have := Dk.Own.cell Mf.ic_len h (g := g) rfl hx (j := 0) (by decide)
  rw [Nat.mul_one, Nat.add_zero] at this
  exact this
theorem Lv.box4 (w : World) (x y z t : Value) (T : TypeId) : (w.alloc (.cells #[x, y, z, t] T)).heap[w.heap.size]? = some (.cells #[x, y, z, t] T (0, 0)) := heap_alloc_new w _
set_option maxHeartbeats 2000000 in
set_option maxRecDepth 100000 in
theorem Lv.lives_c (w : World) : Calls Try.prog 13 #[] w fun e w' => e = .returned (.bool true) ∧ Below w.heap.size w w' := by
 have HX := Lib.hid (Mf.Ow.ps (Lv.ex_lit w))
 have HG : Hid (Below w.heap.size w _) := Lib.hid ((Below.refl _ w).alloc (Nat.le_refl _) (.cells Lv.exC 38))
 have CP := Lib.hid fun (v : Value) (w : World) (h : Mf.Ps w v Lv.ex) => Lv.pick_some v Lv.ex 0 w h (by decide) Lv.ex_cw
 have CD := Lib.hid fun (v : Value) (w : World) (h : Mf.Ps w v Lv.ex) => Lv.disjoint_c v Lv.ex w h (by decide)
 have CC := Lib.hid fun (v : Value) (w : World) (h : Mf.Ps w v Lv.ex) => Lv.calm_c v Lv.ex w h (by decide)
 rw [Lv.ex_cw] at CC
 simp only [Option.isNone_some] at CC
 unfold Lv.exC at HX HG
 go_enter Try.func13, Try.ntmps13
 go_upto_region 2 with (fail)
 obtain ⟨q, hq⟩ : ∃ q, q = w.heap.size := ⟨_, rfl⟩
 rw [← hq] at HX ⊢
 generalize World.alloc _ _ = w1 at HX HG ⊢
 clear hq
 go_wp2_with fail
 refine (CP.out _ _ HX.out).mono ?_
 rintro e w2 ⟨a, n, c, rfl, hid, g2⟩
 rw [Lv.ex_bt]
 have hne : Lv.pi Lv.ex 0 = [4, 3, 2, 1] := by kernel_rfl
 rw [hne] at hid
 obtain ⟨g, rfl, rfl, hg, hc⟩ := hid.at_ (by decide)
 have i0 := hc 0 4 rfl
 have i3 := hc 3 1 rfl
 have HX2 := Lib.hid (HX.out.kept g2)
 have HG2 := Lib.hid (HG.out.trans (g2.mono HG.out.size))
 clear hid hc g2 HX HG CP
 have gb : Below w2.heap.size w2 (w2.alloc (.cells #[.int .i64 0, .int .i64 1, .slice (some ⟨g, 0, none⟩) 4 c, .bool true] 27)) := (Below.refl _ _).alloc (Nat.le_refl _) _
 have HI := Lib.hid (And.intro ((gb.cell (p := ⟨g, 0, none⟩) hg).trans i0) ((gb.cell (p := ⟨g, 3, none⟩) hg).trans i3))
 have HQ := Lib.hid (Lv.box4 w2 (.int .i64 0) (.int .i64 1) (.slice (some ⟨g, 0, none⟩) 4 c) (.bool true) 27)
 have HX3 := Lib.hid (HX2.out.kept gb)
 have HG3 := Lib.hid (HG2.out.trans (gb.mono HG2.out.size))
 clear gb HX2 HG2 i0 i3
 simp only [List.length_cons, List.length_nil, Nat.zero_add, Nat.reduceAdd]
 go_upto_region 3 with (fail)
 obtain ⟨b, hb⟩ : ∃ b, b = w2.heap.size := ⟨_, rfl⟩
 rw [← hb] at HQ ⊢
 generalize World.alloc _ _ = w3 at HX3 HG3 HI HQ ⊢
 clear hb hg
 obtain ⟨⟨y0, y1, y2, y3⟩, z0, z1, z2, z3⟩ := Lv.quad HQ.out
 obtain ⟨i0, i3⟩ := HI.out
 go_wp2_with fail
 refine (CD.out _ _ HX3.out).mono ?_
 rintro e w4 ⟨B, rfl, hB, g4⟩
 have hBt := hB.2 Lv.ex_dj
 subst hBt
 have HX4 := Lib.hid (HX3.out.kept g4)
 have HG4 := Lib.hid (HG3.out.trans (g4.mono HG3.out.size))
 clear hB g4 y0 y1 y2 y3 z0 z1 z2 z3 i0 i3
 go_wp2_with fail
 refine (CC.out _ _ HX4.out).mono ?_
 rintro e w5 ⟨rfl, g5⟩
 have HG5 := Lib.hid (HG4.out.trans (g5.mono HG4.out.size))
 clear g5
 go_wp2
 go_ret
 exact ⟨rfl, HG5.out⟩
end
section
open Go.RowKit
structure Kn.C where
 k : Int
 null : Bool
abbrev Kn.C.val (c : Kn.C) : Value := .agg #[.int .i64 c.k, .bool c.null]
structure Kn.Cols (w : World) (v : Value) (l : List Kn.C) : Prop where
 is : ∃ a c, v = .slice a l.length c ∧ (l = [] ∨ ∃ b o, a = some ⟨b, o, none⟩ ∧ b < w.heap.size ∧ l.length ≤ 9223372036854775807 ∧
  ∀ i x, l[i]? = some x → w.cell? ⟨b, o + i * 2, none⟩ = some (.int .i64 x.k) ∧ w.cell? ⟨b, o + i * 2 + 1, none⟩ = some (.bool x.null))
structure Kn.Vals (w : World) (v : Value) (l : List Kn.V) : Prop where
 is : ∃ a c, v = .slice a l.length c ∧ (l = [] ∨ ∃ b o, a = some ⟨b, o, none⟩ ∧ b < w.heap.size ∧ l.length ≤ 9223372036854775807 ∧ ∀ i x, l[i]? = some x → Kn.At w b (o + i * 3) x)
theorem Kn.Cols.later {w w' : World} {v : Value} {l : List Kn.C} (h : Kn.Cols w v l) (g : Below w.heap.size w w') : Kn.Cols w' v l := by
 obtain ⟨a, c, rfl, h⟩ := h
 refine ⟨a, c, rfl, ?_⟩
 rcases h with h | ⟨b, o, rfl, hlt, hm, h⟩
 ·exact .inl h
 ·refine .inr ⟨b, o, rfl, Nat.lt_of_lt_of_le hlt g.size, hm, fun i x hx => ?_⟩
  exact ⟨(g.cell (p := ⟨b, o + i * 2, none⟩) hlt).trans (h i x hx).1, (g.cell (p := ⟨b, o + i * 2 + 1, none⟩) hlt).trans (h i x hx).2⟩
theorem Kn.Vals.later {w w' : World} {v : Value} {l : List Kn.V} (h : Kn.Vals w v l) (g : Below w.heap.size w w') : Kn.Vals w' v l := by
 obtain ⟨a, c, rfl, h⟩ := h
 refine ⟨a, c, rfl, ?_⟩
 rcases h with h | ⟨b, o, rfl, hlt, hm, h⟩
 ·exact .inl h
 ·exact .inr ⟨b, o, rfl, Nat.lt_of_lt_of_le hlt g.size, hm, fun i x hx => (h i x hx).later g⟩
def Kn.C.good (c : Kn.C) : Bool := !((c.k != 1) && (c.k != 2))
def Kn.headOk : List Kn.C → Bool
 | [] => true
 | c :: _ => !c.null
def Kn.right (l : List Kn.C) : Bool := decide (1 ≤ l.length) && decide (l.length ≤ 6) && Kn.headOk l && l.all Kn.C.good
def Kn.fits (c : Kn.C) (v : Kn.V) : Bool :=
 if v.null = true then c.null && (v.n == 0) && (v.s.toList == (⟨#[]⟩ : ByteArray).toList)
 else if c.k = 1 then v.s.toList == (⟨#[]⟩ : ByteArray).toList
 else (v.n == 0) && decide (v.s.size ≤ 64)
end
section
open Go.RowKit
def Kn.fitsAll : List Kn.C → List Kn.V → Bool
 | c :: cs, v :: vs => Kn.fits c v && Kn.fitsAll cs vs
 | _, _ => true
def Kn.fitsE (s : List Kn.C) (r : List Kn.V) : Int := if Kn.right s = true then (if r.length = s.length then (if Kn.fitsAll s r = true then 0 else 6) else 7) else 4
def Kn.keyE (s : List Kn.C) (k : Kn.V) : Int := if Kn.right s = true then (match s with | [] => 4 | c :: _ => if Kn.fits c k = true then 0 else 6) else 4
theorem Kn.right_len {s : List Kn.C} (h : Kn.right s = true) : 1 ≤ s.length ∧ s.length ≤ 6 := by
 unfold Kn.right at h
 simp only [Bool.and_eq_true, decide_eq_true_iff] at h
 omega
theorem Kn.right_head {s : List Kn.C} (h : Kn.right s = true) : ∃ x t, s = x :: t ∧ x.null = false ∧ x.good = true := by
 cases s with
 | nil => cases h
 | cons x t =>
   unfold Kn.right at h
   simp only [Bool.and_eq_true, Kn.headOk, List.all_cons, Bool.not_eq_true'] at h
   exact ⟨x, t, rfl, h.1.2, h.2.1⟩
end
section
open Go.RowKit
def Kn.isK (k : Int) (v : Kn.V) : Bool :=
 if v.null = true then (v.n == 0) && (v.s.toList == (⟨#[]⟩ : ByteArray).toList)
 else if k = 1 then v.s.toList == (⟨#[]⟩ : ByteArray).toList
 else (k == 2) && ((v.n == 0) && decide (v.s.size ≤ 64))
theorem Kn.isK_fits (c : Kn.C) (v : Kn.V) (h : c.good = true) : Kn.fits c v = (Kn.isK c.k v && !(v.null && !c.null)) := by
 obtain ⟨ck, cn⟩ := c
 obtain ⟨vn, vi, vs⟩ := v
 have hk : ck = 1 ∨ ck = 2 := by
  unfold Kn.C.good at h
  by_cases h1 : ck = 1
  ·exact .inl h1
  ·by_cases h2 : ck = 2
   ·exact .inr h2
   ·have e1 : (ck != 1) = true := by rw [bne_iff_ne]; exact h1
    have e2 : (ck != 2) = true := by rw [bne_iff_ne]; exact h2
    simp only [e1, e2] at h
    cases h
 unfold Kn.fits Kn.isK
 rcases hk with rfl | rfl <;> cases vn <;> cases cn <;> simp
end
section
open Go.RowKit
end
section
open Go.RowKit
def Kn.sameV (a b : Kn.V) : Bool := (a.null == b.null) && ((a.n == b.n) && (a.s.toList == b.s.toList))
def Kn.sameR : List Kn.V → List Kn.V → Bool
 | a :: l, b :: m => Kn.sameV a b && Kn.sameR l m
 | [], [] => true
 | _, _ => false
end
section
open Go.RowKit
structure Kn.R where
 from_ : Bool
 til : Bool
 lo : Kn.V
 hi : Kn.V
abbrev Kn.R.val (r : Kn.R) : Value := .agg #[.bool r.from_, .bool r.til, .bool r.lo.null, .int .i64 r.lo.n, .string r.lo.s, .bool r.hi.null, .int .i64 r.hi.n, .string r.hi.s]
structure Kn.RAt (w : World) (b : Nat) (r : Kn.R) : Prop where
 c0 : w.cell? ⟨b, 0, none⟩ = some (.bool r.from_)
 c1 : w.cell? ⟨b, 1, none⟩ = some (.bool r.til)
 lo : Kn.At w b 2 r.lo
 hi : Kn.At w b 5 r.hi
theorem Kn.RAt.later {w w' : World} {b : Nat} {r : Kn.R} (h : Kn.RAt w b r) (g : Below w.heap.size w w') : Kn.RAt w' b r :=
 ⟨(g.cell (p := ⟨b, 0, none⟩) h.lo.lt).trans h.c0, (g.cell (p := ⟨b, 1, none⟩) h.lo.lt).trans h.c1, h.lo.later g, h.hi.later g⟩
theorem Kn.RAt.new (w : World) (r : Kn.R) (t : TypeId) : Kn.RAt (w.alloc (.cells #[.bool r.from_, .bool r.til, .bool r.lo.null, .int .i64 r.lo.n, .string r.lo.s, .bool r.hi.null, .int .i64 r.hi.n, .string r.hi.s] t)) w.heap.size r :=
 ⟨Kn.cell_new w _ t 0 _ rfl, Kn.cell_new w _ t 1 _ rfl, ⟨Kn.cell_new w _ t 2 _ rfl, Kn.cell_new w _ t 3 _ rfl, Kn.cell_new w _ t 4 _ rfl⟩, ⟨Kn.cell_new w _ t 5 _ rfl, Kn.cell_new w _ t 6 _ rfl, Kn.cell_new w _ t 7 _ rfl⟩⟩
theorem Kn.RAt.alloc {w : World} {b : Nat} {r : Kn.R} (h : Kn.RAt w b r) (x : Obj) : Kn.RAt (w.alloc x) b r := h.later ((Below.refl _ w).alloc (Nat.le_refl _) x)
def Kn.inR (r : Kn.R) (k : Kn.V) : Bool := (!r.from_ || !decide (Kn.cmp k r.lo < 0)) && (!r.til || decide (Kn.cmp k r.hi < 0))
end
section
open Go.RowKit Go.ChangeShapes Go.WideShapes Go.ChangeAt Go.Deep
section
variable {H : Type} {enc : TypeId × Value → H} {W : World}
def Kn.rd (x : Kn.V) : DataW H := .agg [.lit (.bool x.null), .lit (.int .i64 x.n), .lit (.string x.s.data.toList)]
set_option maxRecDepth 100000 in
theorem Kn.open_cells {fuel : Nat} {cs : List Value} {z : DataW H × List MemPlace} (h : DataW.trod enc Try.prog W 0 (fun _ => true) true fuel 36 cs = some z) :
 ∃ x : Kn.V, cs = [.bool x.null, .int .i64 x.n, .string x.s] ∧ z.1 = Kn.rd x := by
 obtain ⟨xs, f', _, hx, hcl, hxl, hg⟩ := DataW.trod_struct Try.underlying36 h
 have hC : Try.prog.cellsOf 36 = 3 := by kernel_rfl
 have i3 : Try.prog.cellsOf 4 = 1 := by kernel_rfl
 have i2 : Try.prog.cellsOf 2 = 1 := by kernel_rfl
 have i9 : Try.prog.cellsOf 9 = 1 := by kernel_rfl
 rw [hC] at hcl
 match cs, hcl, xs, hxl with
 | [c0, c1, c2], _, [y0, y1, y2], _ =>
   have g0 : DataW.trod enc Try.prog W 0 (fun _ => true) true f' 4 ((List.drop 0 [c0, c1, c2]).take (Try.prog.cellsOf 4)) = some y0 := hg 0 _ rfl
   have g1 : DataW.trod enc Try.prog W 0 (fun _ => true) true f' 2 ((List.drop 1 [c0, c1, c2]).take (Try.prog.cellsOf 2)) = some y1 := hg 1 _ rfl
   have g2 : DataW.trod enc Try.prog W 0 (fun _ => true) true f' 9 ((List.drop 2 [c0, c1, c2]).take (Try.prog.cellsOf 9)) = some y2 := hg 2 _ rfl
   rw [i3] at g0
   rw [i2] at g1
   rw [i9] at g2
   obtain ⟨k, e0, r0⟩ := DataW.trod_bool Try.underlying4 (show DataW.trod enc Try.prog W 0 (fun _ => true) true f' 4 [c0] = some y0 from g0)
   obtain ⟨n, e1, r1, w1⟩ := DataW.trod_int Try.underlying2 (show DataW.trod enc Try.prog W 0 (fun _ => true) true f' 2 [c1] = some y1 from g1)
   obtain ⟨s, e2, r2, _⟩ := DataW.trod_string Try.underlying9 (show DataW.trod enc Try.prog W 0 (fun _ => true) true f' 9 [c2] = some y2 from g2)
   simp only [List.cons.injEq, and_true] at e0 e1 e2
   subst e0 e1 e2 r0 r1 r2
   exact ⟨⟨k, n, s⟩, rfl, by rw [hx]; rfl⟩
end
end
section
open Go.RowKit Go.ChangeShapes Go.WideShapes Go.ChangeAt Go.Deep
def Lv.Zp (p : Mf.P) : Prop := Kn.Z p.lo ∧ Kn.Z p.hi
section
variable {H : Type} {enc : TypeId × Value → H} {W : World}
theorem Lv.wa {P : Program} {e : TypeId} {d : DataW H} {n : Nat} : ∀ {l : List (DataW H)}, d ∈ l → n ∈ d.weights P e → n ∈ DataW.weightsAll P e l
 | x :: l, hd, hn => by
   rw [DataW.weightsAll, List.mem_append]
   rcases List.mem_cons.1 hd with rfl | hd
   ·exact .inl hn
   ·exact .inr (Lv.wa hd hn)
theorem Lv.fits {ts : List TypeId} {ds : List (DataW H)} (h : (DataW.weightsEach Try.prog ts ds).all (· ≤ reachBytes) = true) {j : Nat} {t : TypeId} {d : DataW H} (ht : ts[j]? = some t) (hd : ds[j]? = some d) : ∀ n ∈ d.weights Try.prog t, n ≤ reachBytes :=
 fun n hn => of_decide_eq_true (List.all_eq_true.1 h n (DataW.weights_mem_each ht hd _ hn))
set_option maxRecDepth 100000 in
theorem Lv.open_slw {α : Type} {T e : TypeId} {k : Nat} {en : α → List Value} {Q : α → Prop} (hT : Try.prog.underlying T = some (.slice e)) (hC : Try.prog.cellsOf e = k) (hk : 0 < k) (hlen : ∀ x, (en x).length = k) (d0 : α)
 (hop : ∀ {fuel : Nat} {cs : List Value} {z : DataW H × List MemPlace}, DataW.trod enc Try.prog W 0 (fun _ => true) true fuel e cs = some z → (∀ n ∈ z.1.weights Try.prog e, n ≤ reachBytes) → ∃ x, cs = en x ∧ Q x)
 {fuel : Nat} {c1 : Value} {z : DataW H × List MemPlace} (h : DataW.trod enc Try.prog W 0 (fun _ => true) true fuel T [c1] = some z) (hs : ∀ n ∈ z.1.weights Try.prog T, n ≤ reachBytes) :
 ∃ L : List α, Mf.At k en W c1 L ∧ (∀ x ∈ L, Q x) ∧ L.length + 1 ≤ Rows.uptoBulk z.1 ∧ L.length ≤ 9223372036854775807 := by
 rcases open_slice hT h with ⟨hcs, hx⟩ | ⟨a, len, cap, m, n, D, Pl, hcs, _, hl, hm, hmm, hx, hi⟩
 ·obtain rfl : c1 = .slice none 0 0 := by simpa using hcs
  exact ⟨[], Mf.At.nil _, (fun x hx => nomatch hx), Mf.bulk_pos _, Nat.zero_le _⟩
 ·obtain rfl : c1 = .slice (some a) len cap := by simpa using hcs
  simp only [if_true] at hmm
  have hz1 : z.1 = .slice ((List.range len).map D) ((List.range (m - len)).map fun j => D (len + j)) := by rw [hx]
  have hbk : len + 1 ≤ Rows.uptoBulk z.1 := by
   rw [hz1]
   have := Mf.bulk_all ((List.range len).map D)
   simp only [List.length_map, List.length_range] at this
   simp only [Rows.uptoBulk]
   omega
  have hlm : len ≤ 9223372036854775807 := by unfold maxLen at hm; omega
  rw [hz1] at hs
  simp only [DataW.weights, hT, List.mem_cons, List.mem_append] at hs
  have hstr : ∀ i, i < len → ∀ q, q ∈ (D i).weights Try.prog e → q ≤ reachBytes := fun i hil q hq =>
   hs q (.inr (.inl (Lv.wa (List.mem_map.2 ⟨i, List.mem_range.2 hil, rfl⟩) hq)))
  by_cases hz : len = 0
  ·subst hz
   exact ⟨[], ⟨some a, cap, rfl, Nat.zero_le _, .inl ⟨rfl, fun e => nomatch e⟩⟩, (fun x hx => nomatch hx), hbk, Nat.zero_le _⟩
  ·rw [hC] at hi
   have hone : ∀ i, i < len → ∃ x, (∀ j, j < k → W.cell? (a.add (i * k + j)) = (en x)[j]?) ∧ Q x := fun i hil => by
    obtain ⟨cs', hc, ht⟩ := hi i (by omega)
    obtain ⟨x, rfl, hq⟩ := hop ht (hstr i hil)
    obtain ⟨hcl, _, hat⟩ := World.cells?_some hc
    refine ⟨x, fun j hj => ?_, hq⟩
    have aj := hat j hj
    rw [add_add] at aj
    exact aj
   have hsome : ∃ v, W.cell? (a.add 0) = some v := by
    obtain ⟨x, h0, _⟩ := hone 0 (by omega)
    have := h0 0 hk
    rw [List.getElem?_eq_getElem (by rw [hlen]; exact hk)] at this
    rw [Nat.zero_mul, Nat.zero_add] at this
    exact ⟨_, this⟩
   obtain ⟨v0, hv0⟩ := hsome
   obtain ⟨b, off, spot⟩ := a
   have hspot : spot = none := by simpa [Addr.add] using World.cell?_spot hv0
   subst hspot
   rw [add_plain] at hv0
   obtain ⟨hcs0, hfr, hheap⟩ := Mf.heap_of_cell hv0
   have hch : ∃ f : Nat → α, ∀ i, i < len → (∀ j, j < k → W.cell? ⟨b, off + i * k + j, none⟩ = (en (f i))[j]?) ∧ Q (f i) := by
    have hone' : ∀ i, i < len → ∃ x, (∀ j, j < k → W.cell? ⟨b, off + i * k + j, none⟩ = (en x)[j]?) ∧ Q x := fun i hil => by
     obtain ⟨x, h1, h2⟩ := hone i hil
     refine ⟨x, fun j hj => ?_, h2⟩
     have := h1 j hj
     rw [add_plain, ← Nat.add_assoc] at this
     exact this
    refine ⟨fun i => if hil : i < len then (hone' i hil).choose else d0, fun i hil => ?_⟩
    have hs := (hone' i hil).choose_spec
    simp only [dif_pos hil]
    exact hs
   obtain ⟨f, hf'⟩ := hch
   have hlen2 : ((List.range len).map f).length = len := by simp
   refine ⟨(List.range len).map f, ⟨some ⟨b, off, none⟩, cap, by rw [hlen2], by rw [hlen2]; exact hl, .inr ⟨b, off, hcs0, hfr, rfl, trivial, hheap, fun i j x hix hj => ?_⟩⟩, fun x hx => ?_, by rw [hlen2]; exact hbk, by rw [hlen2]; exact hlm⟩
   ·rw [List.getElem?_map, Option.map_eq_some_iff] at hix
    obtain ⟨i', hi', rfl⟩ := hix
    obtain ⟨hil, rfl⟩ := List.getElem?_eq_some_iff.1 hi'
    rw [List.getElem_range]
    rw [List.length_range] at hil
    exact (hf' i hil).1 j hj
   ·obtain ⟨i, hi, rfl⟩ := List.mem_map.1 hx
    exact (hf' i (List.mem_range.1 hi)).2
theorem Lv.open_value {fuel : Nat} {cs : List Value} {z : DataW H × List MemPlace} (ht : DataW.trod enc Try.prog W 0 (fun _ => true) true fuel 36 cs = some z) (hs : ∀ n ∈ z.1.weights Try.prog 36, n ≤ reachBytes) :
 ∃ x : Kn.V, cs = [.bool x.null, .int .i64 x.n, .string x.s] ∧ Kn.Z x := by
 obtain ⟨x, rfl, hd⟩ := Kn.open_cells ht
 refine ⟨x, rfl, ?_⟩
 have h1 := hs x.s.size (by
  rw [show z.1 = Kn.rd x from hd]
  unfold Kn.rd
  simp only [DataW.weights, Try.underlying36]
  show x.s.size ∈ DataW.weightsEach Try.prog [4, 2, 9] [.lit (.bool x.null), .lit (.int .i64 x.n), .lit (.string x.s.data.toList)]
  simp [DataW.weightsEach, DataW.weights])
 unfold reachBytes at h1
 unfold Kn.Z
 omega
set_option maxRecDepth 100000 in
theorem Lv.open_part {fuel : Nat} {cs : List Value} {z : DataW H × List MemPlace} (h : DataW.trod enc Try.prog W 0 (fun _ => true) true fuel 38 cs = some z) (hs : ∀ n ∈ z.1.weights Try.prog 38, n ≤ reachBytes) :
 ∃ p : Mf.P, cs = Mf.pc p ∧ Lv.Zp p := by
 obtain ⟨xs, f', _, hx, hcl, hxl, hg⟩ := DataW.trod_struct Try.underlying38 h
 have hC : Try.prog.cellsOf 38 = 8 := by kernel_rfl
 have i2 : Try.prog.cellsOf 3 = 1 := by kernel_rfl
 have i9 : Try.prog.cellsOf 36 = 3 := by kernel_rfl
 rw [hC] at hcl
 match cs, hcl, xs, hxl with
 | [c0, c1, c2, c3, c4, c5, c6, c7], _, [y0, y1, y2, y3], _ =>
   have g0 : DataW.trod enc Try.prog W 0 (fun _ => true) true f' 3 ((List.drop 0 [c0, c1, c2, c3, c4, c5, c6, c7]).take (Try.prog.cellsOf 3)) = some y0 := hg 0 _ rfl
   have g1 : DataW.trod enc Try.prog W 0 (fun _ => true) true f' 3 ((List.drop 1 [c0, c1, c2, c3, c4, c5, c6, c7]).take (Try.prog.cellsOf 3)) = some y1 := hg 1 _ rfl
   have g2 : DataW.trod enc Try.prog W 0 (fun _ => true) true f' 36 ((List.drop 2 [c0, c1, c2, c3, c4, c5, c6, c7]).take (Try.prog.cellsOf 36)) = some y2 := hg 2 _ rfl
   have g3 : DataW.trod enc Try.prog W 0 (fun _ => true) true f' 36 ((List.drop 5 [c0, c1, c2, c3, c4, c5, c6, c7]).take (Try.prog.cellsOf 36)) = some y3 := hg 3 _ rfl
   rw [i2] at g0 g1
   rw [i9] at g2 g3
   have hz : z.1 = .agg [y0.1, y1.1, y2.1, y3.1] := by rw [hx]; rfl
   rw [hz] at hs
   simp only [DataW.weights, Try.underlying38] at hs
   have hs : ∀ n ∈ DataW.weightsEach Try.prog [3, 3, 36, 36] [y0.1, y1.1, y2.1, y3.1], n ≤ reachBytes := hs
   simp only [DataW.weightsEach, List.mem_append] at hs
   obtain ⟨x0, e0, w0⟩ := Mf.open_int (show DataW.trod enc Try.prog W 0 (fun _ => true) true f' 3 [c0] = some y0 from g0)
   obtain ⟨x1, e1, w1⟩ := Mf.open_int (show DataW.trod enc Try.prog W 0 (fun _ => true) true f' 3 [c1] = some y1 from g1)
   obtain ⟨x2, e2, w2⟩ := Lv.open_value (show DataW.trod enc Try.prog W 0 (fun _ => true) true f' 36 [c2, c3, c4] = some y2 from g2) (fun n hn => hs n (.inr (.inr (.inl hn))))
   obtain ⟨x3, e3, w3⟩ := Lv.open_value (show DataW.trod enc Try.prog W 0 (fun _ => true) true f' 36 [c5, c6, c7] = some y3 from g3) (fun n hn => hs n (.inr (.inr (.inr (by first | exact .inl hn | exact hn)))))
   unfold Mf.ic at e0 e1
   simp only [List.cons.injEq, and_true] at e0 e1 e2 e3
   obtain ⟨rfl, rfl, rfl⟩ := e2
   obtain ⟨rfl, rfl, rfl⟩ := e3
   subst e0 e1
   exact ⟨⟨x0, x1, x2, x3⟩, rfl, w2, w3⟩
set_option maxRecDepth 100000 in
theorem Lv.open_parts {ts : List TypeId} {ds : List (DataW H)} (hsz : (DataW.weightsEach Try.prog ts ds).all (· ≤ reachBytes) = true) {j : Nat} {v : Value} {d : DataW H} {ps : List MemPlace} {r : Reach} {b0 : Nat}
 (ht : ts[j]? = some 22) (hd : ds[j]? = some d) (hv : Value.okWide Try.prog W r b0 22 v) (h : DataW.Trod enc Try.prog W 0 (fun _ => true) true 22 v d ps) :
 ∃ L : List Mf.P, Mf.Ps W v L ∧ (∀ p ∈ L, Lv.Zp p) ∧ L.length ≤ 9223372036854775807 := by
 obtain ⟨a0, len0, cap0, rfl⟩ := okWide_slice Try.underlying22 hv
 obtain ⟨fuel, hf⟩ := h
 obtain ⟨L, h1, h2, _, h4⟩ := Lv.open_slw (Q := Lv.Zp) Try.underlying22 (by kernel_rfl) (by decide) Mf.pc_len ⟨0, 0, ⟨false, 0, ⟨#[]⟩⟩, ⟨false, 0, ⟨#[]⟩⟩⟩ (fun h hs => Lv.open_part h hs) hf (Lv.fits hsz ht hd)
 exact ⟨L, h1, h2, h4⟩
end
end
end Go.Proofs.Ytodeodndjkkkbaa
