import Derived.Test.YtodeodndjkkkbaaWAG
import Derived.BigQuiet
import Derived.Deep.RegionHeld3
import Derived.Test.YtodeodndjkkkbaaWAA
import Derived.Deep.Slices
import Derived.Deep.Fields
import Derived.ChangeSame
import Derived.ProofKit
import Derived.OpenShut
import Derived.SizedLaws
namespace Go.Proofs.Ytodeodndjkkkbaa
section
open Go Go.RowKit Go.Lib Go.Sort
def Lv.Lat (w : World) (v : Value) : Option Mf.P → Prop
 | none => v = .pointer none
 | some q => ∃ b, v = .pointer (some ⟨b, 0, none⟩) ∧ Mf.PA w b 0 q
theorem Lv.Lat.kept {w w' : World} {v : Value} {o : Option Mf.P} (h : Lv.Lat w v o) (g : Below w.heap.size w w') : Lv.Lat w' v o := by
 cases o with
 | none => exact h
 | some q => obtain ⟨b, e, h⟩ := h; exact ⟨b, e, h.kept g⟩
theorem Lv.lp_hit {o : Option Mf.P} {K : List Mf.P} {k : Nat} {p : Mf.P} (h : K[k]? = some p) (hh : Lv.hit o p = true) : Lv.lp o (K.drop k) = false := by rw [Lv.lp_step h, if_pos hh]
theorem Lv.lp_next {o : Option Mf.P} {K : List Mf.P} {k : Nat} {p : Mf.P} (h : K[k]? = some p) (hh : Lv.hit o p = false) : Lv.lp o (K.drop k) = Lv.lp (Lv.nxt o p) (K.drop (k + 1)) := by rw [Lv.lp_step h, if_neg (by rw [hh]; decide)]
theorem Lv.cl_ne {q p : Mf.P} (h : ¬ q.lv = p.lv) : Lv.cl q p = false := by
 unfold Lv.cl
 rw [show (q.lv == p.lv) = false from beq_eq_false_iff_ne.2 h]
 rfl
theorem Lv.cl_eq {q p : Mf.P} (h : q.lv = p.lv) : Lv.cl q p = Lv.ov q p := by
 unfold Lv.cl
 rw [show (q.lv == p.lv) = true from beq_iff_eq.2 h]
 rfl
set_option maxHeartbeats 2000000 in
set_option maxRecDepth 100000 in
theorem Lv.disjoint_c (v : Value) (L : List Mf.P) (w : World) (hL : Mf.Ps w v L) (hl : L.length ≤ 1000000000) :
 Calls Try.prog 18 #[v] w fun e w' => ∃ B : Bool, e = .returned (.bool B) ∧ (B = true ↔ Lv.DJ L) ∧ Below w.heap.size w w' := by
 have C1 := Lv.those_c v L w hL hl 51 #[] (enters_of Try.func51 (by kernel_rfl) rfl) (fun x => x.lv != 0) (Lv.dis1_keeps w)
 have hfl : (L.filter fun x => x.lv != 0).length ≤ 1000000000 := Nat.le_trans (List.length_filter_le _ _) hl
 have HFL := Lib.hid hfl
 obtain ⟨a, c, rfl, -⟩ := hL.form
 clear hL hl hfl
 go_enter Try.func18, Try.ntmps18
 go_wp2_with fail
 refine C1.mono ?_
 rintro e w1 ⟨u, rfl, hu, g1⟩
 have C2 := Lv.sort_c hu (by have := HFL.out; omega)
 have HU := Lib.hid hu
 have HG1 := Lib.hid g1
 clear hu g1 C1
 go_wp2_with fail
 refine C2.mono ?_
 rintro e w2 ⟨rfl, K, hperm, hsd, hs⟩
 have HG2 := Lib.hid (Lv.Sorted.below0 hs HU.out HG1.out HG1.out.size)
 have HPS := Lib.hid hs.row.ps
 have HDJ := Lib.hid (Lv.dj_lp hperm hsd)
 have HKN : Hid (K.length ≤ 1000000000) := Lib.hid (by rw [hperm.length_eq]; exact HFL.out)
 obtain ⟨ka, kc, rfl, -⟩ := HPS.out.form
 clear hs hperm hsd C2
 go_wp2_with fail
 go_loopw [4, 13] (fun lat i wr => ∃ (k : Nat) (o : Option Mf.P), k ≤ K.length ∧ i = .int .i64 (k : Int) ∧ Lv.lp none K = Lv.lp o (K.drop k) ∧ Below w2.heap.size w2 wr ∧ Lv.Lat wr lat o) (fun _ i _ => K.length - (intOf i).toNat)
 case atStart => exact ⟨0, none, Nat.zero_le _, rfl, rfl, Below.refl _ _, rfl⟩
 case round =>
  obtain ⟨k, o, hk, rfl, hlp, hB, hlat⟩ := hrel
  have HLP := Lib.hid hlp
  have HB := Lib.hid hB
  have HLAT := Lib.hid hlat
  clear hlp
  by_cases hkl : k < K.length
  ·have hki : (k : Int) < (K.length : Int) := by omega
   have hk0 : (0 : Int) ≤ (k : Int) := by omega
   have hk9 : (k : Int) ≤ 1000000000 := by have := HKN.out; omega
   have hx := List.getElem?_eq_getElem hkl
   generalize K[k] = x at hx
   obtain ⟨kb, ko, rfl, hPA⟩ := (HPS.out.kept hB).at_ hx
   have HX := Lib.hid hx
   have HKL := Lib.hid hkl
   obtain ⟨w3, hw3⟩ : ∃ w3, w3 = wr.alloc (.cells (Mf.cs x) 38) := ⟨_, rfl⟩
   have g3 : Below wr.heap.size wr w3 := by rw [hw3]; exact (Below.refl _ _).alloc (Nat.le_refl _) _
   have HPN : Hid (Mf.PA w3 wr.heap.size 0 x) := Lib.hid (by rw [hw3]; exact Mf.PA.new wr x 38)
   have HB3 := Lib.hid (hB.trans (g3.mono hB.size))
   have HL3 := Lib.hid (HLAT.out.kept g3)
   obtain ⟨i, l, ⟨an, ai, sa⟩, ⟨bn, bi, sb⟩⟩ := x
   obtain ⟨c0, c1, c2, c3, c4, c5, c6, c7⟩ := hPA
   simp only [Mf.cs] at hw3 c0 c1 c2 c3 c4 c5 c6 c7
   obtain ⟨q, hq⟩ : ∃ q, q = wr.heap.size := ⟨_, rfl⟩
   rw [← hq] at HPN
   clear hk hkl hB hlat g3 hx HLAT
   go_upto_region 7 with (fail)
   rw [← hw3]
   rw [← hq]
   clear hw3 hq c0 c1 c2 c3 c4 c5 c6 c7
   obtain ⟨d0, d1, d2, d3, d4, d5, d6, d7⟩ := HPN.out
   simp only [Nat.zero_add] at d0 d1 d2 d3 d4 d5 d6 d7
   have HCC := Lib.hid fun (W : World) => Kn.compare_c ⟨an, ai, sa⟩ ⟨bn, bi, sb⟩ W
   have hrt : Lv.rt ⟨i, l, ⟨an, ai, sa⟩, ⟨bn, bi, sb⟩⟩ = decide (Kn.cmp ⟨an, ai, sa⟩ ⟨bn, bi, sb⟩ ≤ 0) := rfl
   generalize Kn.cmp ⟨an, ai, sa⟩ ⟨bn, bi, sb⟩ = z at HCC hrt
   have HRT := Lib.hid hrt
   clear hrt
   cases o with
   | none =>
     have hv := HL3.out
     unfold Lv.Lat at hv
     subst hv
     have HH : Hid (Lv.hit none ⟨i, l, ⟨an, ai, sa⟩, ⟨bn, bi, sb⟩⟩ = false) := Lib.hid rfl
     go_quiet (fail)
     have HB5 := Lib.hid (Kn.below_drewN HB3.out nq)
     have HP5 := Lib.hid (HPN.out.kept (Kn.below_drewN (Below.refl _ w3) nq))
     have HL5 : Hid (Lv.Lat (w3.drewN nq) (.pointer none) none) := Lib.hid rfl
     generalize w3.drewN nq = w5 at HB5 HP5 HL5 ⊢
     clear d0 d1 d2 d3 d4 d5 d6 d7
     obtain ⟨d0, d1, d2, d3, d4, d5, d6, d7⟩ := HP5.out
     simp only [Nat.zero_add] at d0 d1 d2 d3 d4 d5 d6 d7
     have HNX := Lib.hid (HLP.out.trans (Lv.lp_next HX.out HH.out))
     by_cases hz : z ≤ 0
     ·have HE : Hid (Lv.nxt none ⟨i, l, ⟨an, ai, sa⟩, ⟨bn, bi, sb⟩⟩ = some ⟨i, l, ⟨an, ai, sa⟩, ⟨bn, bi, sb⟩⟩) := Lib.hid (by unfold Lv.nxt; rw [if_pos (by rw [HRT.out]; exact decide_eq_true hz)])
      have hzd : decide (z ≤ 0) = true := decide_eq_true hz
      rw [HE.out] at HNX
      go_wp2_with fail
      refine (HCC.out w5).mono ?_
      rintro e w6 ⟨rfl, g6⟩
      have HB6 := Lib.hid (HB5.out.trans (g6.mono HB5.out.size))
      have HP6 := Lib.hid (HP5.out.kept g6)
      clear d0 d1 d2 d3 d4 d5 d6 d7 g6
      go_wp2
      go_roundw
      case rel => exact ⟨k + 1, some ⟨i, l, ⟨an, ai, sa⟩, ⟨bn, bi, sb⟩⟩, HKL.out, by simp, HNX.out, HB6.out, q, rfl, HP6.out⟩
      case measure => (have := HKL.out; simp [intOf]; omega)
     ·have HE : Hid (Lv.nxt none ⟨i, l, ⟨an, ai, sa⟩, ⟨bn, bi, sb⟩⟩ = none) := Lib.hid (by unfold Lv.nxt; rw [if_neg (by rw [HRT.out, decide_eq_false hz]; decide)])
      have hzd : decide (z ≤ 0) = false := decide_eq_false hz
      rw [HE.out] at HNX
      go_wp2_with fail
      refine (HCC.out w5).mono ?_
      rintro e w6 ⟨rfl, g6⟩
      have HB6 := Lib.hid (HB5.out.trans (g6.mono HB5.out.size))
      have HL6 := Lib.hid (HL5.out.kept g6)
      clear d0 d1 d2 d3 d4 d5 d6 d7 g6
      go_wp2
      go_roundw
      case rel => exact ⟨k + 1, none, HKL.out, by simp, HNX.out, HB6.out, HL6.out⟩
      case measure => (have := HKL.out; simp [intOf]; omega)
   | some y =>
     obtain ⟨b, rfl, hy⟩ := HL3.out
     have HY := Lib.hid hy
     obtain ⟨qi, ql, ⟨en, ei, es⟩, ⟨fn, fi, fs⟩⟩ := y
     obtain ⟨e0, e1, e2, e3, e4, e5, e6, e7⟩ := hy
     simp only [Nat.zero_add] at e0 e1 e2 e3 e4 e5 e6 e7
     by_cases hlv : ql = l
     ·have HCL : Hid (Lv.cl ⟨qi, ql, ⟨en, ei, es⟩, ⟨fn, fi, fs⟩⟩ ⟨i, l, ⟨an, ai, sa⟩, ⟨bn, bi, sb⟩⟩ = Lv.ov ⟨qi, ql, ⟨en, ei, es⟩, ⟨fn, fi, fs⟩⟩ ⟨i, l, ⟨an, ai, sa⟩, ⟨bn, bi, sb⟩⟩) := Lib.hid (Lv.cl_eq hlv)
      have hlb : (ql == l) = true := beq_iff_eq.2 hlv
      clear hlv
      have CO : Hid (∀ W : World, Calls Try.prog 40 #[.agg (Mf.cs ⟨qi, ql, ⟨en, ei, es⟩, ⟨fn, fi, fs⟩⟩)] W fun e w' => ∃ g, e = .returned (.func (.func 68) #[] #[.pointer (some ⟨g, 0, none⟩)]) ∧ Mf.PA w' g 0 ⟨qi, ql, ⟨en, ei, es⟩, ⟨fn, fi, fs⟩⟩ ∧ Below W.heap.size W w') := Lib.hid fun W => (Lv.overlapping_c ⟨qi, ql, ⟨en, ei, es⟩, ⟨fn, fi, fs⟩⟩ W).mono fun e w' ⟨he, hw⟩ => ⟨W.heap.size, he, by rw [hw]; exact Mf.PA.new W ⟨qi, ql, ⟨en, ei, es⟩, ⟨fn, fi, fs⟩⟩ 38, by rw [hw]; exact (Below.refl _ _).alloc (Nat.le_refl _) _⟩
      have CV := Lib.hid fun (W : World) (b : Nat) (h : Mf.PA W b 0 ⟨qi, ql, ⟨en, ei, es⟩, ⟨fn, fi, fs⟩⟩) => Lv.overlapping1_c ⟨qi, ql, ⟨en, ei, es⟩, ⟨fn, fi, fs⟩⟩ ⟨i, l, ⟨an, ai, sa⟩, ⟨bn, bi, sb⟩⟩ b W h
      simp only [Mf.cs] at CO CV
      have HS : Hid (∀ W, Below w3.heap.size w3 W → W.cell? ⟨q, 0, none⟩ = some (.int .i64 i) ∧ W.cell? ⟨q, 1, none⟩ = some (.int .i64 l) ∧ W.cell? ⟨q, 2, none⟩ = some (.bool an) ∧ W.cell? ⟨q, 3, none⟩ = some (.int .i64 ai) ∧ W.cell? ⟨q, 4, none⟩ = some (.string sa) ∧ W.cell? ⟨q, 5, none⟩ = some (.bool bn) ∧ W.cell? ⟨q, 6, none⟩ = some (.int .i64 bi) ∧ W.cell? ⟨q, 7, none⟩ = some (.string sb) ∧ W.cell? ⟨b, 0, none⟩ = some (.int .i64 qi) ∧ W.cell? ⟨b, 1, none⟩ = some (.int .i64 ql) ∧ W.cell? ⟨b, 2, none⟩ = some (.bool en) ∧ W.cell? ⟨b, 3, none⟩ = some (.int .i64 ei) ∧ W.cell? ⟨b, 4, none⟩ = some (.string es) ∧ W.cell? ⟨b, 5, none⟩ = some (.bool fn) ∧ W.cell? ⟨b, 6, none⟩ = some (.int .i64 fi) ∧ W.cell? ⟨b, 7, none⟩ = some (.string fs)) := Lib.hid fun W g => by
       obtain ⟨d0, d1, d2, d3, d4, d5, d6, d7⟩ := HPN.out.kept g
       obtain ⟨e0, e1, e2, e3, e4, e5, e6, e7⟩ := HY.out.kept g
       simp only [Nat.zero_add] at d0 d1 d2 d3 d4 d5 d6 d7 e0 e1 e2 e3 e4 e5 e6 e7
       exact ⟨d0, d1, d2, d3, d4, d5, d6, d7, e0, e1, e2, e3, e4, e5, e6, e7⟩
      have H8 : Hid (Below w3.heap.size w3 w3.drew) := Lib.hid (Below.refl _ _).drew
      have eg : ∀ args w, (callFunc 68 args).run Try.prog w = .ok (.enter 68 args) w := enters_of Try.func68 (by kernel_rfl) rfl
      generalize hov : Lv.ov ⟨qi, ql, ⟨en, ei, es⟩, ⟨fn, fi, fs⟩⟩ ⟨i, l, ⟨an, ai, sa⟩, ⟨bn, bi, sb⟩⟩ = B at CV HCL
      clear hov
      go_region_held3 (fun W => W.cell? ⟨q, 0, none⟩ = some (.int .i64 i) ∧ W.cell? ⟨q, 1, none⟩ = some (.int .i64 l) ∧ W.cell? ⟨q, 2, none⟩ = some (.bool an) ∧ W.cell? ⟨q, 3, none⟩ = some (.int .i64 ai) ∧ W.cell? ⟨q, 4, none⟩ = some (.string sa) ∧ W.cell? ⟨q, 5, none⟩ = some (.bool bn) ∧ W.cell? ⟨q, 6, none⟩ = some (.int .i64 bi) ∧ W.cell? ⟨q, 7, none⟩ = some (.string sb) ∧ W.cell? ⟨b, 0, none⟩ = some (.int .i64 qi) ∧ W.cell? ⟨b, 1, none⟩ = some (.int .i64 ql) ∧ W.cell? ⟨b, 2, none⟩ = some (.bool en) ∧ W.cell? ⟨b, 3, none⟩ = some (.int .i64 ei) ∧ W.cell? ⟨b, 4, none⟩ = some (.string es) ∧ W.cell? ⟨b, 5, none⟩ = some (.bool fn) ∧ W.cell? ⟨b, 6, none⟩ = some (.int .i64 fi) ∧ W.cell? ⟨b, 7, none⟩ = some (.string fs))
       (first
        | with_reducible exact HS.out _ H8.out
        | exact HS.out _ (Below.refl _ _))
       (first
        | (go_at_call 40
           with_reducible refine (CO.out _).mono ?_
           rintro e w4 ⟨g, rfl, hpo, g4⟩
           have HPO := Lib.hid hpo
           have H8 := Lib.hid (H8.out.trans (g4.mono H8.out.size))
           clear hpo g4)
        | (go_at_call 68
           with_reducible refine (CV.out _ _ HPO.out).mono ?_
           rintro e w4 ⟨rfl, g4⟩
           have H8 := Lib.hid (H8.out.trans (g4.mono H8.out.size))))
      cases B
      ·have HH : Hid (Lv.hit (some ⟨qi, ql, ⟨en, ei, es⟩, ⟨fn, fi, fs⟩⟩) ⟨i, l, ⟨an, ai, sa⟩, ⟨bn, bi, sb⟩⟩ = false) := HCL
       have HB5 := Lib.hid (HB3.out.trans (H8.out.mono HB3.out.size))
       have HP5 := Lib.hid (HPN.out.kept H8.out)
       have HL5 : Hid (Lv.Lat w4 (.pointer (some ⟨b, 0, none⟩)) (some ⟨qi, ql, ⟨en, ei, es⟩, ⟨fn, fi, fs⟩⟩)) := Lib.hid ⟨b, rfl, HY.out.kept H8.out⟩
       clear d0 d1 d2 d3 d4 d5 d6 d7 e0 e1 e2 e3 e4 e5 e6 e7
       obtain ⟨w5, hw5⟩ : ∃ w5, w5 = w4 := ⟨_, rfl⟩
       subst hw5
       obtain ⟨d0, d1, d2, d3, d4, d5, d6, d7⟩ := HP5.out
       simp only [Nat.zero_add] at d0 d1 d2 d3 d4 d5 d6 d7
       have HNX := Lib.hid (HLP.out.trans (Lv.lp_next HX.out HH.out))
       by_cases hz : z ≤ 0
       ·have HE : Hid (Lv.nxt (some ⟨qi, ql, ⟨en, ei, es⟩, ⟨fn, fi, fs⟩⟩) ⟨i, l, ⟨an, ai, sa⟩, ⟨bn, bi, sb⟩⟩ = some ⟨i, l, ⟨an, ai, sa⟩, ⟨bn, bi, sb⟩⟩) := Lib.hid (by unfold Lv.nxt; rw [if_pos (by rw [HRT.out]; exact decide_eq_true hz)])
        have hzd : decide (z ≤ 0) = true := decide_eq_true hz
        rw [HE.out] at HNX
        go_wp2_with fail
        refine (HCC.out w5).mono ?_
        rintro e w6 ⟨rfl, g6⟩
        have HB6 := Lib.hid (HB5.out.trans (g6.mono HB5.out.size))
        have HP6 := Lib.hid (HP5.out.kept g6)
        clear d0 d1 d2 d3 d4 d5 d6 d7 g6
        go_wp2
        go_roundw
        case rel => exact ⟨k + 1, some ⟨i, l, ⟨an, ai, sa⟩, ⟨bn, bi, sb⟩⟩, HKL.out, by simp, HNX.out, HB6.out, q, rfl, HP6.out⟩
        case measure => (have := HKL.out; simp [intOf]; omega)
       ·have HE : Hid (Lv.nxt (some ⟨qi, ql, ⟨en, ei, es⟩, ⟨fn, fi, fs⟩⟩) ⟨i, l, ⟨an, ai, sa⟩, ⟨bn, bi, sb⟩⟩ = (some ⟨qi, ql, ⟨en, ei, es⟩, ⟨fn, fi, fs⟩⟩)) := Lib.hid (by unfold Lv.nxt; rw [if_neg (by rw [HRT.out, decide_eq_false hz]; decide)])
        have hzd : decide (z ≤ 0) = false := decide_eq_false hz
        rw [HE.out] at HNX
        go_wp2_with fail
        refine (HCC.out w5).mono ?_
        rintro e w6 ⟨rfl, g6⟩
        have HB6 := Lib.hid (HB5.out.trans (g6.mono HB5.out.size))
        have HL6 := Lib.hid (HL5.out.kept g6)
        clear d0 d1 d2 d3 d4 d5 d6 d7 g6
        go_wp2
        go_roundw
        case rel => exact ⟨k + 1, (some ⟨qi, ql, ⟨en, ei, es⟩, ⟨fn, fi, fs⟩⟩), HKL.out, by simp, HNX.out, HB6.out, HL6.out⟩
        case measure => (have := HKL.out; simp [intOf]; omega)
      ·have HH : Hid (Lv.hit (some ⟨qi, ql, ⟨en, ei, es⟩, ⟨fn, fi, fs⟩⟩) ⟨i, l, ⟨an, ai, sa⟩, ⟨bn, bi, sb⟩⟩ = true) := HCL
       have HB5 := Lib.hid (HB3.out.trans (H8.out.mono HB3.out.size))
       have HFIN := Lib.hid (HLP.out.trans (Lv.lp_hit HX.out HH.out))
       go_wp2
       go_ret
       exact ⟨false, rfl, ⟨fun h => (by cases h), fun h => (by rw [HDJ.out.2 h] at HFIN; exact absurd HFIN.out (by decide))⟩, HG2.out.trans (HB5.out.mono HG2.out.size)⟩
     ·have HH : Hid (Lv.hit (some ⟨qi, ql, ⟨en, ei, es⟩, ⟨fn, fi, fs⟩⟩) ⟨i, l, ⟨an, ai, sa⟩, ⟨bn, bi, sb⟩⟩ = false) := Lib.hid (Lv.cl_ne hlv)
      have hlb : (ql == l) = false := beq_eq_false_iff_ne.2 hlv
      clear hlv
      go_quiet (fail)
      have HB5 := Lib.hid (Kn.below_drewN HB3.out nq)
      have HP5 := Lib.hid (HPN.out.kept (Kn.below_drewN (Below.refl _ w3) nq))
      have HL5 : Hid (Lv.Lat (w3.drewN nq) (.pointer (some ⟨b, 0, none⟩)) (some ⟨qi, ql, ⟨en, ei, es⟩, ⟨fn, fi, fs⟩⟩)) := Lib.hid ⟨b, rfl, HY.out.kept (Kn.below_drewN (Below.refl _ w3) nq)⟩
      generalize w3.drewN nq = w5 at HB5 HP5 HL5 ⊢
      clear d0 d1 d2 d3 d4 d5 d6 d7 e0 e1 e2 e3 e4 e5 e6 e7
      obtain ⟨d0, d1, d2, d3, d4, d5, d6, d7⟩ := HP5.out
      simp only [Nat.zero_add] at d0 d1 d2 d3 d4 d5 d6 d7
      have HNX := Lib.hid (HLP.out.trans (Lv.lp_next HX.out HH.out))
      by_cases hz : z ≤ 0
      ·have HE : Hid (Lv.nxt (some ⟨qi, ql, ⟨en, ei, es⟩, ⟨fn, fi, fs⟩⟩) ⟨i, l, ⟨an, ai, sa⟩, ⟨bn, bi, sb⟩⟩ = some ⟨i, l, ⟨an, ai, sa⟩, ⟨bn, bi, sb⟩⟩) := Lib.hid (by unfold Lv.nxt; rw [if_pos (by rw [HRT.out]; exact decide_eq_true hz)])
       have hzd : decide (z ≤ 0) = true := decide_eq_true hz
       rw [HE.out] at HNX
       go_wp2_with fail
       refine (HCC.out w5).mono ?_
       rintro e w6 ⟨rfl, g6⟩
       have HB6 := Lib.hid (HB5.out.trans (g6.mono HB5.out.size))
       have HP6 := Lib.hid (HP5.out.kept g6)
       clear d0 d1 d2 d3 d4 d5 d6 d7 g6
       go_wp2
       go_roundw
       case rel => exact ⟨k + 1, some ⟨i, l, ⟨an, ai, sa⟩, ⟨bn, bi, sb⟩⟩, HKL.out, by simp, HNX.out, HB6.out, q, rfl, HP6.out⟩
       case measure => (have := HKL.out; simp [intOf]; omega)
      ·have HE : Hid (Lv.nxt (some ⟨qi, ql, ⟨en, ei, es⟩, ⟨fn, fi, fs⟩⟩) ⟨i, l, ⟨an, ai, sa⟩, ⟨bn, bi, sb⟩⟩ = (some ⟨qi, ql, ⟨en, ei, es⟩, ⟨fn, fi, fs⟩⟩)) := Lib.hid (by unfold Lv.nxt; rw [if_neg (by rw [HRT.out, decide_eq_false hz]; decide)])
       have hzd : decide (z ≤ 0) = false := decide_eq_false hz
       rw [HE.out] at HNX
       go_wp2_with fail
       refine (HCC.out w5).mono ?_
       rintro e w6 ⟨rfl, g6⟩
       have HB6 := Lib.hid (HB5.out.trans (g6.mono HB5.out.size))
       have HL6 := Lib.hid (HL5.out.kept g6)
       clear d0 d1 d2 d3 d4 d5 d6 d7 g6
       go_wp2
       go_roundw
       case rel => exact ⟨k + 1, (some ⟨qi, ql, ⟨en, ei, es⟩, ⟨fn, fi, fs⟩⟩), HKL.out, by simp, HNX.out, HB6.out, HL6.out⟩
       case measure => (have := HKL.out; simp [intOf]; omega)
  ·have hki : ¬ (k : Int) < (K.length : Int) := by omega
   obtain rfl : k = K.length := by omega
   have hlp := HLP.out
   rw [List.drop_length] at hlp
   have HFIN := Lib.hid hlp
   clear hk hkl hB hlat hlp
   go_wp2
   go_ret
   first
    | exact ⟨true, rfl, ⟨fun _ => HDJ.out.1 HFIN.out, fun _ => rfl⟩, HG2.out.trans (HB.out.mono HG2.out.size)⟩
    | exact .inr ⟨rfl, ⟨fun _ => HDJ.out.1 HFIN.out, fun _ => rfl⟩, HG2.out.trans (HB.out.mono HG2.out.size)⟩
    | exact .inr ⟨rfl, HDJ.out.1 HFIN.out, HG2.out.trans (HB.out.mono HG2.out.size)⟩
end
section
open Go Go.RowKit Go.Lib Go.Sort
theorem Lv.ps_take {w : World} {a : Option Addr} {c : Nat} {L : List Mf.P} (h : Mf.Ps w (.slice a L.length c) L) (n : Nat) : Mf.Ps w (.slice a (L.take n).length c) (L.take n) := by
 obtain ⟨a1, c1, e, hc, h⟩ := h
 simp only [Value.slice.injEq] at e
 obtain ⟨rfl, -, rfl⟩ := e
 refine ⟨a, c, rfl, by rw [List.length_take]; omega, ?_⟩
 rcases h with ⟨rfl, h⟩ | ⟨b, o, cs, fr, rfl, ht, hb, h⟩
 ·exact .inl ⟨List.take_nil, h⟩
 ·refine .inr ⟨b, o, cs, fr, rfl, ht, hb, fun i j x hi hj => h i j x ?_ hj⟩
  rw [List.getElem?_take] at hi
  split at hi
  ·exact hi
  ·cases hi
set_option maxRecDepth 100000 in
theorem Lv.early_c (v : Value) (L : List Mf.P) (w : World) (hL : Mf.Ps w v L) (hl : L.length ≤ 9223372036854775807) :
 Calls Try.prog 14 #[v] w fun e w' => ∃ u, e = .returned u ∧ Mf.Ps w u (L.take 80) ∧ w' = w := by
 obtain ⟨a, c, rfl, hc, -⟩ := id hL
 have HT := Lib.hid (Lv.ps_take hL 80)
 have hn : (L.length : Int) ≤ 9223372036854775807 := by omega
 by_cases h : L.length ≤ 80
 ·have e : (L.take 80).length = L.length := by rw [List.length_take]; omega
  rw [e] at HT
  have h80 : (L.length : Int) ≤ 80 := by omega
  have hm : min (L.length : Int) 80 = (L.length : Int) := by omega
  have hc2 : (L.length : Int) ≤ (c : Int) := by omega
  have h0 : (0 : Int) ≤ (L.length : Int) := by omega
  go_enter Try.func14, Try.ntmps14
  go_wp2
  go_ret
  exact ⟨_, rfl, HT.out, rfl⟩
 ·have e : (L.take 80).length = 80 := by rw [List.length_take]; omega
  rw [e] at HT
  have h80 : (80 : Int) ≤ (L.length : Int) := by omega
  have hm : min (L.length : Int) 80 = 80 := by omega
  have hc2 : (80 : Int) ≤ (c : Int) := by omega
  have hc3 : 80 ≤ c := by omega
  go_enter Try.func14, Try.ntmps14
  go_wp2
  go_ret
  exact ⟨_, rfl, HT.out, rfl⟩
set_option maxHeartbeats 2000000 in
set_option maxRecDepth 100000 in
theorem Lv.of_c (v : Value) (L : List Mf.P) (n : Int) (w : World) (hL : Mf.Ps w v L) (hl : L.length ≤ 1000000000) :
 Calls Try.prog 28 #[v, .int .i64 n] w fun e w' => ∃ u, e = .returned u ∧ Mf.Ow w.heap.size w' u (Lv.at_ n L) ∧ Below w.heap.size w w' := by
 have HPS := Lib.hid hL
 obtain ⟨a, c, rfl, -⟩ := hL.form
 have hn9 : (L.length : Int) ≤ 1000000000 := by omega
 have HLN := Lib.hid hl
 clear hl hL
 go_enter Try.func28, Try.ntmps28
 go_wp2_with fail
 go_loopw [5, 6] (fun u i wr => ∃ (k : Nat), k ≤ L.length ∧ i = .int .i64 (k : Int) ∧ Mf.Ow w.heap.size wr u (Lv.at_ n (L.take k)) ∧ Below w.heap.size w wr) (fun _ i _ => L.length - (intOf i).toNat)
 case atStart => exact ⟨0, Nat.zero_le _, rfl, Mf.Ow.nil _ _, Below.refl _ _⟩
 case round =>
  obtain ⟨k, hk, rfl, hO, hB⟩ := hrel
  have hk0 : (0 : Int) ≤ (k : Int) := by omega
  have HO := Lib.hid hO
  have HB := Lib.hid hB
  obtain ⟨oa, on, oc, rfl⟩ : ∃ a n c, u5 = .slice a n c := by
   rcases Dk.Own.form hO with ⟨e, _⟩ | ⟨g, c, e, _⟩
   ·exact ⟨none, 0, 0, e⟩
   ·exact ⟨_, _, c, e⟩
  by_cases hkl : k < L.length
  ·have hki : (k : Int) < (L.length : Int) := by omega
   have hx := List.getElem?_eq_getElem hkl
   generalize L[k] = x at hx
   obtain ⟨b, o, rfl, hPA⟩ := (HPS.out.kept hB).at_ hx
   have HST := Lib.hid (show Lv.at_ n (L.take (k + 1)) = Lv.at_ n (L.take k) ++ (if x.lv == n then [x] else []) from Lv.filter_step (fun x => x.lv == n) hx)
   have hfl : (Lv.at_ n (L.take k)).length ≤ 1000000000 := by
    have h1 := Lv.at_len n (L.take k)
    rw [List.length_take] at h1
    have := HLN.out
    omega
   have HFL := Lib.hid hfl
   have HKL := Lib.hid hkl
   obtain ⟨i, l, ⟨an, ai, sa⟩, ⟨bn, bi, sb⟩⟩ := x
   obtain ⟨c0, c1, c2, c3, c4, c5, c6, c7⟩ := hPA
   simp only at c0 c1 c2 c3 c4 c5 c6 c7
   clear hk hkl hO hB hfl hx
   simp only at HST
   cases hb : (l == n)
   ·have HS2 : Hid (Lv.at_ n (L.take (k + 1)) = Lv.at_ n (L.take k)) := Lib.hid (by rw [HST.out, hb]; simp)
    clear HST
    go_wp2
    go_roundw
    case rel => exact ⟨k + 1, HKL.out, by simp, by rw [HS2.out]; exact HO.out, HB.out⟩
    case measure => (have := HKL.out; simp [intOf]; omega)
   ·have HS2 : Hid (Lv.at_ n (L.take (k + 1)) = Lv.at_ n (L.take k) ++ [⟨i, l, ⟨an, ai, sa⟩, ⟨bn, bi, sb⟩⟩]) := Lib.hid (by rw [HST.out, hb]; simp)
    clear HST
    have g5 : Below wr.heap.size wr (wr.alloc (.cells #[.int .i64 i, .int .i64 l, .bool an, .int .i64 ai, .string sa, .bool bn, .int .i64 bi, .string sb] 38)) := (Below.refl _ _).alloc (Nat.le_refl _) _
    have HO5 := Lib.hid (HO.out.kept g5)
    have HB5 := Lib.hid (HB.out.trans (g5.mono HB.out.size))
    have HSR := Lib.hid (Dk.src_one (enc := Mf.pc) wr ⟨i, l, ⟨an, ai, sa⟩, ⟨bn, bi, sb⟩⟩ #[.int .i64 i, .int .i64 l, .bool an, .int .i64 ai, .string sa, .bool bn, .int .i64 bi, .string sb] rfl 38)
    clear g5
    go_wp2_with (at_builtin; refine Mf.wpList_part [⟨i, l, ⟨an, ai, sa⟩, ⟨bn, bi, sb⟩⟩] HO5.out HB5.out.size (by have := HFL.out; simp only [List.length_singleton]; omega) HSR.out (.tmp 20) (.tmp 25) (by rfl) (by rfl) (by rfl) (by rfl) ?_; intro v6 w6 o6 g6; have HO6 := Lib.hid o6; have HB6 := Lib.hid (Mf.ow_below HB5.out HB5.out.size HO5.out g6); clear o6 g6)
    go_wp2
    go_roundw
    case rel => exact ⟨k + 1, HKL.out, by simp, by rw [HS2.out]; exact HO6.out, HB6.out⟩
    case measure => (have := HKL.out; simp [intOf]; omega)
  ·have hki : ¬ (k : Int) < (L.length : Int) := by omega
   obtain rfl : k = L.length := by omega
   rw [List.take_length] at HO
   clear hk hO hB
   go_wp2
   go_ret
   exact ⟨_, rfl, HO.out, HB.out⟩
def Lv.p0 (i l n : Int) : Mf.P := ⟨i, l, ⟨false, n, ⟨#[]⟩⟩, ⟨false, n, ⟨#[]⟩⟩⟩
def Lv.ex : List Mf.P := [Lv.p0 1 0 0, Lv.p0 4 0 0, Lv.p0 2 0 0, Lv.p0 3 0 0, Lv.p0 9 1 1]
theorem Lv.ex_cw : Lv.cw Lv.ex = some 0 := by kernel_rfl
theorem Lv.ex_bt : Lv.bt Lv.ex 0 = true := by kernel_rfl
theorem Lv.ex_dj : Lv.DJ Lv.ex := by unfold Lv.DJ; decide +kernel
end
section
open Go Go.RowKit Go.Lib Go.Sort
def Lv.exC : Array Value := #[.int .i64 1, .int .i64 0, .bool false, .int .i64 0, .string ⟨#[]⟩, .bool false, .int .i64 0, .string ⟨#[]⟩, .int .i64 4, .int .i64 0, .bool false, .int .i64 0, .string ⟨#[]⟩, .bool false, .int .i64 0, .string ⟨#[]⟩, .int .i64 2, .int .i64 0, .bool false, .int .i64 0, .string ⟨#[]⟩, .bool false, .int .i64 0, .string ⟨#[]⟩, .int .i64 3, .int .i64 0, .bool false, .int .i64 0, .string ⟨#[]⟩, .bool false, .int .i64 0, .string ⟨#[]⟩, .int .i64 9, .int .i64 1, .bool false, .int .i64 1, .string ⟨#[]⟩, .bool false, .int .i64 1, .string ⟨#[]⟩]
theorem Lv.ex_lit (w : World) : Mf.Ow w.heap.size (w.alloc (.cells Lv.exC 38)) (.slice (some ⟨w.heap.size, 0, none⟩) 5 5) Lv.ex := by
 have h := World.ownsRow_lit (base := w.heap.size) (size := 8) (e := 38) w Lv.exC 5 (Nat.le_refl _) (by decide) (by kernel_rfl)
 have e : Lv.exC.toList = Lv.ex.flatMap Mf.pc := by kernel_rfl
 rw [e] at h
 exact h
theorem Lv.Oi.at_ {base : Nat} {w : World} {a : Option Addr} {n c : Nat} {L : List Int} (h : Lv.Oi base w (.slice a n c) L) (hL : L ≠ []) : ∃ g, a = some ⟨g, 0, none⟩ ∧ n = L.length ∧ g < w.heap.size ∧ ∀ (i : Nat) (x : Int), L[i]? = some x → w.cell? ⟨g, i, none⟩ = some (.int .i64 x) := by
 rcases Dk.Own.form h with ⟨_, e⟩ | ⟨g, c', e, _, _, _, hg⟩
 ·exact absurd e hL
 ·simp only [Value.slice.injEq] at e
  obtain ⟨rfl, rfl, rfl⟩ := e
  refine ⟨g, rfl, rfl, hg, fun i x hx => ?_⟩
  have := Dk.Own.cell Mf.ic_len h (g := g) rfl hx (j := 0) (by decide)
  rw [Nat.mul_one, Nat.add_zero] at this
  exact this
theorem Lv.box4 (w : World) (x y z t : Value) (T : TypeId) : (w.alloc (.cells #[x, y, z, t] T)).heap[w.heap.size]? = some (.cells #[x, y, z, t] T (0, 0)) := heap_alloc_new w _
set_option maxHeartbeats 2000000 in
set_option maxRecDepth 100000 in
theorem Lv.lives_c (w : World) : Calls Try.prog 13 #[] w fun e w' => e = .returned (.bool true) ∧ Below w.heap.size w w' := by
 have HX := Lib.hid (Mf.Ow.ps (Lv.ex_lit w))
 have HG : Hid (Below w.heap.size w _) := Lib.hid ((Below.refl _ w).alloc (Nat.le_refl _) (.cells Lv.exC 38))
 have CP := Lib.hid fun (v : Value) (w : World) (h : Mf.Ps w v Lv.ex) => Lv.pick_some v Lv.ex 0 w h (by decide) Lv.ex_cw
 have CD := Lib.hid fun (v : Value) (w : World) (h : Mf.Ps w v Lv.ex) => Lv.disjoint_c v Lv.ex w h (by decide)
 have CC := Lib.hid fun (v : Value) (w : World) (h : Mf.Ps w v Lv.ex) => Lv.calm_c v Lv.ex w h (by decide)
 rw [Lv.ex_cw] at CC
 simp only [Option.isNone_some] at CC
 unfold Lv.exC at HX HG
 go_enter Try.func13, Try.ntmps13
 go_upto_region 2 with (fail)
 obtain ⟨q, hq⟩ : ∃ q, q = w.heap.size := ⟨_, rfl⟩
 rw [← hq] at HX ⊢
 generalize World.alloc _ _ = w1 at HX HG ⊢
 clear hq
 go_wp2_with fail
 refine (CP.out _ _ HX.out).mono ?_
 rintro e w2 ⟨a, n, c, rfl, hid, g2⟩
 rw [Lv.ex_bt]
 have hne : Lv.pi Lv.ex 0 = [4, 3, 2, 1] := by kernel_rfl
 rw [hne] at hid
 obtain ⟨g, rfl, rfl, hg, hc⟩ := hid.at_ (by decide)
 have i0 := hc 0 4 rfl
 have i3 := hc 3 1 rfl
 have HX2 := Lib.hid (HX.out.kept g2)
 have HG2 := Lib.hid (HG.out.trans (g2.mono HG.out.size))
 clear hid hc g2 HX HG CP
 have gb : Below w2.heap.size w2 (w2.alloc (.cells #[.int .i64 0, .int .i64 1, .slice (some ⟨g, 0, none⟩) 4 c, .bool true] 27)) := (Below.refl _ _).alloc (Nat.le_refl _) _
 have HI := Lib.hid (And.intro ((gb.cell (p := ⟨g, 0, none⟩) hg).trans i0) ((gb.cell (p := ⟨g, 3, none⟩) hg).trans i3))
 have HQ := Lib.hid (Lv.box4 w2 (.int .i64 0) (.int .i64 1) (.slice (some ⟨g, 0, none⟩) 4 c) (.bool true) 27)
 have HX3 := Lib.hid (HX2.out.kept gb)
 have HG3 := Lib.hid (HG2.out.trans (gb.mono HG2.out.size))
 clear gb HX2 HG2 i0 i3
 simp only [List.length_cons, List.length_nil, Nat.zero_add, Nat.reduceAdd]
 go_upto_region 3 with (fail)
 obtain ⟨b, hb⟩ : ∃ b, b = w2.heap.size := ⟨_, rfl⟩
 rw [← hb] at HQ ⊢
 generalize World.alloc _ _ = w3 at HX3 HG3 HI HQ ⊢
 clear hb hg
 obtain ⟨⟨y0, y1, y2, y3⟩, z0, z1, z2, z3⟩ := Lv.quad HQ.out
 obtain ⟨i0, i3⟩ := HI.out
 go_wp2_with fail
 refine (CD.out _ _ HX3.out).mono ?_
 rintro e w4 ⟨B, rfl, hB, g4⟩
 have hBt := hB.2 Lv.ex_dj
 subst hBt
 have HX4 := Lib.hid (HX3.out.kept g4)
 have HG4 := Lib.hid (HG3.out.trans (g4.mono HG3.out.size))
 clear hB g4 y0 y1 y2 y3 z0 z1 z2 z3 i0 i3
 go_wp2_with fail
 refine (CC.out _ _ HX4.out).mono ?_
 rintro e w5 ⟨rfl, g5⟩
 have HG5 := Lib.hid (HG4.out.trans (g5.mono HG4.out.size))
 clear g5
 go_wp2
 go_ret
 exact ⟨rfl, HG5.out⟩
end
section
open Go Go.RowKit Go.Lib Go.Sort
def Lv.four : List Mf.P := [Lv.p0 (-1) 0 0, Lv.p0 (-2) 0 0, Lv.p0 (-3) 0 0, Lv.p0 (-4) 0 0]
def Lv.fourC : Array Value := #[.int .i64 (-1), .int .i64 0, .bool false, .int .i64 0, .string ⟨#[]⟩, .bool false, .int .i64 0, .string ⟨#[]⟩, .int .i64 (-2), .int .i64 0, .bool false, .int .i64 0, .string ⟨#[]⟩, .bool false, .int .i64 0, .string ⟨#[]⟩, .int .i64 (-3), .int .i64 0, .bool false, .int .i64 0, .string ⟨#[]⟩, .bool false, .int .i64 0, .string ⟨#[]⟩, .int .i64 (-4), .int .i64 0, .bool false, .int .i64 0, .string ⟨#[]⟩, .bool false, .int .i64 0, .string ⟨#[]⟩]
theorem Lv.four_lit (w : World) : Mf.Ow w.heap.size (w.alloc (.cells Lv.fourC 38)) (.slice (some ⟨w.heap.size, 0, none⟩) 4 4) Lv.four := by
 have h := World.ownsRow_lit (base := w.heap.size) (size := 8) (e := 38) w Lv.fourC 4 (Nat.le_refl _) (by decide) (by kernel_rfl)
 have e : Lv.fourC.toList = Lv.four.flatMap Mf.pc := by kernel_rfl
 rw [e] at h
 exact h
theorem Lv.at_app (n : Int) (A B : List Mf.P) : Lv.at_ n (A ++ B) = Lv.at_ n A ++ Lv.at_ n B := List.filter_append ..
def Lv.fewOk (F : List Mf.P) : Prop := ∀ n : Int, (Lv.at_ n F).length ≤ 3
theorem Lv.few_add {F : List Mf.P} {x : Mf.P} (h : Lv.fewOk F) (hx : (Lv.at_ x.lv F).length < 3) : Lv.fewOk (F ++ [x]) := fun n => by
 rw [Lv.at_app, List.length_append]
 by_cases hn : x.lv = n
 ·subst hn
  have : (Lv.at_ x.lv [x]).length ≤ 1 := Lv.at_len _ _
  omega
 ·have e : Lv.at_ n [x] = [] := by
   unfold Lv.at_
   rw [List.filter_cons_of_neg (by simpa using hn)]
   rfl
  rw [e]
  have := h n
  simpa using this
theorem Lv.few_calm {F : List Mf.P} (h : Lv.fewOk F) : Lv.cw F = none := Lv.cw_no fun j hj => by
 unfold Lv.full
 have h1 := h (j : Int)
 have h2 : 3 ≤ Lv.lim j := by unfold Lv.lim; split <;> (try split) <;> omega
 exact decide_eq_false (by omega)
theorem Lv.more_cw (F : List Mf.P) : Lv.cw (F ++ Lv.four) = some 0 := by
 have e : Lv.at_ 0 Lv.four = Lv.four := by kernel_rfl
 have hf : Lv.full (F ++ Lv.four) 0 = true := by
  unfold Lv.full
  show decide (Lv.lim 0 < (Lv.at_ (0 : Int) (F ++ Lv.four)).length) = true
  rw [Lv.at_app, e, List.length_append]
  exact decide_eq_true (show 3 < (Lv.at_ 0 F).length + 4 by omega)
 unfold Lv.cw
 rw [if_pos hf]
theorem Lv.Ow.sl {base : Nat} {w : World} {v : Value} {L : List Mf.P} (h : Mf.Ow base w v L) : ∃ a c, v = .slice a L.length c := by
 rcases Dk.Own.form h with ⟨rfl, rfl⟩ | ⟨g, c, rfl, _⟩
 ·exact ⟨none, 0, rfl⟩
 ·exact ⟨_, c, rfl⟩
set_option maxHeartbeats 1000000 in
set_option maxRecDepth 100000 in
theorem Lv.lawFew_w (v : Value) (L : List Mf.P) (w : World) (hL : Mf.Ps w v L) (hl : L.length ≤ 9223372036854775807) :
 Calls Try.prog 7 #[v] w fun e w' => e = .returned (.bool true) ∧ Below w.heap.size w w' := by
 have CL := Lib.hid (Lv.lives_c w)
 have HL := Lib.hid hL
 have CE := Lib.hid fun (w' : World) (g : Below w.heap.size w w') => Lv.early_c v L w' (hL.kept g) hl
 have hE : (L.take 80).length ≤ 80 := by rw [List.length_take]; omega
 generalize L.take 80 = E at CE hE
 have HE := Lib.hid hE
 obtain ⟨va, vc, rfl, -⟩ := hL.form
 clear hL hl hE
 go_enter Try.func7, Try.ntmps7
 go_wp2_with fail
 refine (CL.out).mono ?_
 rintro e w1 ⟨rfl, g1⟩
 have HG1 := Lib.hid g1
 clear g1
 go_wp2_with fail
 refine (CE.out _ HG1.out).mono ?_
 rintro e w2 ⟨u, rfl, hu, rfl⟩
 have HPS := Lib.hid hu
 obtain ⟨ea, ec, rfl, -⟩ := hu.form
 clear hu
 go_wp2_with fail
 go_loopw [3, 4] (fun f i wr => ∃ (k : Nat) (F : List Mf.P), k ≤ E.length ∧ i = .int .i64 (k : Int) ∧ Mf.Ow w2.heap.size wr f F ∧ F.length ≤ k ∧ Lv.fewOk F ∧ Below w2.heap.size w2 wr) (fun _ i _ => E.length - (intOf i).toNat)
 case atStart => exact ⟨0, [], Nat.zero_le _, rfl, Mf.Ow.nil _ _, Nat.zero_le _, fun n => Nat.zero_le _, Below.refl _ _⟩
 case round =>
  obtain ⟨k, F, hk, rfl, hO, hFk, hF, hB⟩ := hrel
  have hk0 : (0 : Int) ≤ (k : Int) := by omega
  have HO := Lib.hid hO
  have HB := Lib.hid hB
  have HF := Lib.hid hF
  have HFK := Lib.hid hFk
  obtain ⟨fa, fc, rfl⟩ := Lv.Ow.sl hO
  have hk9 : (k : Int) ≤ 80 := by have := HE.out; omega
  have HFL : Hid (F.length ≤ 80) := Lib.hid (by have := HE.out; omega)
  by_cases hkl : k < E.length
  ·have hki : (k : Int) < (E.length : Int) := by omega
   have hx := List.getElem?_eq_getElem hkl
   generalize E[k] = x at hx
   obtain ⟨b, o, rfl, hPA⟩ := (HPS.out.kept hB).at_ hx
   have HKL := Lib.hid hkl
   have CO := Lib.hid (Lv.of_c _ F x.lv wr hO.ps (by have := HFL.out; omega))
   have HAD := Lib.hid fun h => Lv.few_add (x := x) hF h
   have HPB := Lib.hid fun (W : World) (g : Below wr.heap.size wr W) => hPA.kept g
   obtain ⟨i, l, ⟨an, ai, sa⟩, ⟨bn, bi, sb⟩⟩ := x
   obtain ⟨c0, c1, c2, c3, c4, c5, c6, c7⟩ := hPA
   simp only at c0 c1 c2 c3 c4 c5 c6 c7 CO HAD HPB
   clear hk hkl hO hB hF hFk hx
   by_cases h0 : 0 ≤ l
   ·have d0 : decide (0 ≤ l) = true := decide_eq_true h0
    clear h0
    by_cases h4 : l < 4
    ·have d4 : decide (l < 4) = true := decide_eq_true h4
     clear h4
     go_wp2_with fail
     refine (CO.out).mono ?_
     rintro e w4 ⟨u, rfl, hu, g4⟩
     obtain ⟨ua, uc, rfl⟩ := Lv.Ow.sl hu
     have HB4 := Lib.hid (HB.out.trans (g4.mono HB.out.size))
     have HO4 := Lib.hid (HO.out.kept g4)
     obtain ⟨c0, c1, c2, c3, c4, c5, c6, c7⟩ := HPB.out _ g4
     simp only at c0 c1 c2 c3 c4 c5 c6 c7
     clear g4 hu CO
     generalize hm : (Lv.at_ l F).length = m at HAD ⊢
     clear hm
     by_cases h3 : m < 3
     ·have HF4 := Lib.hid (HAD.out h3)
      have d3 : decide ((m : Int) < 3) = true := decide_eq_true (by omega)
      have d33 : (m : Int) < 3 := by omega
      clear h3
      have g5 : Below w4.heap.size w4 (w4.alloc (.cells #[.int .i64 i, .int .i64 l, .bool an, .int .i64 ai, .string sa, .bool bn, .int .i64 bi, .string sb] 38)) := (Below.refl _ _).alloc (Nat.le_refl _) _
      have HO5 := Lib.hid (HO4.out.kept g5)
      have HB5 := Lib.hid (HB4.out.trans (g5.mono HB4.out.size))
      have HSR := Lib.hid (Dk.src_one (enc := Mf.pc) w4 ⟨i, l, ⟨an, ai, sa⟩, ⟨bn, bi, sb⟩⟩ #[.int .i64 i, .int .i64 l, .bool an, .int .i64 ai, .string sa, .bool bn, .int .i64 bi, .string sb] rfl 38)
      clear g5
      go_wp2_with (at_builtin; refine Mf.wpList_part [⟨i, l, ⟨an, ai, sa⟩, ⟨bn, bi, sb⟩⟩] HO5.out HB5.out.size (by have := HFL.out; simp only [List.length_singleton]; omega) HSR.out (.tmp 43) (.tmp 48) (by rfl) (by rfl) (by rfl) (by rfl) ?_; intro v6 w6 o6 g6; have HO6 := Lib.hid o6; have HB6 := Lib.hid (Mf.ow_below HB5.out HB5.out.size HO5.out g6); clear o6 g6)
      go_wp2
      go_roundw
      case rel => exact ⟨k + 1, _, HKL.out, by simp, HO6.out, by rw [List.length_append]; have := HFK.out; simp; omega, HF4.out, HB6.out⟩
      case measure => (have := HKL.out; simp [intOf]; omega)
     ·have d3 : decide ((m : Int) < 3) = false := decide_eq_false (by omega)
      have d33 : ¬ (m : Int) < 3 := by omega
      clear h3
      go_wp2
      go_roundw
      case rel => exact ⟨k + 1, F, HKL.out, by simp, HO4.out, Nat.le_succ_of_le HFK.out, HF.out, HB4.out⟩
      case measure => (have := HKL.out; simp [intOf]; omega)
    ·have d4 : decide (l < 4) = false := decide_eq_false h4
     clear h4
     go_wp2
     go_roundw
     case rel => exact ⟨k + 1, F, HKL.out, by simp, HO.out, Nat.le_succ_of_le HFK.out, HF.out, HB.out⟩
     case measure => (have := HKL.out; simp [intOf]; omega)
   ·have d0 : decide (0 ≤ l) = false := decide_eq_false h0
    clear h0
    go_wp2
    go_roundw
    case rel => exact ⟨k + 1, F, HKL.out, by simp, HO.out, Nat.le_succ_of_le HFK.out, HF.out, HB.out⟩
    case measure => (have := HKL.out; simp [intOf]; omega)
  ·have hki : ¬ (k : Int) < (E.length : Int) := by omega
   have HG := Lib.hid (HG1.out.trans (hB.mono HG1.out.size))
   have HCF := Lib.hid fun (W : World) (h : Mf.Ps W (.slice fa F.length fc) F) => Lv.calm_c _ F W h (by have := HFL.out; omega)
   obtain ⟨M, hM⟩ : ∃ M, M = F ++ Lv.four := ⟨_, rfl⟩
   have HMM := Lib.hid hM
   have HCM := Lib.hid fun (v : Value) (W : World) (h : Mf.Ps W v (F ++ Lv.four)) => Lv.calm_c v _ W h (by rw [List.length_append]; have := HFL.out; show F.length + 4 ≤ _; omega)
   have HPM := Lib.hid fun (v : Value) (W : World) (h : Mf.Ps W v (F ++ Lv.four)) => Lv.pick_some v _ 0 W h (by rw [List.length_append]; have := HFL.out; show F.length + 4 ≤ _; omega) (Lv.more_cw F)
   rw [Lv.few_calm hF] at HCF
   rw [Lv.more_cw F] at HCM
   rw [← hM] at HCM HPM
   clear hM
   simp only [Option.isNone_none, Option.isNone_some] at HCF HCM
   have HPF := Lib.hid hO.ps
   have HSF := Lib.hid hO.ps.src
   clear hk hO hB hF hFk HB HO HF HFK
   go_wp2_with (first
    | (at_builtin
       refine Mf.wpList_part F (Mf.Ow.nil wr.heap.size wr) (Nat.le_refl _) (by have := HFL.out; simp only [List.length_nil]; omega) HSF.out _ _ (by rfl) (by rfl) (by rfl) (by rfl) ?_
       intro v6 w6 o6 g6
       rw [List.nil_append] at o6
       have hbl6 : Below wr.heap.size wr w6 := g6.below (Nat.le_refl _) (fun b hb => by cases hb)
       have g7 : Below w6.heap.size w6 (w6.alloc (.cells Lv.fourC 38)) := (Below.refl _ _).alloc (Nat.le_refl _) _
       have HB6 := Lib.hid hbl6
       have HB7 := Lib.hid (hbl6.trans (g7.mono hbl6.size))
       have HO7 := Lib.hid (o6.kept g7)
       have HS7 := Lib.hid (Lv.four_lit w6).ps.src
       unfold Lv.fourC at HB7 HO7 HS7
       obtain ⟨pa, pc, rfl⟩ := Lv.Ow.sl o6
       clear o6 g6 hbl6 g7)
    | (at_builtin
       refine Mf.wpList_part Lv.four HO7.out HB7.out.size (by have := HFL.out; show F.length + 4 ≤ _; omega) HS7.out _ _ (by rfl) (by rfl) (by rfl) (by rfl) ?_
       intro v8 w8 o8 g8
       rw [← HMM.out] at o8
       have HB8 := Lib.hid (Mf.ow_below HB7.out HB7.out.size HO7.out g8)
       have HP8 := Lib.hid o8.ps
       obtain ⟨ma, mc, rfl⟩ := Lv.Ow.sl o8
       clear o8 g8)
    | fail)
   refine (HPM.out _ _ HP8.out).mono ?_
   rintro e w9 ⟨a, n, c, rfl, hid, g9⟩
   have HB9 := Lib.hid (HB8.out.trans (g9.mono HB8.out.size))
   have HPF9 := Lib.hid (HPF.out.kept HB9.out)
   have HPM9 := Lib.hid (HP8.out.kept g9)
   generalize Lv.bt M 0 = bt
   clear hid g9
   have gb : Below w9.heap.size w9 (w9.alloc (.cells #[.int .i64 0, .int .i64 1, .slice a n c, .bool bt] 27)) := (Below.refl _ _).alloc (Nat.le_refl _) _
   have HQ := Lib.hid (Lv.box4 w9 (.int .i64 0) (.int .i64 1) (.slice a n c) (.bool bt) 27)
   have HPF10 := Lib.hid (HPF9.out.kept gb)
   have HPM10 := Lib.hid (HPM9.out.kept gb)
   have HB10 := Lib.hid (HB9.out.trans (gb.mono HB9.out.size))
   clear gb
   go_upto_region 12 with (fail)
   obtain ⟨b, hb⟩ : ∃ b, b = w9.heap.size := ⟨_, rfl⟩
   rw [← hb] at HQ ⊢
   generalize World.alloc _ _ = w10 at HPF10 HPM10 HB10 HQ ⊢
   clear hb
   go_wp2_with fail
   refine (HCF.out _ HPF10.out).mono ?_
   rintro e w11 ⟨rfl, g11⟩
   have HB11 := Lib.hid (HB10.out.trans (g11.mono HB10.out.size))
   have HPM11 := Lib.hid (HPM10.out.kept g11)
   have HQ11 := Lib.hid ((g11.block b (lt_of_block HQ.out)).trans HQ.out)
   clear g11
   go_wp2_with fail
   refine (HCM.out _ _ HPM11.out).mono ?_
   rintro e w12 ⟨rfl, g12⟩
   have HB12 := Lib.hid (HB11.out.trans (g12.mono HB11.out.size))
   obtain ⟨⟨y0, y1, y2, y3⟩, -⟩ := Lv.quad ((g12.block b (lt_of_block HQ11.out)).trans HQ11.out)
   clear g12
   go_wp2
   go_ret
   exact ⟨rfl, HG.out.trans (HB12.out.mono HG.out.size)⟩
end
section
open Go.RowKit
structure Kn.C where
 k : Int
 null : Bool
abbrev Kn.C.val (c : Kn.C) : Value := .agg #[.int .i64 c.k, .bool c.null]
structure Kn.Cols (w : World) (v : Value) (l : List Kn.C) : Prop where
 is : ∃ a c, v = .slice a l.length c ∧ (l = [] ∨ ∃ b o, a = some ⟨b, o, none⟩ ∧ b < w.heap.size ∧ l.length ≤ 9223372036854775807 ∧
  ∀ i x, l[i]? = some x → w.cell? ⟨b, o + i * 2, none⟩ = some (.int .i64 x.k) ∧ w.cell? ⟨b, o + i * 2 + 1, none⟩ = some (.bool x.null))
structure Kn.Vals (w : World) (v : Value) (l : List Kn.V) : Prop where
 is : ∃ a c, v = .slice a l.length c ∧ (l = [] ∨ ∃ b o, a = some ⟨b, o, none⟩ ∧ b < w.heap.size ∧ l.length ≤ 9223372036854775807 ∧ ∀ i x, l[i]? = some x → Kn.At w b (o + i * 3) x)
theorem Kn.Cols.later {w w' : World} {v : Value} {l : List Kn.C} (h : Kn.Cols w v l) (g : Below w.heap.size w w') : Kn.Cols w' v l := by
 obtain ⟨a, c, rfl, h⟩ := h
 refine ⟨a, c, rfl, ?_⟩
 rcases h with h | ⟨b, o, rfl, hlt, hm, h⟩
 ·exact .inl h
 ·refine .inr ⟨b, o, rfl, Nat.lt_of_lt_of_le hlt g.size, hm, fun i x hx => ?_⟩
  exact ⟨(g.cell (p := ⟨b, o + i * 2, none⟩) hlt).trans (h i x hx).1, (g.cell (p := ⟨b, o + i * 2 + 1, none⟩) hlt).trans (h i x hx).2⟩
theorem Kn.Vals.later {w w' : World} {v : Value} {l : List Kn.V} (h : Kn.Vals w v l) (g : Below w.heap.size w w') : Kn.Vals w' v l := by
 obtain ⟨a, c, rfl, h⟩ := h
 refine ⟨a, c, rfl, ?_⟩
 rcases h with h | ⟨b, o, rfl, hlt, hm, h⟩
 ·exact .inl h
 ·exact .inr ⟨b, o, rfl, Nat.lt_of_lt_of_le hlt g.size, hm, fun i x hx => (h i x hx).later g⟩
def Kn.C.good (c : Kn.C) : Bool := !((c.k != 1) && (c.k != 2))
def Kn.headOk : List Kn.C → Bool
 | [] => true
 | c :: _ => !c.null
def Kn.right (l : List Kn.C) : Bool := decide (1 ≤ l.length) && decide (l.length ≤ 6) && Kn.headOk l && l.all Kn.C.good
def Kn.fits (c : Kn.C) (v : Kn.V) : Bool :=
 if v.null = true then c.null && (v.n == 0) && (v.s.toList == (⟨#[]⟩ : ByteArray).toList)
 else if c.k = 1 then v.s.toList == (⟨#[]⟩ : ByteArray).toList
 else (v.n == 0) && decide (v.s.size ≤ 64)
end
section
open Go.RowKit
def Kn.fitsAll : List Kn.C → List Kn.V → Bool
 | c :: cs, v :: vs => Kn.fits c v && Kn.fitsAll cs vs
 | _, _ => true
def Kn.fitsE (s : List Kn.C) (r : List Kn.V) : Int := if Kn.right s = true then (if r.length = s.length then (if Kn.fitsAll s r = true then 0 else 6) else 7) else 4
def Kn.keyE (s : List Kn.C) (k : Kn.V) : Int := if Kn.right s = true then (match s with | [] => 4 | c :: _ => if Kn.fits c k = true then 0 else 6) else 4
end
section
open Go.RowKit
def Kn.isK (k : Int) (v : Kn.V) : Bool :=
 if v.null = true then (v.n == 0) && (v.s.toList == (⟨#[]⟩ : ByteArray).toList)
 else if k = 1 then v.s.toList == (⟨#[]⟩ : ByteArray).toList
 else (k == 2) && ((v.n == 0) && decide (v.s.size ≤ 64))
end
section
open Go.RowKit
end
section
open Go.RowKit
def Kn.sameV (a b : Kn.V) : Bool := (a.null == b.null) && ((a.n == b.n) && (a.s.toList == b.s.toList))
def Kn.sameR : List Kn.V → List Kn.V → Bool
 | a :: l, b :: m => Kn.sameV a b && Kn.sameR l m
 | [], [] => true
 | _, _ => false
end
section
open Go.RowKit
structure Kn.R where
 from_ : Bool
 til : Bool
 lo : Kn.V
 hi : Kn.V
abbrev Kn.R.val (r : Kn.R) : Value := .agg #[.bool r.from_, .bool r.til, .bool r.lo.null, .int .i64 r.lo.n, .string r.lo.s, .bool r.hi.null, .int .i64 r.hi.n, .string r.hi.s]
structure Kn.RAt (w : World) (b : Nat) (r : Kn.R) : Prop where
 c0 : w.cell? ⟨b, 0, none⟩ = some (.bool r.from_)
 c1 : w.cell? ⟨b, 1, none⟩ = some (.bool r.til)
 lo : Kn.At w b 2 r.lo
 hi : Kn.At w b 5 r.hi
theorem Kn.RAt.later {w w' : World} {b : Nat} {r : Kn.R} (h : Kn.RAt w b r) (g : Below w.heap.size w w') : Kn.RAt w' b r :=
 ⟨(g.cell (p := ⟨b, 0, none⟩) h.lo.lt).trans h.c0, (g.cell (p := ⟨b, 1, none⟩) h.lo.lt).trans h.c1, h.lo.later g, h.hi.later g⟩
theorem Kn.RAt.new (w : World) (r : Kn.R) (t : TypeId) : Kn.RAt (w.alloc (.cells #[.bool r.from_, .bool r.til, .bool r.lo.null, .int .i64 r.lo.n, .string r.lo.s, .bool r.hi.null, .int .i64 r.hi.n, .string r.hi.s] t)) w.heap.size r :=
 ⟨Kn.cell_new w _ t 0 _ rfl, Kn.cell_new w _ t 1 _ rfl, ⟨Kn.cell_new w _ t 2 _ rfl, Kn.cell_new w _ t 3 _ rfl, Kn.cell_new w _ t 4 _ rfl⟩, ⟨Kn.cell_new w _ t 5 _ rfl, Kn.cell_new w _ t 6 _ rfl, Kn.cell_new w _ t 7 _ rfl⟩⟩
theorem Kn.RAt.alloc {w : World} {b : Nat} {r : Kn.R} (h : Kn.RAt w b r) (x : Obj) : Kn.RAt (w.alloc x) b r := h.later ((Below.refl _ w).alloc (Nat.le_refl _) x)
def Kn.inR (r : Kn.R) (k : Kn.V) : Bool := (!r.from_ || !decide (Kn.cmp k r.lo < 0)) && (!r.til || decide (Kn.cmp k r.hi < 0))
end
section
open Go.RowKit Go.ChangeShapes Go.WideShapes Go.ChangeAt Go.Deep
section
variable {H : Type} {enc : TypeId × Value → H} {W : World}
def Kn.rd (x : Kn.V) : DataW H := .agg [.lit (.bool x.null), .lit (.int .i64 x.n), .lit (.string x.s.data.toList)]
set_option maxRecDepth 100000 in
theorem Kn.open_cells {fuel : Nat} {cs : List Value} {z : DataW H × List MemPlace} (h : DataW.trod enc Try.prog W 0 (fun _ => true) true fuel 36 cs = some z) :
 ∃ x : Kn.V, cs = [.bool x.null, .int .i64 x.n, .string x.s] ∧ z.1 = Kn.rd x := by
 obtain ⟨xs, f', _, hx, hcl, hxl, hg⟩ := DataW.trod_struct Try.underlying36 h
 have hC : Try.prog.cellsOf 36 = 3 := by kernel_rfl
 have i3 : Try.prog.cellsOf 4 = 1 := by kernel_rfl
 have i2 : Try.prog.cellsOf 2 = 1 := by kernel_rfl
 have i9 : Try.prog.cellsOf 9 = 1 := by kernel_rfl
 rw [hC] at hcl
 match cs, hcl, xs, hxl with
 | [c0, c1, c2], _, [y0, y1, y2], _ =>
   have g0 : DataW.trod enc Try.prog W 0 (fun _ => true) true f' 4 ((List.drop 0 [c0, c1, c2]).take (Try.prog.cellsOf 4)) = some y0 := hg 0 _ rfl
   have g1 : DataW.trod enc Try.prog W 0 (fun _ => true) true f' 2 ((List.drop 1 [c0, c1, c2]).take (Try.prog.cellsOf 2)) = some y1 := hg 1 _ rfl
   have g2 : DataW.trod enc Try.prog W 0 (fun _ => true) true f' 9 ((List.drop 2 [c0, c1, c2]).take (Try.prog.cellsOf 9)) = some y2 := hg 2 _ rfl
   rw [i3] at g0
   rw [i2] at g1
   rw [i9] at g2
   obtain ⟨k, e0, r0⟩ := DataW.trod_bool Try.underlying4 (show DataW.trod enc Try.prog W 0 (fun _ => true) true f' 4 [c0] = some y0 from g0)
   obtain ⟨n, e1, r1, w1⟩ := DataW.trod_int Try.underlying2 (show DataW.trod enc Try.prog W 0 (fun _ => true) true f' 2 [c1] = some y1 from g1)
   obtain ⟨s, e2, r2, _⟩ := DataW.trod_string Try.underlying9 (show DataW.trod enc Try.prog W 0 (fun _ => true) true f' 9 [c2] = some y2 from g2)
   simp only [List.cons.injEq, and_true] at e0 e1 e2
   subst e0 e1 e2 r0 r1 r2
   exact ⟨⟨k, n, s⟩, rfl, by rw [hx]; rfl⟩
end
end
end Go.Proofs.Ytodeodndjkkkbaa
