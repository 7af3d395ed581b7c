import Derived.Test.YteaglaijkafphaaDoorZAH
import Derived.Deep.RegionHeld3
import Derived.Deep.RegionLaw
import Derived.Deep.OwnRows
import Derived.Test.YteaglaijkafphaaDoorZAO
import Derived.Test.YteaglaijkafphaaDoorZAP
import Derived.Test.YteaglaijkafphaaDoorZAF
import Derived.Test.YteaglaijkafphaaDoorZAJ
import Derived.Deep.Slices
import Derived.Deep.Fields
import Derived.ChangeSame
import Derived.ProofKit
import Derived.OpenShut
import Derived.SizedLaws
import Derived.Test.YteaglaijkafphaaDoorRows
import Derived.Below
import Derived.Carry
namespace Go.Proofs.YteaglaijkafphaaDoor
open Go.RowKit
theorem Mf.cut_len {L : List Mf.P} {k : Nat} (h : k < L.length) : (L.take k ++ L.drop (k + 1)).length + 1 = L.length := by
 rw [List.length_append, List.length_take, List.length_drop]
 omega
theorem Mf.atV_some {L : List Mf.P} {d : Int} (h : Mf.has L d = true) : ∃ k : Nat, Mf.atV L d = (k : Int) ∧ Mf.at_ L d = some k ∧ k < L.length := by
 unfold Mf.atV
 cases hk : Mf.at_ L d with
 | none => rw [(Mf.at_none L d).1 hk] at h; cases h
 | some k => exact ⟨k, rfl, rfl, Mf.at_lt hk⟩
theorem Mf.atV_no {L : List Mf.P} {d : Int} (h : Mf.has L d = false) : Mf.atV L d = -1 := by
 unfold Mf.atV
 rw [(Mf.at_none L d).2 h]
def Mf.vlen : Value → Nat
 | .slice _ n _ => n
 | _ => 0
theorem Mf.Ow.some {base : Nat} {w : World} {v : Value} {L : List Mf.P} (h : Mf.Ow base w v L) (hl : 0 < L.length) : ∃ g c, v = .slice (some ⟨g, 0, none⟩) L.length c ∧ L.length ≤ c ∧ c ≤ maxLen ∧ g < w.heap.size ∧ ∀ i j x, L[i]? = some x → j < 8 → w.cell? ⟨g, i * 8 + j, none⟩ = (Mf.pc x)[j]? := by
 rcases Dk.Own.form h with ⟨_, rfl⟩ | ⟨g, c, e, h1, h2, _, h4⟩
 ·simp at hl
 ·subst e
  exact ⟨g, c, rfl, h1, h2, h4, fun i j x hi hj => Dk.Own.cell Mf.pc_len h rfl hi hj⟩
theorem Mf.Ow.len {base : Nat} {w : World} {v : Value} {L : List Mf.P} (h : Mf.Ow base w v L) : Mf.vlen v = L.length := by
 rcases Dk.Own.form h with ⟨rfl, rfl⟩ | ⟨g, c, rfl, _⟩ <;> rfl
theorem Mf.below_reg2 {w w' : World} (h : ∃ p : Regrown, w' = Sort.grow (redrawn w p.d) p.os) : Below w.heap.size w w' := by
 obtain ⟨p, rfl⟩ := h
 exact below_regrown w p.d p.os
set_option maxHeartbeats 16000000 in
set_option maxRecDepth 100000 in
theorem Mf.rapply_c (vs vd va : Value) (s : Mf.S) (e : Mf.E) (w : World) (hs : Mf.Ps w vs s.parts) (hd : Mf.Is w vd e.drop) (ha : Mf.Ps w va e.add) (hl : s.parts.length ≤ 1000000000000) :
 Calls Tryd.prog 19 #[Mf.sv vs s, .agg #[vd, va, .int .i64 e.floor, .int .i64 e.next]] w (Mf.GotS w (Mf.ap s e)) := by
 have HNO : Hid (Mf.right e = false ∨ e.floor < s.floor ∨ e.next < s.next → Mf.ap s e = none) := Lib.hid Mf.ap_not
 have HIS := Lib.hid fun h1 h2 h3 => Mf.ap_is (s := s) (e := e) h1 h2 h3
 have HRT := Lib.hid ((Mf.right_iff e).1)
 obtain ⟨L, f0, n0⟩ := s
 obtain ⟨D, A, fl, nx⟩ := e
 unfold Mf.sv
 simp only at hs hd ha hl HNO HIS HRT ⊢
 obtain ⟨ap, cp, rfl, -⟩ := hs.form
 obtain ⟨ad, cd, rfl, -, hd2⟩ := id hd
 obtain ⟨aa, ca, rfl, -⟩ := ha.form
 obtain ⟨wa, hwa⟩ : ∃ wa, wa = w.alloc (.cells #[.slice ap L.length cp, .int .i64 f0, .int .i64 n0] 25) := ⟨_, rfl⟩
 obtain ⟨wb, hwb⟩ : ∃ wb, wb = wa.alloc (.cells #[.slice ad D.length cd, .slice aa A.length ca, .int .i64 fl, .int .i64 nx] 37) := ⟨_, rfl⟩
 obtain ⟨wc, hwc⟩ : ∃ wc, wc = wb.alloc (.cells #[.slice none 0 0, .int .i64 0, .int .i64 0] 25) := ⟨_, rfl⟩
 have ga : Below w.heap.size w wa := by rw [hwa]; exact (Below.refl _ _).alloc (Nat.le_refl _) _
 have gb : Below wa.heap.size wa wb := by rw [hwb]; exact (Below.refl _ _).alloc (Nat.le_refl _) _
 have gc : Below wb.heap.size wb wc := by rw [hwc]; exact (Below.refl _ _).alloc (Nat.le_refl _) _
 have sa : wa.heap.size = w.heap.size + 1 := by rw [hwa]; exact World.size_alloc ..
 have sb : wb.heap.size = w.heap.size + 2 := by rw [hwb, World.size_alloc, sa]
 have sc : wc.heap.size = w.heap.size + 3 := by rw [hwc, World.size_alloc, sb]
 have gbc : Below wa.heap.size wa wc := gb.trans (gc.mono gb.size)
 have gac : Below w.heap.size w wc := ga.trans (gbc.mono ga.size)
 have hSA : Mf.SA wc w.heap.size (.slice ap L.length cp) f0 n0 := by
  have := Mf.SA.new w (.slice ap L.length cp) f0 n0 25
  rw [← hwa] at this
  exact this.kept gbc
 have hEA : Mf.EA wc (w.heap.size + 1) (.slice ad D.length cd) (.slice aa A.length ca) fl nx := by
  have := Mf.EA.new wa (.slice ad D.length cd) (.slice aa A.length ca) fl nx 37
  rw [← hwb, sa] at this
  exact this.kept gc
 have hYR : wc.heap[w.heap.size + 2]? = some (.cells #[.slice none 0 0, .int .i64 0, .int .i64 0] 25 (0, 0)) := by
  rw [hwc, ← sb]; exact heap_alloc_new wb _
 have hPs := hs.kept gac
 have hPa := ha.kept gac
 have CR := Lib.hid fun (W : World) (g : Below wc.heap.size wc W) => Mf.rright_c _ _ ⟨D, A, fl, nx⟩ W ((hd.kept gac).kept g) (hPa.kept g)
 simp only at CR
 have HD : Hid (∀ W, Below wc.heap.size wc W → ∀ (i : Nat) (x : Int), D[i]? = some x → ∃ b o, ad = some ⟨b, o, none⟩ ∧ W.cell? ⟨b, o + i, none⟩ = some (.int .i64 x)) := Lib.hid fun W hW i x hx => by
  rcases hd2 with ⟨h0, -⟩ | ⟨b, o, cs, fr, rfl, -, hbb, h⟩
  ·rw [h0] at hx; cases hx
  ·exact ⟨b, o, rfl, ((gac.trans (hW.mono gac.size)).cell (p := ⟨b, o + i, none⟩) (lt_of_block hbb)).trans (Mf.Is.num h hx)⟩
 have HSA := Lib.hid hSA
 have HEA := Lib.hid hEA
 have HYR := Lib.hid hYR
 have HPS := Lib.hid hPs
 have HPA := Lib.hid hPa
 have HB := Lib.hid gac
 have HSC := Lib.hid sc
 have HL := Lib.hid hl
 clear hs hd ha hl hd2 ga gb gc gbc gac hPs hPa sa hYR sc
 generalize Mf.ap ⟨L, f0, n0⟩ ⟨D, A, fl, nx⟩ = RES at HNO HIS ⊢
 generalize hRR : Mf.right ⟨D, A, fl, nx⟩ = R at CR HNO HIS HRT
 clear hRR
 obtain ⟨s0, s1, s2⟩ := hSA
 obtain ⟨e0, e1, e2, e3⟩ := hEA
 have hways : (R = false) ∨ (R = true ∧ fl < f0) ∨ (R = true ∧ ¬ fl < f0 ∧ nx < n0) ∨ (R = true ∧ ¬ fl < f0 ∧ ¬ nx < n0) := by
  cases R
  ·exact .inl rfl
  ·by_cases h1 : fl < f0
   ·exact .inr (.inl ⟨rfl, h1⟩)
   ·by_cases h2 : nx < n0
    ·exact .inr (.inr (.inl ⟨rfl, h1, h2⟩))
    ·exact .inr (.inr (.inr ⟨rfl, h1, h2⟩))
 have HBAD : Hid (RES = none → ∀ W, Below wc.heap.size wc W → Mf.GotS w RES (.returned (.tuple #[.agg #[.slice none 0 0, .int .i64 0, .int .i64 0], .int .i64 8])) (((W.setCell ⟨w.heap.size + 2, 0, none⟩ (.slice none 0 0)).setCell ⟨w.heap.size + 2, 1, none⟩ (.int .i64 0)).setCell ⟨w.heap.size + 2, 2, none⟩ (.int .i64 0))) := Lib.hid fun h W g =>
  Mf.GotS.bad h (Mf.below3 (HB.out.trans (g.mono HB.out.size)) (by omega) _ _ _)
 rcases hways with rfl | ⟨rfl, h1⟩ | ⟨rfl, h1, h2⟩ | ⟨rfl, h1, h2⟩
 ·have HN := Lib.hid (HBAD.out (HNO.out (.inl rfl)))
  go_enter Tryd.func19, Tryd.ntmps19
  go_wp2_with fail
  rw [← hwa, ← hwb, ← hwc]
  with_reducible refine (CR.out _ (Below.refl _ _)).mono ?_
  rintro e w1 ⟨rfl, g1⟩
  have HF := Lib.hid (HN.out w1 g1)
  obtain ⟨⟨y0, y1, y2⟩, z0, z1, z2⟩ := Mf.three ((g1.block (w.heap.size + 2) (by have := HSC.out; omega)).trans HYR.out)
  clear g1 s0 s1 s2 e0 e1 e2 e3
  go_wp2
  (try simp only [Exit.inBlock, Exit.then])
  refine bodyPost_ret (v := .tuple #[.agg #[.slice none 0 0, .int .i64 0, .int .i64 0], .int .i64 8]) ?_ rfl HF.out
  rw [results_cell_tmp rfl]
  go_simp
 ·have HN := Lib.hid (HBAD.out (HNO.out (.inr (.inl h1))))
  go_enter Tryd.func19, Tryd.ntmps19
  go_wp2_with fail
  rw [← hwa, ← hwb, ← hwc]
  with_reducible refine (CR.out _ (Below.refl _ _)).mono ?_
  rintro e w1 ⟨rfl, g1⟩
  have HF := Lib.hid (HN.out w1 g1)
  obtain ⟨⟨y0, y1, y2⟩, z0, z1, z2⟩ := Mf.three ((g1.block (w.heap.size + 2) (by have := HSC.out; omega)).trans HYR.out)
  clear s0 s1 s2 e0 e1 e2 e3
  obtain ⟨s0, s1, s2⟩ := HSA.out.kept g1
  obtain ⟨e0, e1, e2, e3⟩ := HEA.out.kept g1
  clear g1
  go_wp2
  (try simp only [Exit.inBlock, Exit.then])
  refine bodyPost_ret (v := .tuple #[.agg #[.slice none 0 0, .int .i64 0, .int .i64 0], .int .i64 8]) ?_ rfl HF.out
  rw [results_cell_tmp rfl]
  go_simp
 ·have HN := Lib.hid (HBAD.out (HNO.out (.inr (.inr h2))))
  go_enter Tryd.func19, Tryd.ntmps19
  go_wp2_with fail
  rw [← hwa, ← hwb, ← hwc]
  with_reducible refine (CR.out _ (Below.refl _ _)).mono ?_
  rintro e w1 ⟨rfl, g1⟩
  have HF := Lib.hid (HN.out w1 g1)
  obtain ⟨⟨y0, y1, y2⟩, z0, z1, z2⟩ := Mf.three ((g1.block (w.heap.size + 2) (by have := HSC.out; omega)).trans HYR.out)
  clear s0 s1 s2 e0 e1 e2 e3
  obtain ⟨s0, s1, s2⟩ := HSA.out.kept g1
  obtain ⟨e0, e1, e2, e3⟩ := HEA.out.kept g1
  clear g1
  go_wp2
  (try simp only [Exit.inBlock, Exit.then])
  refine bodyPost_ret (v := .tuple #[.agg #[.slice none 0 0, .int .i64 0, .int .i64 0], .int .i64 8]) ?_ rfl HF.out
  rw [results_cell_tmp rfl]
  go_simp
 ·have HRES := Lib.hid (HIS.out rfl h1 h2)
  obtain ⟨r1, r2, r3, r4, r5, r6⟩ := HRT.out rfl
  have HN : Hid (D.length ≤ 1000 ∧ A.length ≤ 1000) := Lib.hid ⟨r1, r2⟩
  clear HNO HIS HRT r1 r2 r3 r4 r5 r6
  go_enter Tryd.func19, Tryd.ntmps19
  go_wp2_with fail
  rw [← hwa, ← hwb, ← hwc]
  with_reducible refine (CR.out _ (Below.refl _ _)).mono ?_
  rintro e w1 ⟨rfl, g1⟩
  have HG1 := Lib.hid g1
  clear s0 s1 s2 e0 e1 e2 e3
  obtain ⟨s0, s1, s2⟩ := HSA.out.kept g1
  obtain ⟨e0, e1, e2, e3⟩ := HEA.out.kept g1
  have hsrc := (HPS.out.kept g1).src
  have hsz1 := g1.size
  clear g1 CR hwa hwb hwc
  go_wp2_with (at_builtin; refine Mf.wpList_part L (Mf.Ow.nil wc.heap.size _) hsz1 (by have := HL.out; simp only [List.length_nil]; omega) hsrc (.const (.slice none 0 0)) (.tmp 29) (by rfl) (by rfl) (by rfl) (by rfl) ?_; intro v2 w2 o2 g2)
  have HO2 : Hid (Mf.Ow wc.heap.size w2 v2 L) := Lib.hid o2
  have HG2 := Lib.hid (Mf.ow_below HG1.out hsz1 (Mf.Ow.nil wc.heap.size w1) g2)
  have HDL : Hid ((D.length : Int) ≤ 1000 ∧ (A.length : Int) ≤ 1000) := Lib.hid (by have := HN.out; omega)
  have CAT := Lib.hid fun (v : Value) (M : List Mf.P) (d : Int) (W : World) (h : Mf.Ps W v M) (hm : M.length ≤ 1000000000000) => Mf.rat_c v M d W h (by omega)
  clear o2 g2 hsrc hsz1 s0 s1 s2 e0 e1 e2 e3
  go_wp2_with fail
  go_loopw [6, 7] (fun v i wr => ∃ (k : Nat) (M : List Mf.P), k ≤ D.length ∧ i = .int .i64 k ∧ Mf.Ow wc.heap.size wr v M ∧ Below wc.heap.size wc wr ∧ M.length ≤ L.length ∧ Mf.dr M (D.drop k) = Mf.dr L D) (fun _ i _ => D.length - (intOf i).toNat)
  case atStart => exact ⟨0, L, Nat.zero_le _, rfl, HO2.out, HG2.out, Nat.le_refl _, rfl⟩
  case round =>
   obtain ⟨k, M, hk, rfl, hO, hg, hml, hdr⟩ := hrel
   have hk0 : (0 : Int) ≤ (k : Int) := by omega
   have HO := Lib.hid hO
   have HG := Lib.hid hg
   have HML := Lib.hid hml
   have HDR := Lib.hid hdr
   obtain ⟨e0, e1, e2, e3⟩ := HEA.out.kept hg
   have hdl9 := HDL.out.1
   by_cases hkl : k < D.length
   ·have hx := List.getElem?_eq_getElem hkl
    generalize D[k] = d at hx
    obtain ⟨b, o, rfl, c0⟩ := HD.out wr hg k d hx
    have HX := Lib.hid hx
    have HST := Lib.hid (Mf.dr_step (L := M) hx)
    have hki : (k : Int) < (D.length : Int) := by omega
    have cat := CAT.out _ M d wr hO.ps (by have := HL.out; have := HML.out; omega)
    clear hx hg hml hdr
    cases hh : Mf.has M d
    ·rw [Mf.atV_no hh] at cat
     have HF := Lib.hid (HBAD.out (by rw [HRES.out, ← HDR.out, HST.out, hh]; rfl) wr HG.out)
     obtain ⟨⟨y0, y1, y2⟩, z0, z1, z2⟩ := Mf.three ((HG.out.block (w.heap.size + 2) (by have := HSC.out; omega)).trans HYR.out)
     clear hh hO
     go_wp2_with fail
     with_reducible refine cat.mono ?_
     rintro e w3 ⟨rfl, h9⟩
     subst w3
     go_wp2
     (try simp only [Exit.inBlock, Exit.then])
     refine bodyPost_ret (v := .tuple #[.agg #[.slice none 0 0, .int .i64 0, .int .i64 0], .int .i64 8]) ?_ rfl HF.out
     rw [results_cell_tmp rfl]
     go_simp
    ·obtain ⟨q0, e9, -, -⟩ := Mf.atV_some hh
     rw [e9] at cat
     have HNX : Hid (Mf.dr (Mf.wo M d) (D.drop (k + 1)) = Mf.dr L D) := Lib.hid (by rw [← HDR.out, HST.out, hh]; rfl)
     have hq0 : ¬ ((q0 : Nat) : Int) < 0 := by omega
     clear hh e9 HST HDR
     go_wp2_with fail
     with_reducible refine cat.mono ?_
     rintro e w3 ⟨rfl, h9⟩
     subst w3
     clear cat
     go_wp2_with fail
     clear hq0
     go_loopw [6] (fun v w3 => ∃ M2 : List Mf.P, Mf.Ow wc.heap.size w3 v M2 ∧ Below wc.heap.size wc w3 ∧ M2.length ≤ M.length ∧ Mf.wo M2 d = Mf.wo M d) (fun v _ => Mf.vlen v)
     case atStart => exact ⟨M, hO, HG.out, Nat.le_refl _, rfl⟩
     case round =>
      obtain ⟨M2, hO2, hg2, hml2, hwo⟩ := hrel
      clear e0 e1 e2 e3 c0 hO
      obtain ⟨e0, e1, e2, e3⟩ := HEA.out.kept hg2
      obtain ⟨b', o', e9, c0⟩ := HD.out wr hg2 k d HX.out
      obtain ⟨rfl, rfl⟩ : b = b' ∧ o = o' := by simpa using e9
      clear e9
      have HO2 := Lib.hid hO2
      have HG2 := Lib.hid hg2
      have HML2 := Lib.hid hml2
      have HWO := Lib.hid hwo
      have cat := CAT.out _ M2 d wr hO2.ps (by have := HL.out; have := HML.out; omega)
      cases hh : Mf.has M2 d
      ·rw [Mf.atV_no hh] at cat
       have HEQ : Hid (M2 = Mf.wo M d) := Lib.hid (by rw [← hwo, Mf.wo_none hh])
       clear hh hO2 hg2 hml2 hwo
       go_wp2_with fail
       with_reducible refine cat.mono ?_
       rintro e w3 ⟨rfl, h9⟩
       subst w3
       clear cat
       go_wp2
       go_roundw
       case rel => exact ⟨k + 1, M2, by omega, by simp, HO2.out, HG2.out, Nat.le_trans HML2.out HML.out, by rw [HEQ.out]; exact HNX.out⟩
       case measure => simp [intOf]; omega
      ·obtain ⟨q2, e9, hat, hql⟩ := Mf.atV_some hh
       rw [e9] at cat
       obtain ⟨g, c, rfl, hc1, hc2, hgl, hcell⟩ := hO2.some (by omega)
       have hq2 : (0 : Int) ≤ ((q2 : Nat) : Int) := by omega
       have hm9 : M2.length ≤ 1000000000000 := by have := HL.out; have := HML.out; omega
       obtain ⟨q1, hq1⟩ : ∃ q1, q1 = q2 + 1 := ⟨_, rfl⟩
       have hwr : IntKind.i64.wrap (((q2 : Nat) : Int) + 1) = ((q1 : Nat) : Int) := by rw [IntKind.wrap_i64]; omega
       have HCUT : Hid (Mf.wo (M2.take q2 ++ M2.drop q1) d = Mf.wo M d) := Lib.hid (by rw [hq1, Mf.wo_cut hat, hwo])
       have HCL : Hid ((M2.take q2 ++ M2.drop q1).length + 1 = M2.length) := Lib.hid (by rw [hq1]; exact Mf.cut_len hql)
       have HNM : Hid ((M2.take q2).length ≤ 1000000000000 ∧ (M2.drop q1).length ≤ 400000000000 ∨ (M2.take q2).length + (M2.drop q1).length ≤ 1000000000000) := Lib.hid (.inr (by rw [List.length_take, List.length_drop]; omega))
       have HCW : Hid (∀ W, Below wr.heap.size wr W → ∀ i j x, M2[i]? = some x → j < 8 → W.cell? ⟨g, i * 8 + j, none⟩ = (Mf.pc x)[j]?) := Lib.hid fun W hW i j x hi hj => (hW.cell (p := ⟨g, i * 8 + j, none⟩) hgl).trans (hcell i j x hi hj)
       have HSA : Hid (∀ W, Below wr.heap.size wr W → Dk.Src Mf.pc W (.slice (some ⟨g, 0, none⟩) q2 c) (M2.take q2)) := Lib.hid fun W hW => Dk.src_take Mf.pc_len (by decide) (HCW.out W hW) (by omega) c
       obtain ⟨oz, hoz, HSC2⟩ : ∃ oz, ((c = q1 ∧ oz = 0) ∨ (¬ c = q1 ∧ oz = q1 * 8)) ∧ Hid (∀ W, Below wr.heap.size wr W → ∀ m c, m = M2.length - q1 → Dk.Src Mf.pc W (.slice (some ⟨g, oz, none⟩) m c) (M2.drop q1)) := by
        by_cases hcq : c = q1
        ·exact ⟨0, .inl ⟨hcq, rfl⟩, Lib.hid fun W hW m c hm => Dk.src_none g 0 c m (List.drop_of_length_le (by omega)) (by omega)⟩
        ·exact ⟨q1 * 8, .inr ⟨hcq, rfl⟩, Lib.hid fun W hW m c hm => by rw [hm]; exact Dk.src_drop Mf.pc_len (by decide) rfl (HCW.out W hW) c⟩
       have HZ : Hid (∀ W, Below wr.heap.size wr W → W.cell? ⟨w.heap.size + 1, 0, none⟩ = some (.slice (some ⟨b, o, none⟩) D.length cd)) := Lib.hid fun W hW => (HEA.out.kept (HG2.out.trans (hW.mono HG2.out.size))).c0
       have HD0 : Hid (Below wr.heap.size wr wr.drew) := Lib.hid (Kn.below_drewN (Below.refl _ _) 1)
       have dq1 : ((q1 : Nat) : Int) ≤ (M2.length : Int) := by omega
       have dq2 : ((q2 : Nat) : Int) ≤ (c : Int) := by omega
       have dq3 : (M2.length : Int) ≤ (c : Int) := by omega
       have dq4 : ((q1 : Nat) : Int) ≤ (c : Int) := by omega
       have dq5 : (0 : Int) ≤ ((q1 : Nat) : Int) := by omega
       have dq6 : ¬ c = 0 := by omega
       have HMS : Hid (wc.heap.size ≤ wr.heap.size) := Lib.hid HG2.out.size
       clear hh e9 hat hcell hgl hO2 hg2 hml2 hwo HCW hq1 hm9 hc1 hc2 hql
       go_wp2_with fail
       with_reducible refine cat.mono ?_
       rintro e w3 ⟨rfl, h9⟩
       subst w3
       go_wp2_with fail
       with_reducible refine cat.mono ?_
       rintro e w3 ⟨rfl, h9⟩
       subst w3
       clear cat c0
       go_wp2_with fail
       generalize hK1 : M2.take q2 = K1 at HSA HNM HCUT HCL
       generalize hK3 : M2.drop q1 = K3 at HSC2 HNM HCUT HCL
       clear hK1 hK3
       rcases hoz with ⟨rfl, rfl⟩ | ⟨hcq, rfl⟩
       all_goals
        go_region_held3 (fun W => W.cell? ⟨w.heap.size + 1, 0, none⟩ = some (.slice (some ⟨b, o, none⟩) D.length cd))
         (first
          | exact HZ.out _ HD0.out
          | exact HZ.out _ B2.out
          | exact HZ.out _ B1.out)
         (first
          | (refine Mf.step_part (base := wr.heap.size) (M := [] ++ K1) K3 B1.out.size O1.out (by have := HNM.out; simp only [List.nil_append]; omega) _ _ _ (by rfl) (by rfl) (by rfl) (by rfl) (HSC2.out _ B1.out _ _ (by first | rfl | omega | simp)) ?_
             intro v2 wv2 o2 g2
             have B2 := Lib.hid (Mf.ow_below B1.out B1.out.size O1.out g2)
             have O2 := Lib.hid o2
             clear o2 g2)
          | (refine Mf.step_part (base := wr.heap.size) (M := []) K1 (show wr.heap.size ≤ wr.drew.heap.size from Nat.le_refl _) (Mf.Ow.nil _ _) (by have := HNM.out; simp only [List.length_nil]; omega) _ _ _ (by rfl) (by rfl) (by rfl) (by rfl) (HSA.out _ HD0.out) ?_
             intro v1 wv1 o1 g1
             have b1 := Mf.ow_below HD0.out (Nat.le_refl wr.heap.size) (Mf.Ow.nil wr.heap.size wr.drew) g1
             have B1 := Lib.hid b1
             have O1 := Lib.hid o1
             clear o1 g1 b1))
       all_goals
        have HO3 : Hid (Mf.Ow wc.heap.size wv2 v2 (K1 ++ K3)) := Lib.hid (World.ownsRow.mono O2.out HMS.out)
        have HG3 := Lib.hid (HG2.out.trans (B2.out.mono HG2.out.size))
        clear B1 O1 B2 O2
        go_wp2
        go_roundw
        case rel => exact ⟨_, HO3.out, HG3.out, by have := HCL.out; have := HML2.out; omega, HCUT.out⟩
        case measure => (have := HCL.out; rw [HO3.out.len]; show _ < M2.length; omega)
   ·obtain rfl : k = D.length := by omega
    have hki : ¬ (D.length : Int) < (D.length : Int) := by omega
    have HDM : Hid (Mf.dr L D = some M) := Lib.hid (by rw [← hdr, Mf.dr_end (by omega)])
    have hal9 := HDL.out.2
    have HPA2 := Lib.hid fun (W : World) (g : Below wc.heap.size wc W) (i : Nat) (p : Mf.P) (hp : A[i]? = some p) => (HPA.out.kept g).at_ hp
    clear hk hkl hk0 hdr hml hO hg HDR hdl9
    go_wp2_with fail
    clear e0 e1 e2 e3 hki
    have HOM := Lib.hid HO.out
    have HGM := Lib.hid HG.out
    go_loopw [6, 9] (fun v i wr => ∃ (k : Nat) (M2 : List Mf.P), k ≤ A.length ∧ i = .int .i64 k ∧ Mf.Ow wc.heap.size wr v M2 ∧ Below wc.heap.size wc wr ∧ M2.length ≤ L.length + k ∧ Mf.ad nx M2 (A.drop k) = Mf.ad nx M A) (fun _ i _ => A.length - (intOf i).toNat)
    case atStart => exact ⟨0, M, Nat.zero_le _, rfl, HOM.out, HGM.out, Nat.le_trans HML.out (Nat.le_add_right _ _), rfl⟩
    case round =>
     obtain ⟨k, M2, hk, rfl, hO, hg, hml, had⟩ := hrel
     have hk0 : (0 : Int) ≤ (k : Int) := by omega
     have HO := Lib.hid hO
     have HG := Lib.hid hg
     have HML2 := Lib.hid hml
     have HAD := Lib.hid had
     obtain ⟨e0, e1, e2, e3⟩ := HEA.out.kept hg
     by_cases hkl : k < A.length
     ·have hx := List.getElem?_eq_getElem hkl
      generalize A[k] = p at hx
      obtain ⟨b, o, rfl, hpa⟩ := HPA2.out wr hg k p hx
      have HPP := Lib.hid hpa
      have HPNW := Lib.hid fun (W : World) => Mf.PA.new W p 44
      obtain ⟨p0, p1, p2, p3, p4, p5, p6, p7⟩ := hpa
      have HST := Lib.hid (Mf.ad_step (n := nx) (L := M2) hx)
      have hki : (k : Int) < (A.length : Int) := by omega
      have HBD := Lib.hid fun (h : nx ≤ p.id ∨ Mf.has M2 p.id = true) => HBAD.out (by
       have e : Mf.ad nx M A = none := by rw [← HAD.out, HST.out, if_pos h]
       simp only [HRES.out, HDM.out, e])
      have HNX : Hid (¬ (nx ≤ p.id ∨ Mf.has M2 p.id = true) → Mf.ad nx (M2 ++ [p]) (A.drop (k + 1)) = Mf.ad nx M A) := Lib.hid fun h => by rw [← HAD.out, HST.out, if_neg h]
      have hm9 : M2.length ≤ 1000000001000 := by have := HL.out; have := HML2.out; have := HN.out; omega
      have CA := Lib.hid fun (W : World) (g : Below wr.heap.size wr W) => Mf.rat_c _ M2 p.id W (hO.ps.kept g) (by omega)
      have E1 := fun d os => cell_regrown e1 d os
      have E3 := fun d os => cell_regrown e3 d os
      have P0 := fun d os => cell_regrown p0 d os
      have HHAS : Hid ((Mf.has M2 p.id = false ∧ Mf.atV M2 p.id = -1) ∨ (Mf.has M2 p.id = true ∧ 0 ≤ Mf.atV M2 p.id)) := Lib.hid (by
       cases hh : Mf.has M2 p.id
       ·exact .inl ⟨rfl, Mf.atV_no hh⟩
       ·obtain ⟨q, e9, _⟩ := Mf.atV_some hh
        exact .inr ⟨rfl, by rw [e9]; omega⟩)
      have HM9 := Lib.hid hm9
      have CAR : Hid (∀ q : Regrown, Calls Tryd.prog 41 _ (Sort.grow (redrawn wr q.d) q.os) fun e w'' => e = .returned (.int .i64 (Mf.atV M2 p.id)) ∧ ∃ p : Regrown, w'' = Sort.grow (redrawn wr p.d) p.os) := Lib.hid fun q => Calls.regrown_of ((CA.out _ (below_regrown wr q.d q.os)).mono fun _ _ h => ⟨h.1, by rw [h.2]; exact Below.refl _ _⟩)
      obtain ⟨id, lv, ⟨an, ai, sa⟩, ⟨bn, bi, sb⟩⟩ := p
      unfold Mf.cs at HPNW
      simp only at p0 p1 p2 p3 p4 p5 p6 p7 HST HBD HNX CAR P0 HHAS HPNW HPP
      generalize Mf.atV M2 id = AV at CAR HHAS
      generalize Mf.has M2 id = HH at HBD HNX HHAS
      clear hx hg hml had hO hm9 CA HST
      by_cases hni : nx ≤ id
      ·have HF := Lib.hid (HBD.out (.inl hni))
       have hd1 : decide (nx ≤ id) = true := decide_eq_true hni
       go_wp2_with fail
       clear p0 p1 p2 p3 p4 p5 p6 p7 e0 e1 e2 e3
       refine wp_region_quiet_below (by kernel_rfl) (by kernel_rfl) ?_
       repeat (go_big_quiet_step (fail))
       refine wpQuiet_nil ?_
       intro wq hw'
       have hq := Mf.below_reg2 hw'
       have HFF := Lib.hid (HF.out wq (HG.out.trans (hq.mono HG.out.size)))
       obtain ⟨⟨y0, y1, y2⟩, z0, z1, z2⟩ := Mf.three (((HG.out.trans (hq.mono HG.out.size)).block (w.heap.size + 2) (by have := HSC.out; omega)).trans HYR.out)
       clear hw' hq E1 E3 P0
       go_wp2
       (try simp only [Exit.inBlock, Exit.then])
       refine bodyPost_ret (v := .tuple #[.agg #[.slice none 0 0, .int .i64 0, .int .i64 0], .int .i64 8]) ?_ rfl HFF.out
       rw [results_cell_tmp rfl]
       go_simp
      ·have hd1 : decide (nx ≤ id) = false := decide_eq_false hni
       rcases HHAS.out with ⟨rfl, rfl⟩ | ⟨rfl, hav⟩
       ·have HNY := Lib.hid (HNX.out (by rintro (h | h); exact hni h; cases h))
        go_wp2_with fail
        clear p0 p1 p2 p3 p4 p5 p6 p7 e0 e1 e2 e3
        refine wp_region_quiet_below (by kernel_rfl) (by kernel_rfl) ?_
        repeat (go_big_quiet_step (first | with_reducible exact CAR.out _))
        refine wpQuiet_nil ?_
        intro wq hw'
        have hq := Mf.below_reg2 hw'
        have hgq := HG.out.trans (hq.mono HG.out.size)
        have HGQ := Lib.hid hgq
        have HOQ := Lib.hid (HO.out.kept hq)
        obtain ⟨e0, e1, e2, e3⟩ := HEA.out.kept hgq
        obtain ⟨p0, p1, p2, p3, p4, p5, p6, p7⟩ := HPP.out.kept hq
        have hsq : wc.heap.size ≤ (wq.alloc (.cells #[.int .i64 id, .int .i64 lv, .bool an, .int .i64 ai, .string sa, .bool bn, .int .i64 bi, .string sb] 44)).heap.size := by have := hgq.size; rw [World.size_alloc]; omega
        clear hw' hq E1 E3 P0 hgq
        go_wp2_with (at_builtin; refine Mf.wpList_part [⟨id, lv, ⟨an, ai, sa⟩, ⟨bn, bi, sb⟩⟩] (World.ownsRow.alloc HOQ.out _) hsq (by have := HM9.out; simp only [List.length_singleton]; omega) (Mf.src_cs (HPNW.out wq)) (.tmp 100) (.tmp 106) (by rfl) (by rfl) (by rfl) (by rfl) ?_; intro v6 w6 o6 g6)
        have HO6 : Hid (Mf.Ow wc.heap.size w6 v6 (M2 ++ [⟨id, lv, ⟨an, ai, sa⟩, ⟨bn, bi, sb⟩⟩])) := Lib.hid o6
        have HG6 := Lib.hid (Mf.ow_below (HGQ.out.alloc HGQ.out.size _) hsq (World.ownsRow.alloc HOQ.out _) g6)
        clear o6 g6 hsq
        go_roundw
        case rel => exact ⟨k + 1, _, by omega, by simp, HO6.out, HG6.out, by have := HML2.out; rw [List.length_append, List.length_singleton]; omega, HNY.out⟩
        case measure => simp [intOf]; omega
       ·have HF := Lib.hid (HBD.out (.inr rfl))
        have hd2 : decide ((0 : Int) ≤ AV) = true := decide_eq_true hav
        go_wp2_with fail
        clear p0 p1 p2 p3 p4 p5 p6 p7 e0 e1 e2 e3
        refine wp_region_quiet_below (by kernel_rfl) (by kernel_rfl) ?_
        repeat (go_big_quiet_step (first | with_reducible exact CAR.out _))
        refine wpQuiet_nil ?_
        intro wq hw'
        have hq := Mf.below_reg2 hw'
        have HFF := Lib.hid (HF.out wq (HG.out.trans (hq.mono HG.out.size)))
        obtain ⟨⟨y0, y1, y2⟩, z0, z1, z2⟩ := Mf.three (((HG.out.trans (hq.mono HG.out.size)).block (w.heap.size + 2) (by have := HSC.out; omega)).trans HYR.out)
        clear hw' hq E1 E3 P0
        go_wp2
        (try simp only [Exit.inBlock, Exit.then])
        refine bodyPost_ret (v := .tuple #[.agg #[.slice none 0 0, .int .i64 0, .int .i64 0], .int .i64 8]) ?_ rfl HFF.out
        rw [results_cell_tmp rfl]
        go_simp
     ·obtain rfl : k = A.length := by omega
      have hki : ¬ (A.length : Int) < (A.length : Int) := by omega
      have HRS : Hid (RES = some ⟨M2, fl, nx⟩) := Lib.hid (by
       have e : Mf.ad nx M A = some M2 := by rw [← HAD.out, Mf.ad_end (by omega)]
       simp only [HRES.out, HDM.out, e])
      have hyr := (hg.block (w.heap.size + 2) (by have := HSC.out; omega)).trans HYR.out
      obtain ⟨⟨y0, y1, y2⟩, z0, z1, z2⟩ := Mf.three hyr
      have hps := hO.ps
      obtain ⟨a9, c9, rfl, -⟩ := hps.form
      have HPF : Hid (Mf.Ow w.heap.size (((wr.setCell ⟨w.heap.size + 2, 0, none⟩ (.slice a9 M2.length c9)).setCell ⟨w.heap.size + 2, 1, none⟩ (.int .i64 fl)).setCell ⟨w.heap.size + 2, 2, none⟩ (.int .i64 nx)) (.slice a9 M2.length c9) M2) := Lib.hid (World.ownsRow.mono (Mf.at_off hO hyr (by decide) (Mf.heap3 _ _ _ _ _)) HB.out.size)
      have HBF := Lib.hid (Mf.below3 (q := w.heap.size + 2) (HB.out.trans (hg.mono HB.out.size)) (by omega) (.slice a9 M2.length c9) (.int .i64 fl) (.int .i64 nx))
      have HFF := Lib.hid (Mf.GotS.good HRS.out HPF.out HBF.out)
      clear hk hkl hk0 had hml hO hg hps hyr
      go_wp2
      (try simp only [Exit.inBlock, Exit.then])
      refine bodyPost_ret (v := .tuple #[.agg #[.slice a9 M2.length c9, .int .i64 fl, .int .i64 nx], .int .i64 0]) ?_ rfl HFF.out
      rw [results_cell_tmp rfl]
      go_simp
end Go.Proofs.YteaglaijkafphaaDoor
namespace Go.Proofs.YteaglaijkafphaaDoor
open Go Go.RowKit
structure Mf.Lr (w wr : World) (q p : Nat) (u : Value) (s : Mf.S) (k : Nat) : Prop where
 box : wr.heap[p]? = some (.cells #[u, .int .i64 s.floor, .int .i64 s.next] 25 (0, 0))
 res : wr.heap[q]? = some (.cells #[.slice none 0 0, .int .i64 0, .int .i64 0] 25 (0, 0))
 own : Mf.Ow (p + 1) wr u s.parts
 below : Below w.heap.size w wr
 at_ : w.heap.size ≤ q
 lt : q < p
 size : p + 1 ≤ wr.heap.size
 len : s.parts.length ≤ 1000 * k
theorem Mf.Lr.kept {w wr w' : World} {q p : Nat} {u : Value} {s : Mf.S} {k : Nat} (h : Mf.Lr w wr q p u s k) (g : Below wr.heap.size wr w') : Mf.Lr w w' q p u s k :=
 ⟨(g.block p h.size).trans h.box, (g.block q (lt_of_block h.res)).trans h.res, h.own.kept g, h.below.trans (g.mono h.below.size), h.at_, h.lt, Nat.le_trans h.size g.size, h.len⟩
theorem Mf.Lr.set {w wr w1 : World} {q p : Nat} {u u' : Value} {s t : Mf.S} {k k' : Nat} (h : Mf.Lr w wr q p u s k) (g : Below wr.heap.size wr w1) (hu : Mf.Ow (p + 1) w1 u' t.parts) (hg : t.parts.length ≤ 1000 * k') :
 Mf.Lr w (((w1.setCell ⟨p, 0, none⟩ u').setCell ⟨p, 1, none⟩ (.int .i64 t.floor)).setCell ⟨p, 2, none⟩ (.int .i64 t.next)) q p u' t k' := by
 have h1 := h.kept g
 have hlt := h.lt
 refine ⟨?_, (Mf.heap3 _ _ _ _ _ q (by omega)).trans h1.res, Dk.Own.same hu fun b hb => Mf.heap3 _ _ _ _ _ b (by have := (World.ownsRow.lt hu b hb).1; omega), Mf.below3 h1.below (by have := h1.at_; omega) _ _ _, h1.at_, h1.lt, by have := h1.size; simp only [World.setCell, Array.size_modify]; exact this, hg⟩
 exact heap_setCell_same _ p 2 _ _ _ (heap_setCell_same _ p 1 _ _ _ (heap_setCell_same w1 p 0 _ _ _ h1.box))
theorem Mf.rp_not {s : Mf.S} {ts : List (List UInt8)} {k : Nat} {t : List UInt8} (h : ts[k]? = some t) (hd : Mf.dok (Mf.dX (Mf.ec t)) = false) : Mf.rp s (ts.drop k) = none := by
 rw [Mf.rp_step h]
 cases hr : Mf.rd t with
 | none => rfl
 | some e =>
   simp only
   rw [Mf.ap_not (.inl (Mf.dX_no hd e hr))]
theorem Mf.rp_yes {s : Mf.S} {ts : List (List UInt8)} {k : Nat} {t : List UInt8} (h : ts[k]? = some t) (hd : Mf.dok (Mf.dX (Mf.ec t)) = true) : Mf.rp s (ts.drop k) = match Mf.ap s (Mf.dX (Mf.ec t)).1.2.2 with
 | none => none
 | some u => Mf.rp u (ts.drop (k + 1)) := by
 rw [Mf.rp_step h, (Mf.dX_yes hd).1]
 rfl
set_option maxHeartbeats 8000000 in
set_option maxRecDepth 100000 in
theorem Mf.rread_c (t : ByteArray) (w : World) (ht : t.size ≤ 16777216) :
 Calls Tryd.prog 7 #[.string t] w (Mf.GotS w (Mf.rr t.data.toList)) := by
 obtain ⟨l, hl⟩ : ∃ l, l = t.data.toList := ⟨_, rfl⟩
 have hll : l.length = t.size := by rw [hl, Ty.length_data]
 have hinv := Mf.scan_inv _ l (Nat.le_refl _)
 have herr := Fr.scan_err l
 have CSC := Lib.hid fun (W : World) => Fr.rscan_c t (by omega) W
 rw [← hl] at CSC ⊢
 obtain ⟨w0, hw0⟩ : ∃ w0, w0 = w.alloc (.cells #[.slice none 0 0, .int .i64 0, .int .i64 0] 25) := ⟨_, rfl⟩
 have g0 : Below w.heap.size w w0 := by rw [hw0]; exact (Below.refl _ _).alloc (Nat.le_refl _) _
 have s0 : w0.heap.size = w.heap.size + 1 := by rw [hw0]; exact World.size_alloc ..
 have hyr : w0.heap[w.heap.size]? = some (.cells #[.slice none 0 0, .int .i64 0, .int .i64 0] 25 (0, 0)) := by
  rw [hw0]
  exact heap_alloc_new w _
 have HLN : Hid ((Fr.scan l).2.1.length ≤ 2097152 ∧ ∀ x ∈ (Fr.scan l).2.1, x.length ≤ 1048576) := Lib.hid ⟨by have := hinv.1; omega, hinv.2⟩
 have HE8 : Hid ((Fr.scan l).1 = 0 ∨ (Fr.scan l).1 = 8) := Lib.hid (by rcases herr with h | h; exact .inl h; exact .inr (by rw [h]))
 have HRR : Hid (Mf.rr l = if (Fr.scan l).1 = 0 then Mf.rp ⟨[], 0, 0⟩ (Fr.scan l).2.1 else none) := Lib.hid rfl
 have HB0 := Lib.hid g0
 have HYR := Lib.hid hyr
 have HS0 := Lib.hid s0
 generalize Mf.rr l = RES at HRR ⊢
 clear ht hl hll hinv herr g0 hyr
 go_enter Tryd.func7, Tryd.ntmps7
 go_wp2_with fail
 rw [← hw0]
 clear hw0
 refine (CSC.out w0).mono ?_
 rintro e w2 ⟨x, rfl, hx, g2⟩
 have hbw := HB0.out.trans (g2.mono HB0.out.size)
 have HB2 := Lib.hid hbw
 have hy2 := (g2.block w.heap.size (by have := HS0.out; omega)).trans HYR.out
 have HY2 := Lib.hid hy2
 obtain ⟨xa, xc, rfl, -, -, hx9⟩ := hx
 have H9 := Lib.hid hx9
 clear g2 CSC hx9 hbw HYR
 generalize (Fr.scan l).2.2 = ct
 generalize (Fr.scan l).1 = er at HE8 HRR ⊢
 generalize (Fr.scan l).2.1 = TS at HLN HRR H9 ⊢
 rcases HE8.out with rfl | rfl
 ·have HRR := Lib.hid (HRR.out.trans (if_pos rfl))
  have hl0 : (TS.length : Int) ≤ 2097152 := by have := HLN.out.1; omega
  obtain ⟨w3, hw3⟩ : ∃ w3, w3 = w2.alloc (.cells #[.slice none 0 0, .int .i64 0, .int .i64 0] 25) := ⟨_, rfl⟩
  obtain ⟨p, hp⟩ : ∃ p, p = w2.heap.size := ⟨_, rfl⟩
  have g3 : Below w2.heap.size w2 w3 := by rw [hw3]; exact (Below.refl _ _).alloc (Nat.le_refl _) _
  have hlr : Mf.Lr w w3 w.heap.size p (.slice none 0 0) ⟨[], 0, 0⟩ 0 := by
   have hb := heap_alloc_new w2 (.cells #[.slice none 0 0, .int .i64 0, .int .i64 0] 25)
   rw [← hw3, ← hp] at hb
   exact ⟨hb, (g3.block w.heap.size (lt_of_block hy2)).trans hy2, Mf.Ow.nil _ _, HB2.out.trans (g3.mono HB2.out.size), Nat.le_refl _, by rw [hp]; exact lt_of_block hy2, by rw [hw3, World.size_alloc]; omega, Nat.le_refl _⟩
  have HLR := Lib.hid hlr
  have HG3 := Lib.hid g3
  have HP0 := Lib.hid hp
  clear HE8 hy2 g3 hlr
  simp only [Int.cast_ofNat_Int]
  go_wp2_with fail
  rw [← hw3]
  first
   | rw [← hp]
   | skip
  clear hw3 hp
  go_loopw [8] (fun i wr => ∃ (k : Nat) (u : Value) (s : Mf.S), k ≤ TS.length ∧ i = .int .i64 k ∧ Mf.Lr w wr w.heap.size p u s k ∧ Below w2.heap.size w2 wr ∧ RES = Mf.rp s (TS.drop k)) (fun i _ => TS.length - (intOf i).toNat)
  case atStart => exact ⟨0, _, _, Nat.zero_le _, rfl, HLR.out, HG3.out, HRR.out⟩
  case round =>
   obtain ⟨k, u, s, hk, rfl, hL, hB, hres⟩ := hrel
   have hk0 : (0 : Int) ≤ (k : Int) := by omega
   have HL := Lib.hid hL
   have HB := Lib.hid hB
   obtain ⟨au, cu, rfl⟩ := hL.own.ps.len_le
   by_cases hkl : k < TS.length
   ·rcases H9.out with ⟨h9, -⟩ | ⟨b, o, rfl, hlt, hc⟩
    ·rw [h9] at hkl; simp at hkl
    have c0 := (hB.cell (p := ⟨b, o + k, none⟩) hlt).trans (hc k hkl)
    have hx := List.getElem?_eq_getElem hkl
    rw [Tx.sv, List.getD_eq_getElem?_getD, hx, Option.getD_some] at c0
    generalize TS[k] = t1 at hx c0
    have HYES := Lib.hid fun h => Mf.rp_yes (s := s) hx h
    have HNOT := Lib.hid fun h => Mf.rp_not (s := s) hx h
    rw [← hres] at HYES HNOT
    have CD := Lib.hid (Mf.redit_c (Ty.S t1) (by have := HLN.out.2 t1 (List.mem_of_getElem? hx); have := Ty.length_data (Ty.S t1); rw [← this]; show t1.length ≤ _; omega) wr)
    rw [show (Ty.S t1).data.toList = t1 from rfl] at CD
    generalize Mf.dX (Mf.ec t1) = X at CD HYES HNOT
    obtain ⟨⟨n0, m0, ⟨D, A, fl, nx⟩⟩, cx⟩ := X
    simp only at CD HYES
    have hki : (k : Int) < (TS.length : Int) := by omega
    have HKL := Lib.hid hkl
    clear hx hc hlt hkl hk hL hB hres
    go_wp2_with fail
    with_reducible refine CD.out.mono ?_
    rintro e w4 ⟨ok, vd, va, rfl, hok, hD, hA, hB4⟩
    obtain ⟨ad, nd, cd, rfl⟩ : ∃ a n c, vd = .slice a n c := by
     obtain ⟨a, c, e, -⟩ := hD.is
     exact ⟨_, _, _, e⟩
    obtain ⟨aa, na, ca, rfl⟩ : ∃ a n c, va = .slice a n c := hA.ps.form3
    obtain ⟨w5, hw5⟩ : ∃ w5, w5 = w4.alloc (.cells #[.slice ad nd cd, .slice aa na ca, .int .i64 fl, .int .i64 nx] 37) := ⟨_, rfl⟩
    have g5 : Below w4.heap.size w4 w5 := by rw [hw5]; exact (Below.refl _ _).alloc (Nat.le_refl _) _
    have hW5 := hB4.trans (g5.mono hB4.size)
    have hL5 := HL.out.kept hW5
    have HL5 := Lib.hid hL5
    have HW5 := Lib.hid (HB.out.trans (hW5.mono HB.out.size))
    cases ok
    ·have HN : Hid (RES = none) := Lib.hid (HNOT.out hok.symm)
     obtain ⟨⟨y0, y1, y2⟩, z0, z1, z2⟩ := Mf.three hL5.res
     rw [hw5] at y0 y1 y2 z0 z1 z2
     have HF := Lib.hid (Mf.GotS.bad (r := RES) HN.out (Mf.below3 (q := w.heap.size) hL5.below (Nat.le_refl _) (.slice none 0 0) (.int .i64 0) (.int .i64 0)))
     rw [hw5] at HF
     clear hok hD hA hB4 g5 hW5 hL5 CD c0 hw5 HL5 HW5
     go_wp2
     (try simp only [Exit.inBlock, Exit.then])
     refine bodyPost_ret (v := .tuple #[.agg #[.slice none 0 0, .int .i64 0, .int .i64 0], .int .i64 8]) ?_ rfl HF.out
     rw [results_cell_tmp rfl]
     go_simp
    ·have hst := HYES.out hok.symm
     have CA := Mf.rapply_c (.slice au s.parts.length cu) (.slice ad nd cd) (.slice aa na ca) s ⟨D, A, fl, nx⟩ w5 hL5.own.ps (Mf.Oi.is (hD.kept g5)) (hA.kept g5).ps (by have := hL5.len; have := HKL.out; have := HLN.out.1; omega)
     have HLEN := Lib.hid fun (t : Mf.S) (h : Mf.ap s ⟨D, A, fl, nx⟩ = some t) => Mf.ap_len h
     have HSL := Lib.hid hL5.len
     generalize Mf.ap s ⟨D, A, fl, nx⟩ = ra at CA hst HLEN
     have HST := Lib.hid hst
     obtain ⟨SP, SF, SN⟩ := s
     unfold Mf.sv Mf.GotS at CA
     simp only at CA HSL HLEN HL5 ⊢
     obtain ⟨e0, e1, e2, e3⟩ := Mf.EA.new w4 (.slice ad nd cd) (.slice aa na ca) fl nx 37
     obtain ⟨⟨b0, b1, b2⟩, f0, f1, f2⟩ := Mf.three hL5.box
     simp only at b0 b1 b2
     rw [hw5] at b0 b1 b2
     clear hok hD hA hB4 g5 hW5 hL5 CD c0 hst f0 f1 f2
     go_wp2_with fail
     rw [← hw5]
     clear hw5 e0 e1 e2 e3 b0 b1 b2
     with_reducible refine CA.mono ?_
     rintro e w6 ⟨u6, rfl, hu6, g6⟩
     obtain ⟨a6, c6, rfl⟩ := hu6.ps.len_le
     have hL6 := HL5.out.kept g6
     obtain ⟨w7, hw7⟩ : ∃ w7, w7 = w6.alloc (.cells #[.slice a6 (Mf.st ra).parts.length c6, .int .i64 (Mf.st ra).floor, .int .i64 (Mf.st ra).next] 25) := ⟨_, rfl⟩
     have g7 : Below w6.heap.size w6 w7 := by rw [hw7]; exact (Below.refl _ _).alloc (Nat.le_refl _) _
     have hL7 := hL6.kept g7
     rcases ra with _ | ⟨TP, TF, TN⟩
     ·have HN : Hid (RES = none) := HST
      obtain ⟨⟨y0, y1, y2⟩, z0, z1, z2⟩ := Mf.three hL7.res
      rw [hw7] at y0 y1 y2 z0 z1 z2
      have HF := Lib.hid (Mf.GotS.bad (r := RES) HN.out (Mf.below3 (q := w.heap.size) hL7.below (Nat.le_refl _) (.slice none 0 0) (.int .i64 0) (.int .i64 0)))
      rw [hw7] at HF
      clear hu6 g6 hL6 g7 hL7 CA hw7 HL5 HW5 HLEN
      simp only [Mf.st, Mf.er, List.length_nil] at y0 y1 y2 z0 z1 z2 HF ⊢
      go_wp2
      (try simp only [Exit.inBlock, Exit.then])
      refine bodyPost_ret (v := .tuple #[.agg #[.slice none 0 0, .int .i64 0, .int .i64 0], .int .i64 8]) ?_ rfl HF.out
      rw [results_cell_tmp rfl]
      go_simp
     ·have hn7 : Mf.Ow (p + 1) w7 (.slice a6 TP.length c6) TP := World.ownsRow.mono (hu6.kept g7) HL5.out.size
      have hM := HL5.out.set (t := ⟨TP, TF, TN⟩) (k' := k + 1) (g6.trans (g7.mono g6.size)) hn7 (by have h1 : TP.length ≤ SP.length + 1000 := HLEN.out _ rfl; have h2 := HSL.out; show TP.length ≤ 1000 * (k + 1); omega)
      have hbb := HW5.out.trans ((g6.trans (g7.mono g6.size)).mono HW5.out.size)
      have HM := Lib.hid hM
      have HBB := Lib.hid (Mf.below3 (q := p) hbb (by have := HP0.out; omega) (.slice a6 TP.length c6) (.int .i64 TF) (.int .i64 TN))
      obtain ⟨⟨b0, b1, b2⟩, f0, f1, f2⟩ := Mf.three hL7.box
      obtain ⟨x0, x1, x2⟩ := Mf.SA.new w6 (.slice a6 TP.length c6) TF TN 25
      have HR9 : Hid (RES = Mf.rp ⟨TP, TF, TN⟩ (TS.drop (k + 1))) := HST
      simp only [Mf.st] at hw7
      rw [hw7] at b0 b1 b2 f0 f1 f2 HM HBB
      clear hu6 g6 hL6 g7 hL7 CA hw7 HL5 HW5 HLEN hn7 hM hbb HST
      simp only [Mf.st, Mf.er] at HM HBB ⊢
      go_wp2
      go_roundw
      case rel => exact ⟨k + 1, _, ⟨TP, TF, TN⟩, HKL.out, by simp, HM.out, HBB.out, HR9.out⟩
      case measure => (have := HKL.out; simp [intOf]; omega)
   ·obtain rfl : k = TS.length := by omega
    have hki : ¬ (TS.length : Int) < (TS.length : Int) := by omega
    have HN : Hid (RES = some s) := Lib.hid (by rw [hres, Mf.rp_end (by omega)])
    obtain ⟨SP, SF, SN⟩ := s
    obtain ⟨⟨y0, y1, y2⟩, z0, z1, z2⟩ := Mf.three hL.res
    obtain ⟨⟨b0, b1, b2⟩, -⟩ := Mf.three hL.box
    simp only at b0 b1 b2 HN
    have HFF := Lib.hid (Mf.GotS.good (r := RES) (u := .slice au SP.length cu) HN.out (World.ownsRow.mono (Mf.at_off hL.own hL.res (by decide) (Mf.heap3 wr w.heap.size (.slice au SP.length cu) (.int .i64 SF) (.int .i64 SN))) (by have := HL.out.lt; omega)) (Mf.below3 (q := w.heap.size) hL.below (Nat.le_refl _) (.slice au SP.length cu) (.int .i64 SF) (.int .i64 SN)))
    clear hk hkl hk0 hL hB hres HL HB
    go_wp2
    (try simp only [Exit.inBlock, Exit.then])
    refine bodyPost_ret (v := .tuple #[.agg #[.slice au SP.length cu, .int .i64 SF, .int .i64 SN], .int .i64 0]) ?_ rfl HFF.out
    rw [results_cell_tmp rfl]
    go_simp
 ·have HN : Hid (RES = none) := Lib.hid (HRR.out.trans (if_neg (by decide)))
  obtain ⟨⟨y0, y1, y2⟩, z0, z1, z2⟩ := Mf.three hy2
  have HF := Lib.hid (Mf.GotS.bad (r := RES) HN.out (Mf.below3 (q := w.heap.size) HB2.out (Nat.le_refl _) (.slice none 0 0) (.int .i64 0) (.int .i64 0)))
  clear HE8 hy2
  simp only [Int.cast_ofNat_Int]
  go_wp2
  (try simp only [Exit.inBlock, Exit.then])
  refine bodyPost_ret (v := .tuple #[.agg #[.slice none 0 0, .int .i64 0, .int .i64 0], .int .i64 8]) ?_ rfl HF.out
  rw [results_cell_tmp rfl]
  go_simp
end Go.Proofs.YteaglaijkafphaaDoor
namespace Go.Proofs.YteaglaijkafphaaDoor
open Go Go.RowKit
theorem Mf.rp_len : ∀ (ts : List (List UInt8)) (s u : Mf.S), Mf.rp s ts = some u → u.parts.length ≤ s.parts.length + 1000 * ts.length
 | [], s, u, h => by
   have e : Mf.rp s ([] : List (List UInt8)) = some s := rfl
   rw [e] at h
   obtain rfl := Option.some.inj h
   exact Nat.le_add_right _ _
 | t :: ts, s, u, h => by
   have e := Mf.rp_step (s := s) (ts := t :: ts) (k := 0) (t := t) rfl
   rw [List.drop_zero] at e
   rw [e] at h
   cases hr : Mf.rd t with
   | none => rw [hr] at h; cases h
   | some x =>
     rw [hr] at h
     simp only at h
     cases ha : Mf.ap s x with
     | none => rw [ha] at h; cases h
     | some v =>
       rw [ha] at h
       have h1 := Mf.rp_len ts v u h
       have h2 := Mf.ap_len ha
       rw [List.length_cons]
       omega
theorem Mf.rr_few (l : List UInt8) (hl : l.length ≤ 16777216) : (Mf.st (Mf.rr l)).parts.length ≤ 9223372036854775000 := by
 cases h : Mf.rr l with
 | none => exact Nat.zero_le _
 | some u =>
   have hinv := (Mf.scan_inv _ l (Nat.le_refl _)).1
   unfold Mf.rr at h
   split at h
   ·have := Mf.rp_len _ _ _ h
    show u.parts.length ≤ _
    simp only [List.length_nil] at this
    omega
   ·cases h
set_option maxHeartbeats 4000000 in
set_option maxRecDepth 100000 in
theorem Mf.reads_w (t : ByteArray) (w : World) (hT : Ty.Tabs w) (ht : t.size ≤ 16777216) :
 Calls Tryd.prog 3 #[.string t] w fun r w' => r = .returned (.bool true) ∧ Below w.heap.size w w' := by
 have CA := Lib.hid fun (W : World) (g : Below w.heap.size w W) => Mf.read_c t W (hT.below g (Ty.Tabs.two hT)) ht
 have CB := Lib.hid fun (W : World) => Mf.rread_c t W ht
 have HFW := Lib.hid (Mf.rr_few t.data.toList (by rw [Ty.length_data]; exact ht))
 generalize Mf.rr t.data.toList = r at CA CB HFW
 unfold Mf.GotS at CA CB
 clear hT ht
 go_enter Tryd.func3, Tryd.ntmps3
 go_wp2_with fail
 with_reducible refine (Mf.lives_c w).mono ?_
 rintro e w3 ⟨rfl, g1⟩
 have B3 := Lib.hid g1
 clear g1
 go_wp2_with fail
 with_reducible refine (CA.out w3 B3.out).mono ?_
 rintro e w4 ⟨u1, rfl, hu1, g4⟩
 obtain ⟨ua, uc, rfl⟩ := hu1.ps.len_le
 have HU1 := Lib.hid hu1.ps
 have B4 := Lib.hid (B3.out.trans (g4.mono B3.out.size))
 clear g4 hu1
 generalize Mf.er r = ER at CB ⊢
 generalize Mf.st r = R at CB HU1 HFW ⊢
 obtain ⟨RP, RF, RN⟩ := R
 unfold Mf.sv at CB ⊢
 simp only at CB HU1 HFW ⊢
 obtain ⟨w5, hw5⟩ : ∃ w5, w5 = w4.alloc (.cells #[.slice ua RP.length uc, .int .i64 RF, .int .i64 RN] 25) := ⟨_, rfl⟩
 have g5 : Below w4.heap.size w4 w5 := by rw [hw5]; exact (Below.refl _ _).alloc (Nat.le_refl _) _
 have hT5 : Mf.SA w5 w4.heap.size (.slice ua RP.length uc) RF RN := by
  have := Mf.SA.new w4 (.slice ua RP.length uc) RF RN 25
  rwa [← hw5] at this
 have HT5 := Lib.hid hT5
 have HU5 := Lib.hid (HU1.out.kept g5)
 have B5 := Lib.hid (B4.out.trans (g5.mono B4.out.size))
 clear hT5 g5
 go_wp2_with fail
 rw [← hw5]
 clear hw5
 with_reducible refine (CB.out w5).mono ?_
 rintro e w6 ⟨u2, rfl, hu2, g6⟩
 obtain ⟨ub, ud, rfl⟩ := hu2.ps.len_le
 have HU2 := Lib.hid hu2.ps
 have HU6 := Lib.hid (HU5.out.kept g6)
 have B6 := Lib.hid (B5.out.trans (g6.mono B5.out.size))
 have HT6 := Lib.hid (HT5.out.kept g6)
 clear hu2 g6
 obtain ⟨w7, hw7⟩ : ∃ w7, w7 = w6.alloc (.cells #[.slice ub RP.length ud, .int .i64 RF, .int .i64 RN] 25) := ⟨_, rfl⟩
 have g7 : Below w6.heap.size w6 w7 := by rw [hw7]; exact (Below.refl _ _).alloc (Nat.le_refl _) _
 have CS := Mf.rsame_c _ _ ⟨RP, RF, RN⟩ w7 (HU6.out.kept g7) (HU2.out.kept g7) HFW.out
 unfold Mf.sv at CS
 simp only at CS
 have B7 := Lib.hid (B6.out.trans (g7.mono B6.out.size))
 obtain ⟨c0, c1, c2⟩ := HT6.out.kept g7
 rw [hw7] at c0 c1 c2
 clear g7
 go_wp2_with fail
 rw [← hw7]
 clear hw7 c0 c1 c2
 with_reducible refine CS.mono ?_
 rintro e w8 ⟨rfl, g8⟩
 have B8 := Lib.hid (B7.out.trans (g8.mono B7.out.size))
 clear g8 CS
 go_wp2
 go_ret
 exact ⟨rfl, B8.out⟩
end Go.Proofs.YteaglaijkafphaaDoor
namespace Go.Proofs.YteaglaijkafphaaDoor
open Go.RowKit Go.ChangeShapes Go.WideShapes Go.ChangeAt Go.Deep
section
variable {H : Type} {enc : TypeId × Value → H} {W : World}
def Mf.ok9 (p : Mf.P) : Prop := (Ty.I64 p.lo.n ∧ Ty.I64 p.hi.n) ∧ Ty.I64 p.id
end
end Go.Proofs.YteaglaijkafphaaDoor
namespace Go.Proofs.YteaglaijkafphaaDoor.Ty
open Go.RowKit Go.WideShapes Go.ChangeShapes
theorem post_below {H : Type} {enc : TypeId × Value → H} {P : Program} {f : Func} {s : ChangeSpec} {apart fresh handsOn again : Bool} {W W' : World} {args : Array Value} {v : Value} {ds gs : List (DataW H)} {before pa pv : List MemPlace}
 (hW : DataW.Whole enc P f.params.toList s.vars apart W args.toList ds gs before)
 (hr : ∀ (b : Nat) (sp : Nat → Bool) (hd : Bool), DataW.TrodAll enc P W' b sp hd f.resultTypes.toList (v.resultList f.resultTypes.size) (s.fn H (ds ++ gs)).results [])
 (ha : ∀ sp : Nat → Bool, (∀ p ∈ before, sp p.block = true) → DataW.TrodAll enc P W' 0 sp true f.params.toList args.toList (s.fn H (ds ++ gs)).args pa)
 (hv : ∀ sp : Nat → Bool, (∀ p ∈ before, sp p.block = true) → DataW.TrodVars enc P W' sp s.vars (s.fn H (ds ++ gs)).vars pv)
 (hp : before = pa ++ pv) (hb : Below W.heap.size W W')
 (hok : ∀ (j : Nat) (t : TypeId) (r : Value), f.resultTypes[j]? = some t → (v.resultList f.resultTypes.size)[j]? = some r → Value.okWide P W' .any 0 t r) :
 s.post enc P f apart fresh handsOn again W args v W' := by
 have hl : ∀ p ∈ before, p.block < W.heap.size := fun p h => hW.lt p h
 have hs : ∀ p ∈ before, (fun b => decide (b < W.heap.size)) p.block = true := fun p h => by simpa using hl p h
 have hW0 := hW
 obtain ⟨_, _, _, _, _, hz, hn⟩ := hW0
 refine ⟨ds, gs, before, [], pa, pv, hW, hr _ _ _, ha _ hs, hv _ hs, World.keptBut_mono (fun p h => ⟨h, by rw [hp] at h; exact .inr (List.mem_append.1 h)⟩) (hb.frame (· ∈ before)), fun _ => ⟨hok, _, _, ([] ++ pa) ++ pv, ⟨[] ++ pa, pv, trodAll_append (ha _ (fun _ _ => rfl)) (hr _ _ _), hv _ (fun _ _ => rfl), rfl, ?_, ?_⟩, ?_⟩⟩
 ·intro b off h
  have hin : MemPlace.cell b off ∈ before := by rw [hp]; simpa using h
  rw [hb.frozen (hl _ hin)]
  exact hz b off hin
 ·intro hap
  have := hn hap
  rw [hp] at this
  simpa using this
 ·intro p h _
  rw [hp]
  simpa using h
end Go.Proofs.YteaglaijkafphaaDoor.Ty
namespace Go.Proofs.YteaglaijkafphaaDoor.Ty
open Go.RowKit Go.WideShapes Go.ChangeShapes
theorem all_stay {H : Type} {enc : TypeId × Value → H} {P : Program} (hl : laidOutB P = true) {W W' : World} {sp : Nat → Bool} : ∀ (ts : List TypeId) (vs : List Value) (ds : List (DataW H)) (ps : List MemPlace),
 (ts.all fun t => P.readableRec t && decide (t < P.types.size)) = true → DataW.TrodAll enc P W 0 (fun _ => true) true ts vs ds ps → (∀ p ∈ ps, W.sameAt W' p) → (∀ p ∈ ps, sp p.block = true) → DataW.TrodAll enc P W' 0 sp true ts vs ds ps
 | [], [], [], _, _, h, _, _ => h
 | [], [], _ :: _, _, _, h, _, _ => h.elim
 | [], _ :: _, [], _, _, h, _, _ => h.elim
 | [], _ :: _, _ :: _, _, _, h, _, _ => h.elim
 | _ :: _, [], [], _, _, h, _, _ => h.elim
 | _ :: _, [], _ :: _, _, _, h, _, _ => h.elim
 | _ :: _, _ :: _, [], _, _, h, _, _ => h.elim
 | t :: ts, v :: vs, d :: ds, ps, ht, h, hs, hsp => by
   obtain ⟨p, q, h1, h2, rfl⟩ := h
   simp only [List.all_cons, Bool.and_eq_true, decide_eq_true_eq] at ht
   exact ⟨p, q, WideElems.Trod_stays hl ht.1.1 ht.1.2 h1 (fun x hx => hs x (List.mem_append_left _ hx)) (fun x hx => hsp x (List.mem_append_left _ hx)),
    all_stay hl ts vs ds q ht.2 h2 (fun x hx => hs x (List.mem_append_right _ hx)) (fun x hx => hsp x (List.mem_append_right _ hx)), rfl⟩
end Go.Proofs.YteaglaijkafphaaDoor.Ty
