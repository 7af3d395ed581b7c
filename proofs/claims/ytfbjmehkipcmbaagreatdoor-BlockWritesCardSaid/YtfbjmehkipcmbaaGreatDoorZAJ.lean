/-
  The document's answers for block: deeds in memory; which deeds are sorted.
  Contracts of the document's answers for kinds: rows and keys.
  Contracts of package kinds: rows that are the same; keys in a range. The document's answers for these.
  Contracts of the document's answers for tally: the cursor's texts.
  The document's cursor in hand: what of it stays, its strings of at most 64 bytes.
  The document's answers for package deeds: which deeds fit, which are the same; a truth's byte, written and read.
  The document's answers for block: which deeds fit; a column's values.
-/
import Derived.Test.YtfbjmehkipcmbaaGreatDoorZAI
import Derived.Test.YtfbjmehkipcmbaaGreatDoorZAA
import Derived.Lib.QuietBelow
import Derived.BigQuiet
import Derived.Test.YtfbjmehkipcmbaaGreatDoorZAE
import Derived.Test.YtfbjmehkipcmbaaGreatDoorZAC
import Derived.Test.YtfbjmehkipcmbaaGreatDoorZAD
namespace Go.Proofs.YtfbjmehkipcmbaaGreatDoor
open Go.RowKit
structure Bk.Ds (w : World) (v : Value) (L : List Dd.D) : Prop where
  is : ∃ a c, v = .slice a L.length c ∧ L.length ≤ c ∧ c ≤ 9223372036854775807 ∧ (L = [] ∨ ∃ b o, a = some ⟨b, o, none⟩ ∧ b < w.heap.size ∧
    ∀ i x, L[i]? = some x → ∃ u, w.cell? ⟨b, o + i * 2, none⟩ = some (.bool x.gone) ∧ w.cell? ⟨b, o + i * 2 + 1, none⟩ = some u ∧ Kn.Vals w u x.row)
theorem Bk.Ds.later {w w' : World} {v : Value} {L : List Dd.D} (h : Bk.Ds w v L) (g : Below w.heap.size w w') : Bk.Ds w' v L := by
  obtain ⟨a, c, hv, h1, h2, h⟩ := h
  refine ⟨a, c, hv, h1, h2, ?_⟩
  rcases h with h | ⟨b, o, ha, hb, h⟩
  · exact .inl h
  · refine .inr ⟨b, o, ha, Nat.lt_of_lt_of_le hb g.size, fun i x hx => ?_⟩
    obtain ⟨u, c0, c1, hu⟩ := h i x hx
    exact ⟨u, (g.cell (p := ⟨b, o + i * 2, none⟩) hb).trans c0, (g.cell (p := ⟨b, o + i * 2 + 1, none⟩) hb).trans c1, hu.later g⟩
def Bk.Zs (L : List Dd.D) : Prop := ∀ d ∈ L, ∀ v ∈ d.row, Kn.Z v
theorem Bk.below_reg {w w' : World} (h : ∃ p : Regrown, w' = Sort.grow (redrawn w p.d) p.os) : Below w.heap.size w w' := by
  obtain ⟨p, rfl⟩ := h
  exact below_regrown w p.d p.os
theorem Bk.step_empty {L : List Dd.D} {k : Nat} {d : Dd.D} (h : L[k]? = some d) (he : d.row = []) : Bk.step L k = false := by
  unfold Bk.step
  rw [List.getD_eq_getElem?_getD, h, Option.getD_some, he]
  rfl
theorem Bk.step_first {L : List Dd.D} {d : Dd.D} (h : L[0]? = some d) (he : d.row ≠ []) : Bk.step L 0 = true := by
  unfold Bk.step
  rw [List.getD_eq_getElem?_getD, h, Option.getD_some]
  cases hr : d.row with
  | nil => exact absurd hr he
  | cons x r => rfl
theorem Bk.step_next {L : List Dd.D} {j : Nat} {d p : Dd.D} {x y : Kn.V} (h : L[j + 1]? = some d) (hp : L[j]? = some p) (hx : d.row[0]? = some x) (hy : p.row[0]? = some y) : Bk.step L (j + 1) = decide (Kn.cmp y x < 0) := by
  unfold Bk.step Bk.key
  rw [List.getD_eq_getElem?_getD, h, Option.getD_some, Nat.add_sub_cancel, List.getD_eq_getElem?_getD, hp, Option.getD_some]
  obtain ⟨dg, dr⟩ := d
  obtain ⟨pg, pr⟩ := p
  cases dr with
  | nil => simp at hx
  | cons a r =>
    cases pr with
    | nil => simp at hy
    | cons b q =>
      obtain rfl : a = x := by simpa using hx
      obtain rfl : b = y := by simpa using hy
      simp
theorem Bk.step_row {L : List Dd.D} {k : Nat} {d : Dd.D} (h : L[k]? = some d) (hs : Bk.step L k = true) : d.row ≠ [] := fun he => by
  rw [Bk.step_empty h he] at hs
  cases hs
theorem Bk.sorted_no {L : List Dd.D} {k : Nat} (hk : k < L.length) (h : Bk.step L k = false) : Bk.sorted L = false := by
  unfold Bk.sorted
  rw [List.all_eq_false]
  exact ⟨k, List.mem_range.2 hk, by rw [h]; decide⟩
theorem Bk.sorted_yes {L : List Dd.D} (h : ∀ j, j < L.length → Bk.step L j = true) : Bk.sorted L = true := by
  unfold Bk.sorted
  rw [List.all_eq_true]
  exact fun j hj => h j (List.mem_range.1 hj)
set_option maxHeartbeats 4000000 in
set_option maxRecDepth 100000 in
theorem Bk.rsorted_c (v : Value) (L : List Dd.D) (w : World) (hv : Bk.Ds w v L) (hz : Bk.Zs L) : Calls Tryz.prog 12 #[v] w fun e w' => e = .returned (.bool (Bk.sorted L)) ∧ Below w.heap.size w w' := by
  obtain ⟨a, c, rfl, hlc, hcm, h⟩ := hv
  have HH := Lib.hid h
  have HZ := Lib.hid hz
  clear h hz
  generalize hB : Bk.sorted L = B
  have HB := Lib.hid hB
  clear hB
  go_enter Tryz.func12, Tryz.ntmps12
  go_wp2_with fail
  go_loopw [3] (fun i wr => ∃ k : Nat, k ≤ L.length ∧ i = .int .i64 k ∧ (∀ j, j < k → Bk.step L j = true) ∧ Below w.heap.size w wr) (fun i _ => L.length - (intOf i).toNat)
  case atStart => exact ⟨0, Nat.zero_le _, rfl, (fun j hj => by omega), Below.refl _ _⟩
  case round =>
    obtain ⟨k, hk, rfl, hs, hg⟩ := hrel
    have HS := Lib.hid hs
    have HG := Lib.hid hg
    clear hs
    by_cases hkl : k < L.length
    · rcases HH.out with rfl | ⟨b, o, rfl, hlt, hc⟩
      · simp at hkl
      · have hx := List.getElem?_eq_getElem hkl
        have hm := List.getElem_mem hkl
        generalize L[k] = d at hx hm
        obtain ⟨u, c0, c1, hu⟩ := hc k d hx
        have hu := hu.later hg
        have c1 := (hg.cell (p := ⟨b, o + k * 2 + 1, none⟩) hlt).trans c1
        have dk : (k : Int) < (L.length : Int) := by omega
        have dk0 : (0 : Int) ≤ (k : Int) := by omega
        have HK := Lib.hid hkl
        have HX := Lib.hid hx
        have HC := Lib.hid hc
        obtain ⟨ua, uc, rfl, huc⟩ := hu
        clear hc hx c0 hkl hk
        by_cases he : d.row = []
        · have HE := Lib.hid (Bk.sorted_no HK.out (Bk.step_empty HX.out he))
          obtain rfl : B = false := HB.out.symm.trans HE.out
          rw [he] at c1
          simp only [List.length_nil] at c1
          have C1 := fun d os => cell_regrown c1 d os
          clear huc hm c1
          go_upto_region 4 with (fail)
          refine wp_region_quiet_below (by kernel_rfl) (by kernel_rfl) ?_
          repeat (go_big_quiet_step (fail))
          refine wpQuiet_nil ?_
          intro _ hw'
          have HG2 := Lib.hid (HG.out.trans ((Bk.below_reg hw').mono HG.out.size))
          go_wp2
          go_ret
          exact ⟨rfl, HG2.out⟩
        · have C1 := fun d os => cell_regrown c1 d os
          have hz0 : ((d.row.length : Int) == 0) = false := by
            rw [beq_eq_false_iff_ne]
            have := List.length_pos_iff.2 he
            omega
          rcases huc with h0 | ⟨b2, o2, rfl, hlt2, hm2, hcc⟩
          · exact absurd h0 he
          · have hp0 : 0 < d.row.length := List.length_pos_iff.2 he
            have hx0 := List.getElem?_eq_getElem hp0
            have hzx := HZ.out d hm _ (List.getElem_mem hp0)
            generalize d.row[0] = x at hx0 hzx
            obtain ⟨e0, e1, e2⟩ := hcc 0 x hx0
            simp only [Nat.zero_mul, Nat.add_zero] at e0 e1 e2
            have E0 := fun d os => cell_regrown e0 d os
            have E1 := fun d os => cell_regrown e1 d os
            have E2 := fun d os => cell_regrown e2 d os
            have HE := Lib.hid he
            have hp1 : (0 : Int) < (d.row.length : Int) := by omega
            cases k with
            | zero =>
              have HF := Lib.hid (Bk.step_first HX.out he)
              clear hcc e0 e1 e2 hm hzx hp0 he
              go_upto_region 4 with (fail)
              refine wp_region_quiet_below (by kernel_rfl) (by kernel_rfl) ?_
              repeat (go_big_quiet_step (fail))
              refine wpQuiet_nil ?_
              intro _ hw'
              have HG2 := Lib.hid (HG.out.trans ((Bk.below_reg hw').mono HG.out.size))
              go_wp2
              go_roundw
              case rel => exact ⟨1, HK.out, by simp, (fun j hj => by obtain rfl : j = 0 := (by omega); exact HF.out), HG2.out⟩
              case measure => (have := HK.out; simp [intOf]; omega)
            | succ j =>
              have hjl : j < L.length := by have := HK.out; omega
              have hy := List.getElem?_eq_getElem hjl
              have hmy := List.getElem_mem hjl
              generalize L[j] = p at hy hmy
              obtain ⟨u2, d0, d1, hu2⟩ := HC.out j p hy
              have hu2 := hu2.later HG.out
              have d1 := (HG.out.cell (p := ⟨b, o + j * 2 + 1, none⟩) hlt).trans d1
              have hpe := Bk.step_row hy (HS.out j (by omega))
              obtain ⟨ua2, uc2, rfl, huc2⟩ := hu2
              rcases huc2 with h0 | ⟨b3, o3, rfl, hlt3, hm3, hcc3⟩
              · exact absurd h0 hpe
              · have hq0 : 0 < p.row.length := List.length_pos_iff.2 hpe
                have hy0 := List.getElem?_eq_getElem hq0
                have hzy := HZ.out p hmy _ (List.getElem_mem hq0)
                generalize p.row[0] = y at hy0 hzy
                obtain ⟨g0, g1, g2⟩ := hcc3 0 y hy0
                simp only [Nat.zero_mul, Nat.add_zero] at g0 g1 g2
                have G0 := fun d os => cell_regrown g0 d os
                have G1 := fun d os => cell_regrown g1 d os
                have G2 := fun d os => cell_regrown g2 d os
                have D1 := fun d os => cell_regrown d1 d os
                have HF := Lib.hid (Bk.step_next HX.out hy hx0 hy0)
                have cA := Kn.rAhead_c y x hzy hzx
                generalize decide (Kn.cmp y x < 0) = A at HF cA
                unfold Kn.V.val at cA
                have CA : Hid (∀ p : Regrown, _) := Lib.hid fun p : Regrown => Calls.regrown_of (d := p.d) (os := p.os) (w := wr) (cA _)
                have hq1 : (0 : Int) < (p.row.length : Int) := by omega
                have hwr : IntKind.i64.wrap ((j : Int) + 1 - 1) = (j : Int) := by rw [IntKind.wrap_i64]; omega
                have hwr2 : IntKind.i64.wrap (j : Int) = (j : Int) := by rw [IntKind.wrap_i64]; omega
                have dj : (j : Int) < (L.length : Int) := by omega
                have dj0 : (0 : Int) ≤ (j : Int) := by omega
                have dj1 : (0 : Int) < (j : Int) + 1 := by omega
                simp only [Int.natCast_add, Int.natCast_one] at dk dk0
                have HJ := Lib.hid hjl
                clear hcc hcc3 e0 e1 e2 g0 g1 g2 d0 d1 c1 hm hmy hzx hzy hp0 hq0 he hpe hy hx0 hy0 cA hjl
                cases A
                · obtain rfl : B = false := HB.out.symm.trans (Bk.sorted_no HK.out HF.out)
                  go_upto_region 4 with (fail)
                  refine wp_region_quiet_below (by kernel_rfl) (by kernel_rfl) ?_
                  repeat (go_big_quiet_step (first | with_reducible exact CA.out _))
                  refine wpQuiet_nil ?_
                  intro _ hw'
                  have HG2 := Lib.hid (HG.out.trans ((Bk.below_reg hw').mono HG.out.size))
                  go_wp2
                  go_ret
                  exact ⟨rfl, HG2.out⟩
                · go_upto_region 4 with (fail)
                  refine wp_region_quiet_below (by kernel_rfl) (by kernel_rfl) ?_
                  repeat (go_big_quiet_step (first | with_reducible exact CA.out _))
                  refine wpQuiet_nil ?_
                  intro _ hw'
                  have HG2 := Lib.hid (HG.out.trans ((Bk.below_reg hw').mono HG.out.size))
                  go_wp2
                  go_roundw
                  case rel => exact ⟨j + 1 + 1, HK.out, by simp, (fun q hq => by
                    by_cases e : q = j + 1
                    · rw [e]; exact HF.out
                    · exact HS.out q (by omega)), HG2.out⟩
                  case measure => (have := HK.out; simp [intOf]; omega)
    · obtain rfl : k = L.length := by omega
      have dk : ¬ (L.length : Int) < (L.length : Int) := by omega
      obtain rfl : B = true := HB.out.symm.trans (Bk.sorted_yes HS.out)
      go_wp2
      go_ret
      exact ⟨rfl, HG.out⟩
end Go.Proofs.YtfbjmehkipcmbaaGreatDoor

namespace Go.Proofs.YtfbjmehkipcmbaaGreatDoor
open Go.RowKit
theorem Kn.right_all {s : List Kn.C} (h : Kn.right s = true) : s.all Kn.C.good = true := by
  unfold Kn.right at h
  simp only [Bool.and_eq_true] at h
  exact h.2
theorem Kn.test_ways (c : Kn.C) (v : Kn.V) (h : c.good = true) : (Kn.isK c.k v = false ∧ Kn.fits c v = false) ∨ (Kn.isK c.k v = true ∧ v.null = false ∧ Kn.fits c v = true) ∨ (Kn.isK c.k v = true ∧ v.null = true ∧ c.null = true ∧ Kn.fits c v = true) ∨ (Kn.isK c.k v = true ∧ v.null = true ∧ c.null = false ∧ Kn.fits c v = false) := by
  have := Kn.isK_fits c v h
  rw [this]
  cases Kn.isK c.k v <;> cases v.null <;> cases c.null <;> simp
set_option maxHeartbeats 1000000 in
set_option maxRecDepth 100000 in
theorem Kn.rfits_c (v u : Value) (s : List Kn.C) (r : List Kn.V) (w : World) (hs : Kn.Cols w v s) (hr : Kn.Vals w u r) :
    Calls Tryz.prog 78 #[v, u] w fun e w' => e = .returned (.int .i64 (Kn.fitsE s r)) ∧ Below w.heap.size w w' := by
  have cR := Kn.rRight_c v s
  cases hR : Kn.right s
  · rw [Kn.fitsE_bad hR]
    rw [hR] at cR
    go_enter Tryz.func78, Tryz.ntmps78
    go_wp2_with fail
    refine (cR _ hs).mono ?_
    rintro e w1 ⟨rfl, rfl⟩
    go_wp2
    go_ret
    exact ⟨rfl, Below.refl _ _⟩
  · rw [hR] at cR
    have hl := Kn.right_len hR
    have hall := Kn.right_all hR
    by_cases hn : r.length = s.length
    · have k0 := fun hf => Kn.fitsE_ok (s := s) (r := r) hR hn hf
      have k6 := fun hf => Kn.fitsE_kind (s := s) (r := r) hR hn hf
      generalize hE : Kn.fitsE s r = E at *
      clear hE
      have hs0 := hs
      obtain ⟨a, c, rfl, h⟩ := hs
      obtain ⟨a2, c2, rfl, h2⟩ := hr
      rcases h with rfl | ⟨b, o, rfl, hlt, hm, hc⟩
      · simp at hl
      · rcases h2 with rfl | ⟨b2, o2, rfl, hlt2, hm2, hc2⟩
        · simp at hn; omega
        · rw [hn]
          have HA := Lib.hid hall
          clear hall
          go_enter Tryz.func78, Tryz.ntmps78
          go_wp2_with fail
          refine (cR _ hs0).mono ?_
          rintro e w1 ⟨rfl, rfl⟩
          have hz : ((s.length : Int) != (s.length : Int)) = false := by simp
          go_wp2_with fail
          go_loopw [5] (fun i wr => ∃ k : Nat, k ≤ s.length ∧ i = .int .i64 k ∧ Kn.fitsAll s r = Kn.fitsAll (s.drop k) (r.drop k) ∧ Below w1.heap.size w1 wr) (fun i _ => s.length - (intOf i).toNat)
          case atStart => exact ⟨0, by omega, rfl, rfl, Below.refl _ _⟩
          case round =>
            obtain ⟨k, hk, rfl, hg, hb⟩ := hrel
            have HG := Lib.hid hg
            clear hg
            by_cases hkl : k < s.length
            · have hx := List.getElem?_eq_getElem hkl
              have hy := List.getElem?_eq_getElem (show k < r.length by omega)
              generalize s[k] = x at hx
              generalize r[k] = y at hy
              have HS := Lib.hid (Kn.fitsAll_step s r k x y hx hy)
              have hgood := List.all_eq_true.1 HA.out x (List.mem_of_getElem? hx)
              have e0 := (hb.cell (p := ⟨b, o + k * 2, none⟩) hlt).trans (hc k x hx).1
              have e1 := (hb.cell (p := ⟨b, o + k * 2 + 1, none⟩) hlt).trans (hc k x hx).2
              have hy2 := hc2 k y hy
              have f0 := (hb.cell (p := ⟨b2, o2 + k * 3, none⟩) hlt2).trans hy2.c0
              have f1 := (hb.cell (p := ⟨b2, o2 + k * 3 + 1, none⟩) hlt2).trans hy2.c1
              have f2 := (hb.cell (p := ⟨b2, o2 + k * 3 + 2, none⟩) hlt2).trans hy2.c2
              have dk : (k : Int) < (s.length : Int) := by omega
              have dk0 : (0 : Int) ≤ (k : Int) := by omega
              have hW := Kn.test_ways x y hgood
              have cI : ∀ p : Regrown, Calls Tryz.prog 80 #[.int .i64 x.k, .agg #[.bool y.null, .int .i64 y.n, .string y.s]] (Sort.grow (redrawn wr p.d) p.os) fun e w'' => e = .returned (.bool (Kn.isK x.k y)) ∧ ∃ p : Regrown, w'' = Sort.grow (redrawn wr p.d) p.os := fun p => Calls.regrown_of (Kn.rIs_c x.k y _)
              clear hgood hx hy hy2
              have HK6 := Lib.hid k6
              have HK0 := Lib.hid k0
              have HC := Lib.hid hc
              have HC2 := Lib.hid hc2
              clear k6 k0 hc hc2
              rcases hW with ⟨w1', w2'⟩ | ⟨w1', w2', w3'⟩ | ⟨w1', w2', w3', w4'⟩ | ⟨w1', w2', w3', w4'⟩
              · rw [w1'] at cI
                have HF := Lib.hid w2'
                clear w1' w2'
                have E0 := fun d os => cell_regrown e0 d os
                have E1 := fun d os => cell_regrown e1 d os
                have F0 := fun d os => cell_regrown f0 d os
                have F1 := fun d os => cell_regrown f1 d os
                have F2 := fun d os => cell_regrown f2 d os
                have CI := Lib.hid cI
                clear cI
                go_wp2_with fail
                refine wp_region_quiet_below (by kernel_rfl) (by kernel_rfl) ?_
                repeat (go_big_quiet_step (exact CI.out _))
                refine wpQuiet_nil ?_
                intro _ hw'
                obtain ⟨⟨dq, osq⟩, hw''⟩ := hw'
                subst hw''
                go_wp2
                go_ret
                have he := HK6.out (by rw [HG.out, HS.out, HF.out]; rfl)
                subst he
                exact ⟨rfl, hb.trans ((below_regrown wr dq osq).mono hb.size)⟩
              · rw [w1', w2'] at cI
                rw [w2'] at f0
                have HF := Lib.hid w3'
                clear w1' w2' w3'
                have E0 := fun d os => cell_regrown e0 d os
                have E1 := fun d os => cell_regrown e1 d os
                have F0 := fun d os => cell_regrown f0 d os
                have F1 := fun d os => cell_regrown f1 d os
                have F2 := fun d os => cell_regrown f2 d os
                have CI := Lib.hid cI
                clear cI
                go_wp2_with fail
                refine wp_region_quiet_below (by kernel_rfl) (by kernel_rfl) ?_
                repeat (go_big_quiet_step (exact CI.out _))
                refine wpQuiet_nil ?_
                intro _ hw'
                obtain ⟨⟨dq, osq⟩, hw''⟩ := hw'
                subst hw''
                go_wp2
                go_roundw
                case rel => exact ⟨k + 1, by omega, by simp, by rw [HG.out, HS.out, HF.out]; rfl, hb.trans ((below_regrown wr dq osq).mono hb.size)⟩
                case measure => simp [intOf]; omega
              · rw [w1', w2'] at cI
                rw [w2'] at f0
                rw [w3'] at e1
                have HF := Lib.hid w4'
                clear w1' w2' w3' w4'
                have E0 := fun d os => cell_regrown e0 d os
                have E1 := fun d os => cell_regrown e1 d os
                have F0 := fun d os => cell_regrown f0 d os
                have F1 := fun d os => cell_regrown f1 d os
                have F2 := fun d os => cell_regrown f2 d os
                have CI := Lib.hid cI
                clear cI
                go_wp2_with fail
                refine wp_region_quiet_below (by kernel_rfl) (by kernel_rfl) ?_
                repeat (go_big_quiet_step (exact CI.out _))
                refine wpQuiet_nil ?_
                intro _ hw'
                obtain ⟨⟨dq, osq⟩, hw''⟩ := hw'
                subst hw''
                go_wp2
                go_roundw
                case rel => exact ⟨k + 1, by omega, by simp, by rw [HG.out, HS.out, HF.out]; rfl, hb.trans ((below_regrown wr dq osq).mono hb.size)⟩
                case measure => simp [intOf]; omega
              · rw [w1', w2'] at cI
                rw [w2'] at f0
                rw [w3'] at e1
                have HF := Lib.hid w4'
                clear w1' w2' w3' w4'
                have E0 := fun d os => cell_regrown e0 d os
                have E1 := fun d os => cell_regrown e1 d os
                have F0 := fun d os => cell_regrown f0 d os
                have F1 := fun d os => cell_regrown f1 d os
                have F2 := fun d os => cell_regrown f2 d os
                have CI := Lib.hid cI
                clear cI
                go_wp2_with fail
                refine wp_region_quiet_below (by kernel_rfl) (by kernel_rfl) ?_
                repeat (go_big_quiet_step (exact CI.out _))
                refine wpQuiet_nil ?_
                intro _ hw'
                obtain ⟨⟨dq, osq⟩, hw''⟩ := hw'
                subst hw''
                go_wp2
                go_ret
                have he := HK6.out (by rw [HG.out, HS.out, HF.out]; rfl)
                subst he
                exact ⟨rfl, hb.trans ((below_regrown wr dq osq).mono hb.size)⟩
            · obtain rfl : k = s.length := by omega
              have dk : ¬ (s.length : Int) < (s.length : Int) := by omega
              have he := k0 (HG.out.trans (Kn.fitsAll_end s r _ (by omega)))
              clear k6 k0
              subst he
              go_wp2
              go_ret
              exact ⟨rfl, hb⟩
    · rw [Kn.fitsE_len hR hn]
      obtain ⟨a2, c2, rfl, h2⟩ := hr
      have hs0 := hs
      obtain ⟨a, c, rfl, h⟩ := hs
      have hz : ((r.length : Int) != (s.length : Int)) = true := by rw [bne_iff_ne]; omega
      go_enter Tryz.func78, Tryz.ntmps78
      go_wp2_with fail
      refine (cR _ hs0).mono ?_
      rintro e w1 ⟨rfl, rfl⟩
      go_wp2
      go_ret
      exact ⟨rfl, Below.refl _ _⟩
set_option maxHeartbeats 1000000 in
set_option maxRecDepth 100000 in
theorem Kn.rkey_c (v : Value) (s : List Kn.C) (y : Kn.V) (w : World) (hs : Kn.Cols w v s) :
    Calls Tryz.prog 79 #[v, y.val] w fun e w' => e = .returned (.int .i64 (Kn.keyE s y)) ∧ Below w.heap.size w w' := by
  have cR := Kn.rRight_c v s
  cases hR : Kn.right s
  · have hE : Kn.keyE s y = 4 := by unfold Kn.keyE; rw [hR]; rfl
    rw [hE]
    rw [hR] at cR
    clear hE
    go_enter Tryz.func79, Tryz.ntmps79
    go_wp2_with fail
    refine (cR _ (hs.later ((Below.refl _ _).alloc (Nat.le_refl _) _))).mono ?_
    rintro e w1 ⟨rfl, rfl⟩
    go_wp2
    go_ret
    exact ⟨rfl, (Below.refl _ w).alloc (Nat.le_refl _) _⟩
  · rw [hR] at cR
    obtain ⟨x, t, rfl, hxn, hxg⟩ := Kn.right_head hR
    have hE : Kn.keyE (x :: t) y = if Kn.fits x y = true then 0 else 6 := by unfold Kn.keyE; rw [hR]; rfl
    rw [hE]
    clear hE
    have hW : (y.null = true ∧ (if Kn.fits x y = true then (0 : Int) else 6) = 6) ∨ (y.null = false ∧ Kn.isK x.k y = false ∧ (if Kn.fits x y = true then (0 : Int) else 6) = 6) ∨ (y.null = false ∧ Kn.isK x.k y = true ∧ (if Kn.fits x y = true then (0 : Int) else 6) = 0) := by
      have := Kn.isK_fits x y hxg
      rw [this, hxn]
      cases Kn.isK x.k y <;> cases y.null <;> simp
    have hs0 := hs
    obtain ⟨a, c, rfl, h⟩ := hs
    rcases h with h | ⟨b, o, rfl, hlt, hm, hc⟩
    · cases h
    · obtain ⟨c0, c1⟩ := hc 0 x rfl
      rw [Nat.zero_mul, Nat.add_zero] at c0 c1
      have d0 : (0 : Int) < ((x :: t).length : Int) := by rw [List.length_cons]; omega
      have d00 : 0 < (x :: t).length := by rw [List.length_cons]; omega
      have gN : Below w.heap.size w (w.alloc (.cells #[.bool y.null, .int .i64 y.n, .string y.s] 42)) := (Below.refl _ _).alloc (Nat.le_refl _) _
      have hy := Kn.At.new w y 42
      have hs1 := hs0.later gN
      clear hxn hxg hc hs0
      generalize (x :: t).length = m at *
      have e0 := (gN.cell (p := ⟨b, o, none⟩) hlt).trans c0
      have cI := Kn.rIs_c x.k y
      unfold Kn.V.val at cI ⊢
      rcases hW with ⟨hn, hE⟩ | ⟨hn, hi, hE⟩ | ⟨hn, hi, hE⟩
      · obtain ⟨f0, f1, f2⟩ := hy
        rw [hE]
        rw [hn] at f0 gN hs1 e0 f1 f2 ⊢
        clear hE c0 c1 cI hn
        go_enter Tryz.func79, Tryz.ntmps79
        go_wp2_with fail
        refine (cR _ hs1).mono ?_
        rintro e w1 ⟨rfl, rfl⟩
        go_wp2_with fail
        go_quiet (fail)
        go_wp2
        go_ret
        exact ⟨rfl, Kn.below_drewN gN _⟩
      all_goals
        obtain ⟨f0, f1, f2⟩ := hy
        rw [hE]
        rw [hi] at cI
        rw [hn] at f0 gN hs1 e0 f1 f2 cI ⊢
        clear hE c0 c1 hn hi
        go_enter Tryz.func79, Tryz.ntmps79
        go_wp2_with fail
        refine (cR _ hs1).mono ?_
        rintro e w1 ⟨rfl, rfl⟩
        go_wp2_with fail
        generalize w.alloc (.cells #[.bool false, .int .i64 y.n, .string y.s] 42) = wn at f0 f1 f2 e0 gN ⊢
        have E0 := fun d os => cell_regrown e0 d os
        have F0 := fun d os => cell_regrown f0 d os
        have F1 := fun d os => cell_regrown f1 d os
        have F2 := fun d os => cell_regrown f2 d os
        have CI : Hid (∀ p : Regrown, _) := Lib.hid fun p : Regrown => Calls.regrown_of (d := p.d) (os := p.os) (w := wn) (cI _)
        clear cI
        refine wp_region_quiet_below (by kernel_rfl) (by kernel_rfl) ?_
        repeat (go_big_quiet_step (exact CI.out _))
        refine wpQuiet_nil ?_
        intro _ hw'
        obtain ⟨⟨dq, osq⟩, hw''⟩ := hw'
        subst hw''
        go_wp2
        go_ret
        exact ⟨rfl, gN.trans ((below_regrown wn dq osq).mono gN.size)⟩
end Go.Proofs.YtfbjmehkipcmbaaGreatDoor

namespace Go.Proofs.YtfbjmehkipcmbaaGreatDoor
open Go.RowKit
def Kn.sameV (a b : Kn.V) : Bool := (a.null == b.null) && ((a.n == b.n) && (a.s.toList == b.s.toList))
def Kn.sameR : List Kn.V → List Kn.V → Bool
  | a :: l, b :: m => Kn.sameV a b && Kn.sameR l m
  | [], [] => true
  | _, _ => false
theorem Kn.sameR_self : ∀ l : List Kn.V, Kn.sameR l l = true
  | [] => rfl
  | a :: l => by simp [Kn.sameR, Kn.sameV, Kn.sameR_self l]
theorem Kn.sameR_len : ∀ a b : List Kn.V, a.length ≠ b.length → Kn.sameR a b = false
  | [], [], h => absurd rfl h
  | [], _ :: _, _ => rfl
  | _ :: _, [], _ => rfl
  | a :: l, b :: m, h => by
    simp only [Kn.sameR]
    rw [Kn.sameR_len l m (by simpa using h)]
    simp
theorem Kn.sameR_step (s r : List Kn.V) (k : Nat) (c v : Kn.V) (hc : s[k]? = some c) (hv : r[k]? = some v) : Kn.sameR (s.drop k) (r.drop k) = (Kn.sameV c v && Kn.sameR (s.drop (k + 1)) (r.drop (k + 1))) := by
  obtain ⟨h1, rfl⟩ := List.getElem?_eq_some_iff.1 hc
  obtain ⟨h2, rfl⟩ := List.getElem?_eq_some_iff.1 hv
  rw [List.drop_eq_getElem_cons h1, List.drop_eq_getElem_cons h2]
  rfl
theorem Kn.sameR_end (s r : List Kn.V) (k : Nat) (h : ¬ k < s.length) (h2 : r.length = s.length) : Kn.sameR (s.drop k) (r.drop k) = true := by
  rw [List.drop_eq_nil_of_le (by omega), List.drop_eq_nil_of_le (by omega)]
  rfl
theorem Kn.sameV_ways (a b : Kn.V) : (Kn.sameV a b = false ∧ (a.null == b.null) = false) ∨ (Kn.sameV a b = false ∧ (a.null == b.null) = true ∧ (a.n == b.n) = false) ∨ (Kn.sameV a b = false ∧ (a.null == b.null) = true ∧ (a.n == b.n) = true ∧ (a.s.toList == b.s.toList) = false) ∨ (Kn.sameV a b = true ∧ (a.null == b.null) = true ∧ (a.n == b.n) = true ∧ (a.s.toList == b.s.toList) = true) := by
  unfold Kn.sameV
  cases (a.null == b.null) <;> cases (a.n == b.n) <;> cases (a.s.toList == b.s.toList) <;> simp
set_option maxHeartbeats 1000000 in
set_option maxRecDepth 100000 in
theorem Kn.rsame_c (v u : Value) (s r : List Kn.V) (w : World) (hs : Kn.Vals w v s) (hr : Kn.Vals w u r) :
    Calls Tryz.prog 72 #[v, u] w fun e w' => e = .returned (.bool (Kn.sameR s r)) ∧ ∃ n, w' = w.drewN n := by
  obtain ⟨a, c, rfl, h⟩ := hs
  obtain ⟨a2, c2, rfl, h2⟩ := hr
  by_cases hn : r.length = s.length
  · rw [hn]
    have hz : ((s.length : Int) != (s.length : Int)) = false := by simp
    generalize hB : Kn.sameR s r = B
    have HB := Lib.hid hB
    clear hB
    go_enter Tryz.func72, Tryz.ntmps72
    go_wp2
    go_loopw [5] (fun i wr => ∃ k : Nat, k ≤ s.length ∧ i = .int .i64 k ∧ Kn.sameR s r = Kn.sameR (s.drop k) (r.drop k) ∧ ∃ n, wr = w.drewN n) (fun i _ => s.length - (intOf i).toNat)
    case atStart => exact ⟨0, by omega, rfl, rfl, 0, rfl⟩
    case round =>
      obtain ⟨k, hk, rfl, hg, n, rfl⟩ := hrel
      have HG := Lib.hid hg
      clear hg
      by_cases hkl : k < s.length
      · rcases h with rfl | ⟨b, o, rfl, hlt, hm, hc⟩
        · simp at hkl
        · rcases h2 with rfl | ⟨b2, o2, rfl, hlt2, hm2, hc2⟩
          · simp at hn; omega
          · have hx := List.getElem?_eq_getElem hkl
            have hy := List.getElem?_eq_getElem (show k < r.length by omega)
            generalize s[k] = x at hx
            generalize r[k] = y at hy
            have HS := Lib.hid (Kn.sameR_step s r k x y hx hy)
            obtain ⟨e0, e1, e2⟩ := hc k x hx
            obtain ⟨f0, f1, f2⟩ := hc2 k y hy
            have dk : (k : Int) < (s.length : Int) := by omega
            have dk0 : (0 : Int) ≤ (k : Int) := by omega
            have HC := Lib.hid hc
            have HC2 := Lib.hid hc2
            clear hc hc2 hx hy
            rcases Kn.sameV_ways x y with ⟨h0, h1⟩ | ⟨h0, h1, h2⟩ | ⟨h0, h1, h2, h3⟩ | ⟨h0, h1, h2, h3⟩
            all_goals
              have HF := Lib.hid h0
              clear h0
              go_wp2_with fail
              go_quiet (fail)
              go_wp2
            all_goals first
              | (go_ret
                 exact ⟨Kn.retb (by rw [← HB.out, HG.out, HS.out, HF.out]; rfl), by first | exact ⟨_, rfl⟩ | exact ⟨_, World.drewN_drewN _ _ _⟩⟩)
              | (go_roundw
                 case rel => exact ⟨k + 1, by omega, by simp, by rw [HG.out, HS.out, HF.out]; rfl, by first | exact ⟨_, rfl⟩ | exact ⟨_, World.drewN_drewN _ _ _⟩⟩
                 case measure => simp [intOf]; omega)
      · obtain rfl : k = s.length := by omega
        have dk : ¬ (s.length : Int) < (s.length : Int) := by omega
        have he : B = true := HB.out.symm.trans (HG.out.trans (Kn.sameR_end s r _ (by omega) hn))
        subst he
        go_wp2
        go_ret
        exact ⟨rfl, _, rfl⟩
  · rw [Kn.sameR_len s r (fun e => hn e.symm)]
    have hz : ((s.length : Int) != (r.length : Int)) = true := by rw [bne_iff_ne]; omega
    go_enter Tryz.func72, Tryz.ntmps72
    go_wp2
    go_ret
    exact ⟨rfl, 0, rfl⟩
end Go.Proofs.YtfbjmehkipcmbaaGreatDoor

namespace Go.Proofs.YtfbjmehkipcmbaaGreatDoor
open Go.RowKit
end Go.Proofs.YtfbjmehkipcmbaaGreatDoor

namespace Go.Proofs.YtfbjmehkipcmbaaGreatDoor
open Go.RowKit
open Ty (encU num txt)
open Tx (restT)
open Ig (rest sg)
theorem Tx.RS_lt {r : Nat} {s : ByteArray} {w : World} {l : List UInt8} {e : Nat} (h : Ty.RS r s w l e) : r < w.heap.size := by
  obtain ⟨a, _, _, hR⟩ := h
  exact hR.lt
theorem Tx.RS_below {r : Nat} {s : ByteArray} {w w' : World} {l : List UInt8} {e B : Nat} (h : Ty.RS r s w l e) (hb : Below B w w') (hr : r < B) : Ty.RS r s w' l e := by
  obtain ⟨a, h1, h2, hR⟩ := h
  exact ⟨a, h1, h2, hR.below hb hr⟩
theorem Tx.grew_by {w w' : World} {v v' : Value} (h : Ty.Grew w w' v v') {w0 : World} {b : Nat} (g : w0.grownBy w (some b)) (hv : ∀ k, v.ownBlock = some k → w0.heap.size ≤ k) : w0.grownBy w' (some b) :=
  ⟨h.by_.os.trans g.os, h.by_.tape.trans g.tape, h.by_.output.trans g.output, Nat.le_trans g.size h.by_.size, fun k hk hn => (h.by_.block k (Nat.lt_of_lt_of_le hk g.size) (fun e => by have := hv k e.symm; omega)).trans (g.block k hk hn)⟩
theorem Tx.below_by {w w' w0 : World} (h : Below w.heap.size w w') {b : Nat} (g : w0.grownBy w (some b)) : w0.grownBy w' (some b) :=
  ⟨h.os.trans g.os, h.tape.trans g.tape, h.output.trans g.output, Nat.le_trans g.size h.size, fun k hk hn => (h.block k (Nat.lt_of_lt_of_le hk g.size)).trans (g.block k hk hn)⟩
end Go.Proofs.YtfbjmehkipcmbaaGreatDoor

namespace Go.Proofs.YtfbjmehkipcmbaaGreatDoor
open Go.RowKit
theorem Dd.fitE_put {s : List Kn.C} {r : List Kn.V} : Dd.fitE s ⟨false, r⟩ = Kn.fitsE s r := rfl
theorem Dd.fitE_bad {s : List Kn.C} {r : List Kn.V} (h : Kn.right s = false) : Dd.fitE s ⟨true, r⟩ = 4 := by
  unfold Dd.fitE
  rw [if_pos rfl, if_neg (by rw [h]; decide)]
theorem Dd.fitE_len {s : List Kn.C} {r : List Kn.V} (h : Kn.right s = true) (hn : r.length ≠ 1) : Dd.fitE s ⟨true, r⟩ = 7 := by
  unfold Dd.fitE
  rw [if_pos rfl, if_pos h]
  match r, hn with
  | [], _ => rfl
  | [_], hn => exact absurd rfl hn
  | _ :: _ :: _, _ => rfl
theorem Dd.fitE_key {s : List Kn.C} {k : Kn.V} (h : Kn.right s = true) : Dd.fitE s ⟨true, [k]⟩ = Kn.keyE s k := by
  unfold Dd.fitE
  rw [if_pos rfl, if_pos h]
set_option maxHeartbeats 2000000 in
set_option maxRecDepth 100000 in
theorem Dd.rFits_c (v u : Value) (s : List Kn.C) (d : Dd.D) (w : World) (hs : Kn.Cols w v s) (hu : Kn.Vals w u d.row) :
    Calls Tryz.prog 55 #[v, .agg #[.bool d.gone, u]] w fun e w' => e = .returned (.int .i64 (Dd.fitE s d)) ∧ Below w.heap.size w w' := by
  obtain ⟨g, r⟩ := d
  simp only at hu ⊢
  have HS := Lib.hid hs
  have HU := Lib.hid hu
  have HB0 : Hid (Below w.heap.size w (w.alloc (.cells #[.bool g, u] 37))) := Lib.hid ((Below.refl _ _).alloc (Nat.le_refl _) _)
  have HX0 := Lib.hid (Kn.cell_new w #[.bool g, u] 37 0 _ rfl)
  have HX1 := Lib.hid (Kn.cell_new w #[.bool g, u] 37 1 _ rfl)
  simp only [List.getElem_toArray, List.getElem_cons_zero, List.getElem_cons_succ] at HX0 HX1
  have hsz : (w.alloc (.cells #[.bool g, u] 37)).heap.size = w.heap.size + 1 := World.size_alloc ..
  clear hs hu
  cases g
  · rw [Dd.fitE_put]
    go_enter Tryz.func55, Tryz.ntmps55
    go_wp2_with fail
    generalize hwo : w.alloc _ = wo at hsz HX0 HX1 HB0 ⊢
    clear hwo
    have cf := Kn.rfits_c v u s r wo (HS.out.later HB0.out) (HU.out.later HB0.out)
    have x0 := HX0.out
    have x1 := HX1.out
    go_wp2_with fail
    with_reducible refine cf.mono ?_
    rintro e w1 ⟨rfl, g1⟩
    have HB1 := Lib.hid (HB0.out.trans (g1.mono HB0.out.size))
    clear cf g1
    go_wp2
    go_ret
    exact ⟨rfl, HB1.out⟩
  · cases hR : Kn.right s
    · rw [Dd.fitE_bad hR]
      have cR := fun wz h => Kn.rRight_c v s wz h
      rw [hR] at cR
      go_enter Tryz.func55, Tryz.ntmps55
      go_wp2_with fail
      generalize hwo : w.alloc _ = wo at hsz HX0 HX1 HB0 ⊢
      clear hwo
      have cr := cR wo (HS.out.later HB0.out)
      have x0 := HX0.out
      clear cR
      go_wp2_with fail
      with_reducible refine cr.mono ?_
      rintro e w1 ⟨rfl, h1⟩
      subst w1
      go_wp2
      go_ret
      exact ⟨rfl, HB0.out⟩
    · have cR := fun wz h => Kn.rRight_c v s wz h
      rw [hR] at cR
      have HRT := Lib.hid hR
      clear hR
      by_cases hn : r.length = 1
      · obtain ⟨k, rfl⟩ : ∃ k, r = [k] := by
          match r, hn with
          | [k], _ => exact ⟨k, rfl⟩
        rw [Dd.fitE_key HRT.out]
        obtain ⟨a, cp, rfl, h⟩ := HU.out.is
        have h' := h
        rcases h' with h' | ⟨b, o, rfl, hbl, hm, hk⟩
        · cases h'
        · have hA := hk 0 k rfl
          rw [Nat.zero_mul, Nat.add_zero] at hA
          have HA := Lib.hid hA
          clear h hk hA hn
          have ck := fun wz h => Kn.rkey_c v s k wz h
          go_enter Tryz.func55, Tryz.ntmps55
          go_wp2_with fail
          generalize hwo : w.alloc _ = wo at hsz HX0 HX1 HB0 ⊢
          clear hwo
          have cr := cR wo (HS.out.later HB0.out)
          have ck1 := ck wo (HS.out.later HB0.out)
          obtain ⟨k0, k1, k2⟩ := HA.out.later HB0.out
          have x0 := HX0.out
          have x1 := HX1.out
          clear cR ck
          simp only [List.length_cons, List.length_nil] at x1 ⊢
          go_wp2_with fail
          with_reducible refine cr.mono ?_
          rintro e w1 ⟨rfl, h1⟩
          subst w1
          go_wp2_with fail
          with_reducible refine ck1.mono ?_
          rintro e w2 ⟨rfl, g2⟩
          have HB2 := Lib.hid (HB0.out.trans (g2.mono HB0.out.size))
          clear ck1 g2
          go_wp2
          go_ret
          exact ⟨rfl, HB2.out⟩
      · rw [Dd.fitE_len HRT.out hn]
        obtain ⟨a, cp, rfl, h⟩ := HU.out.is
        have hni : ((r.length : Int) != 1) = true := by rw [bne_iff_ne]; omega
        clear h hn
        go_enter Tryz.func55, Tryz.ntmps55
        go_wp2_with fail
        generalize hwo : w.alloc _ = wo at hsz HX0 HX1 HB0 ⊢
        clear hwo
        have cr := cR wo (HS.out.later HB0.out)
        have x0 := HX0.out
        have x1 := HX1.out
        clear cR
        go_wp2_with fail
        with_reducible refine cr.mono ?_
        rintro e w1 ⟨rfl, h1⟩
        subst w1
        go_wp2
        go_ret
        exact ⟨rfl, HB0.out⟩
def Dd.same (a b : Dd.D) : Bool := (a.gone == b.gone) && Kn.sameR a.row b.row
set_option maxHeartbeats 2000000 in
set_option maxRecDepth 100000 in
theorem Dd.rsame_c (u v : Value) (a b : Dd.D) (w : World) (hu : Kn.Vals w u a.row) (hv : Kn.Vals w v b.row) :
    Calls Tryz.prog 41 #[.agg #[.bool a.gone, u], .agg #[.bool b.gone, v]] w fun e w' => e = .returned (.bool (Dd.same a b)) ∧ Below w.heap.size w w' := by
  obtain ⟨ga, ra⟩ := a
  obtain ⟨gb, rb⟩ := b
  simp only at hu hv ⊢
  unfold Dd.same
  simp only
  have hG0 : Below w.heap.size w ((w.alloc (.cells #[.bool ga, u] 37)).alloc (.cells #[.bool gb, v] 37)) := ((Below.refl _ w).alloc (Nat.le_refl _) _).alloc (by simp) _
  have hb := (Below.refl _ (w.alloc (.cells #[.bool ga, u] 37))).alloc (Nat.le_refl _) (.cells #[.bool gb, v] 37)
  have x0 := (hb.cell (p := ⟨w.heap.size, 0, none⟩) (by simp)).trans (Kn.cell_new w #[.bool ga, u] 37 0 _ rfl)
  have x1 := (hb.cell (p := ⟨w.heap.size, 1, none⟩) (by simp)).trans (Kn.cell_new w #[.bool ga, u] 37 1 _ rfl)
  have y0 := Kn.cell_new (w.alloc (.cells #[.bool ga, u] 37)) #[.bool gb, v] 37 0 _ rfl
  have y1 := Kn.cell_new (w.alloc (.cells #[.bool ga, u] 37)) #[.bool gb, v] 37 1 _ rfl
  rw [World.size_alloc] at y0 y1
  simp only [List.getElem_toArray, List.getElem_cons_zero, List.getElem_cons_succ] at x0 x1 y0 y1
  have cs := Kn.rsame_c u v ra rb _ (hu.later hG0) (hv.later hG0)
  have HX := Lib.hid (And.intro (And.intro x0 x1) (And.intro y0 y1))
  have HG0 := Lib.hid hG0
  generalize Kn.sameR ra rb = S at cs ⊢
  clear hG0 hb x0 x1 y0 y1 hu hv
  cases ga <;> cases gb
  all_goals
    go_enter Tryz.func41, Tryz.ntmps41
    go_wp2_with fail
  · generalize World.alloc _ _ = wo at HX HG0 cs ⊢
    obtain ⟨⟨x0, x1⟩, y0, y1⟩ := HX.out
    go_wp2_with fail
    with_reducible refine cs.mono ?_
    rintro e w1 ⟨rfl, n, h1⟩
    subst w1
    go_wp2
    go_ret
    exact ⟨by simp, Kn.below_drewN HG0.out n⟩
  · generalize World.alloc _ _ = wo at HX HG0 cs ⊢
    obtain ⟨⟨x0, x1⟩, y0, y1⟩ := HX.out
    go_wp2
    go_ret
    exact ⟨by simp, HG0.out⟩
  · generalize World.alloc _ _ = wo at HX HG0 cs ⊢
    obtain ⟨⟨x0, x1⟩, y0, y1⟩ := HX.out
    go_wp2
    go_ret
    exact ⟨by simp, HG0.out⟩
  · generalize World.alloc _ _ = wo at HX HG0 cs ⊢
    obtain ⟨⟨x0, x1⟩, y0, y1⟩ := HX.out
    go_wp2_with fail
    with_reducible refine cs.mono ?_
    rintro e w1 ⟨rfl, n, h1⟩
    subst w1
    go_wp2
    go_ret
    exact ⟨by simp, Kn.below_drewN HG0.out n⟩
end Go.Proofs.YtfbjmehkipcmbaaGreatDoor

namespace Go.Proofs.YtfbjmehkipcmbaaGreatDoor
open Go.RowKit
theorem Bk.firstE_drop {s : List Kn.C} {L : List Dd.D} {k : Nat} {d : Dd.D} (h : L[k]? = some d) : Bk.firstE s (L.drop k) = if Dd.fitE s d = 0 then Bk.firstE s (L.drop (k + 1)) else Dd.fitE s d := by
  obtain ⟨hk, rfl⟩ := List.getElem?_eq_some_iff.1 h
  rw [List.drop_eq_getElem_cons hk]
  rfl
theorem Bk.reti {a b : Int} (h : a = b) : Ending.returned (.int .i64 a) = Ending.returned (.int .i64 b) := by rw [h]
set_option maxHeartbeats 2000000 in
set_option maxRecDepth 100000 in
theorem Bk.rfits_c (vs v : Value) (s : List Kn.C) (L : List Dd.D) (w : World) (hs : Kn.Cols w vs s) (hv : Bk.Ds w v L) (hz : Bk.Zs L) :
    Calls Tryz.prog 25 #[vs, v] w fun e w' => e = .returned (.int .i64 (Bk.fitsE s L)) ∧ Below w.heap.size w w' := by
  have HV := Lib.hid hv
  have HCS := Lib.hid hs
  have CS := Lib.hid fun wz h => Bk.rsorted_c v L wz h hz
  have CF := Lib.hid fun u d wz h1 h2 => Dd.rFits_c vs u s d wz h1 h2
  have HF : Hid (Bk.fitsE s L = if Bk.firstE s L = 0 then (if Bk.sorted L = true then 0 else 1) else Bk.firstE s L) := Lib.hid rfl
  have HD : Hid (∀ (k : Nat) (d : Dd.D), L[k]? = some d → Bk.firstE s (L.drop k) = if Dd.fitE s d = 0 then Bk.firstE s (L.drop (k + 1)) else Dd.fitE s d) := Lib.hid fun k d h => Bk.firstE_drop h
  obtain ⟨a, c, rfl, hlc, hcm, h⟩ := hv
  have HH := Lib.hid h
  clear h hs hz
  generalize hB : Bk.fitsE s L = B at HF
  clear hB
  generalize hS : Bk.sorted L = S at CS HF
  clear hS
  go_enter Tryz.func25, Tryz.ntmps25
  go_wp2_with fail
  go_loopw [5] (fun i wr => ∃ k : Nat, k ≤ L.length ∧ i = .int .i64 k ∧ Bk.firstE s L = Bk.firstE s (L.drop k) ∧ Below w.heap.size w wr) (fun i _ => L.length - (intOf i).toNat)
  case atStart => exact ⟨0, Nat.zero_le _, rfl, rfl, Below.refl _ _⟩
  case round =>
    obtain ⟨k, hk, rfl, hf, hg⟩ := hrel
    have HE := Lib.hid hf
    have HG := Lib.hid hg
    clear hf
    by_cases hkl : k < L.length
    · rcases HH.out with rfl | ⟨b, o, rfl, hlt, hc⟩
      · simp at hkl
      · have hx := List.getElem?_eq_getElem hkl
        generalize L[k] = d at hx
        have HN := Lib.hid (HE.out.trans (HD.out k d hx))
        obtain ⟨u, c0, c1, hu⟩ := hc k d hx
        have HU := Lib.hid (hu.later hg)
        have c0 := (hg.cell (p := ⟨b, o + k * 2, none⟩) hlt).trans c0
        have c1 := (hg.cell (p := ⟨b, o + k * 2 + 1, none⟩) hlt).trans c1
        have dk : (k : Int) < (L.length : Int) := by omega
        have dk0 : (0 : Int) ≤ (k : Int) := by omega
        have HK := Lib.hid hkl
        have HC := Lib.hid hc
        have hu2 := HU.out
        obtain ⟨ua, uc, rfl, -⟩ := hu2
        clear hc hx hkl hk hu hg
        go_wp2_with fail
        with_reducible refine (CF.out _ d wr (HCS.out.later HG.out) HU.out).mono ?_
        rintro e w1 ⟨rfl, g1⟩
        have HG1 := Lib.hid (HG.out.trans (g1.mono HG.out.size))
        clear g1
        generalize Dd.fitE s d = E at HN
        by_cases hE : E = 0
        · subst hE
          have HN2 : Hid (Bk.firstE s L = Bk.firstE s (L.drop (k + 1))) := Lib.hid (by rw [HN.out, if_pos rfl])
          go_wp2
          go_roundw
          case rel => exact ⟨k + 1, HK.out, by simp, HN2.out, HG1.out⟩
          case measure => (have := HK.out; simp [intOf]; omega)
        · have hEb : (E != 0) = true := by rw [bne_iff_ne]; exact hE
          have HB : Hid (B = E) := Lib.hid (by rw [HF.out, if_neg (by rw [HN.out, if_neg hE]; exact hE), HN.out, if_neg hE])
          clear hE
          go_wp2
          go_ret
          exact ⟨Bk.reti HB.out.symm, HG1.out⟩
    · obtain rfl : k = L.length := by omega
      have h0 : Bk.firstE s L = 0 := by rw [HE.out, List.drop_eq_nil_of_le (Nat.le_refl _)]; rfl
      have HB : Hid (B = if S = true then 0 else 1) := Lib.hid (by rw [HF.out, if_pos h0])
      have dk : ¬ (L.length : Int) < (L.length : Int) := by omega
      clear h0 hk hkl
      go_wp2_with fail
      with_reducible refine (CS.out wr (HV.out.later HG.out)).mono ?_
      rintro e w1 ⟨rfl, g1⟩
      have HG1 := Lib.hid (HG.out.trans (g1.mono HG.out.size))
      clear g1
      cases S
      · go_wp2
        go_ret
        exact ⟨Bk.reti HB.out.symm, HG1.out⟩
      · go_wp2
        go_ret
        exact ⟨Bk.reti HB.out.symm, HG1.out⟩
theorem Bk.col_take {L : List Dd.D} {k i : Nat} {d : Dd.D} (h : L[k]? = some d) : Bk.col (L.take (k + 1)) i = if Bk.has i d = true then Bk.col (L.take k) i ++ [d.row.getD i Cl.nul] else Bk.col (L.take k) i := by
  obtain ⟨hk, rfl⟩ := List.getElem?_eq_some_iff.1 h
  unfold Bk.col
  rw [List.take_succ_eq_append_getElem hk, List.filter_append, List.map_append]
  cases hh : Bk.has i L[k]
  · rw [if_neg (by decide), List.filter_cons, hh]
    simp
  · rw [if_pos rfl, List.filter_cons, hh]
    simp
set_option maxHeartbeats 4000000 in
set_option maxRecDepth 100000 in
theorem Bk.rcolumn_c (v : Value) (L : List Dd.D) (i : Nat) (h8 : L.length ≤ 8) (hi6 : i < 6) (hr : ∀ d ∈ L, Bk.has i d = true → i < d.row.length) (w : World) (hv : Bk.Ds w v L) :
    Calls Tryz.prog 29 #[v, .int .i64 i] w fun e w' => ∃ u, e = .returned u ∧ Kn.Vals w' u (Bk.col L i) ∧ Below w.heap.size w w' := by
  obtain ⟨a, c, rfl, hlc, hcm, h⟩ := hv
  have HH := Lib.hid h
  have HR := Lib.hid hr
  have H8 := Lib.hid h8
  have HT : Hid (∀ (k : Nat) (d : Dd.D), L[k]? = some d → Bk.col (L.take (k + 1)) i = if Bk.has i d = true then Bk.col (L.take k) i ++ [d.row.getD i Cl.nul] else Bk.col (L.take k) i) := Lib.hid fun k d h => Bk.col_take h
  have HLT : Hid (∀ k, (Bk.col (L.take k) i).length ≤ 8) := Lib.hid fun k => by
    unfold Bk.col
    rw [List.length_map]
    exact Nat.le_trans (List.length_filter_le _ _) (Nat.le_trans (List.length_take_le' _ _) h8)
  clear h hr h8
  have hi0 : (0 : Int) ≤ (i : Int) := by omega
  go_enter Tryz.func29, Tryz.ntmps29
  go_wp2_with fail
  go_loopw [6, 5] (fun q u wr => ∃ k : Nat, k ≤ L.length ∧ q = .int .i64 k ∧ Cl.Own w.heap.size wr u (Bk.col (L.take k) i) ∧ Below w.heap.size w wr) (fun q _ _ => L.length - (intOf q).toNat)
  case atStart => exact ⟨0, Nat.zero_le _, rfl, Cl.Own.nil _ _, Below.refl _ _⟩
  case round =>
    obtain ⟨k, hk, rfl, ho, hg⟩ := hrel
    have HO := Lib.hid ho
    have HG := Lib.hid hg
    clear ho
    by_cases hkl : k < L.length
    · rcases HH.out with rfl | ⟨b, o, rfl, hlt, hc⟩
      · simp at hkl
      · have hx := List.getElem?_eq_getElem hkl
        have hm := List.getElem_mem hkl
        generalize L[k] = d at hx hm
        have HN := Lib.hid (HT.out k d hx)
        obtain ⟨u0, c0, c1, hu⟩ := hc k d hx
        have hu := hu.later hg
        have c0 := (hg.cell (p := ⟨b, o + k * 2, none⟩) hlt).trans c0
        have c1 := (hg.cell (p := ⟨b, o + k * 2 + 1, none⟩) hlt).trans c1
        have dk : (k : Int) < (L.length : Int) := by omega
        have dk0 : (0 : Int) ≤ (k : Int) := by omega
        have HK := Lib.hid hkl
        have HC := Lib.hid hc
        have HM := Lib.hid (HR.out d hm)
        obtain ⟨ua, uc, rfl, huc⟩ := hu
        have HUC := Lib.hid huc
        clear hc hx hkl hk hg hm huc
        obtain ⟨dg, dr⟩ := d
        simp only at c0 c1 HM HUC
        cases hh : Bk.has i ⟨dg, dr⟩
        · obtain ⟨hgone, hi1⟩ := Bk.has_gone hh
          simp only at hgone
          subst hgone
          have hib : ((i : Int) == 0) = false := by rw [beq_eq_false_iff_ne]; omega
          have HN2 : Hid (Bk.col (L.take (k + 1)) i = Bk.col (L.take k) i) := Lib.hid (by rw [HN.out, hh, if_neg (by decide)])
          clear hh hi1
          go_wp2
          go_roundw
          case rel => exact ⟨k + 1, HK.out, by simp, by rw [HN2.out]; exact HO.out, HG.out⟩
          case measure => (have := HK.out; simp [intOf]; omega)
        · have hil := HM.out hh
          have HN2 : Hid (Bk.col (L.take (k + 1)) i = Bk.col (L.take k) i ++ [dr.getD i Cl.nul]) := Lib.hid (by rw [HN.out, hh, if_pos rfl])
          have hgt : dr[i]? = some (dr.getD i Cl.nul) := by rw [List.getD_eq_getElem?_getD, List.getElem?_eq_getElem hil]; rfl
          rcases HUC.out with h0 | ⟨b2, o2, rfl, hlt2, hm2, hcc⟩
          · rw [h0] at hil; simp at hil
          · obtain ⟨e0, e1, e2⟩ := hcc i _ hgt
            have dil : (i : Int) < (dr.length : Int) := by omega
            have hO := HO.out
            have hl := HLT.out k
            have hsz := HG.out.size
            generalize dr.getD i Cl.nul = x at HN2 e0 e1 e2
            clear hcc hgt hil HUC HM
            have hways : (((i : Int) == 0) = true) ∨ (((i : Int) == 0) = false ∧ dg = false) := by
              unfold Bk.has at hh
              cases hi' : (i == 0)
              · rw [hi'] at hh
                right
                refine ⟨?_, by simpa using hh⟩
                rw [beq_eq_false_iff_ne] at hi' ⊢
                omega
              · left
                rw [beq_iff_eq] at hi' ⊢
                omega
            clear hh
            rcases hways with hib | ⟨hib, rfl⟩
            all_goals
              go_wp2_with (at_builtin; refine Cl.wpList_append_val x hO (by omega) (by omega) (.tmp 23) (.tmp 32) _ rfl rfl rfl rfl rfl ?_; intro v5 w5 h5 g5)
              have H5 := Lib.hid h5
              have HB5 := Lib.hid (Cl.own_below HG.out hO g5)
              clear h5 g5 hO
              go_roundw
              case rel => exact ⟨k + 1, HK.out, by simp, by rw [HN2.out]; exact H5.out, HB5.out⟩
              case measure => (have := HK.out; simp [intOf]; omega)
    · obtain rfl : k = L.length := by omega
      have dk : ¬ (L.length : Int) < (L.length : Int) := by omega
      have HO2 : Hid (Cl.Own w.heap.size wr _ (Bk.col L i)) := Lib.hid (by have := HO.out; rw [List.take_length] at this; exact this)
      go_wp2
      go_ret
      exact ⟨_, rfl, HO2.out.vals, HG.out⟩
end Go.Proofs.YtfbjmehkipcmbaaGreatDoor
