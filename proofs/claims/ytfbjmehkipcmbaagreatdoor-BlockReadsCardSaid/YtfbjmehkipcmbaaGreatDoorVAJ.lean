/-
  The document's answers for block: deeds in memory; which deeds are sorted.
  Contracts of the document's answers for kinds: rows and keys.
  Contracts of package kinds: rows that are the same; keys in a range. The document's answers for these.
  Contracts of the document's answers for tally: the cursor's texts.
  The document's cursor in hand: what of it stays, its strings of at most 64 bytes.
  The document's answers for package deeds: which deeds fit, which are the same; a truth's byte, written and read.
  The document's answers for block: which deeds fit; a column's values.
-/
import Derived.Test.YtfbjmehkipcmbaaGreatDoorVAI
import Derived.Test.YtfbjmehkipcmbaaGreatDoorVAA
import Derived.Lib.QuietBelow
import Derived.BigQuiet
import Derived.Test.YtfbjmehkipcmbaaGreatDoorVAE
import Derived.Test.YtfbjmehkipcmbaaGreatDoorVAC
import Derived.Test.YtfbjmehkipcmbaaGreatDoorVAD
namespace Go.Proofs.YtfbjmehkipcmbaaGreatDoor
open Go.RowKit
structure Bk.Ds (w : World) (v : Value) (L : List Dd.D) : Prop where
  is : ∃ a c, v = .slice a L.length c ∧ L.length ≤ c ∧ c ≤ 9223372036854775807 ∧ (L = [] ∨ ∃ b o, a = some ⟨b, o, none⟩ ∧ b < w.heap.size ∧
    ∀ i x, L[i]? = some x → ∃ u, w.cell? ⟨b, o + i * 2, none⟩ = some (.bool x.gone) ∧ w.cell? ⟨b, o + i * 2 + 1, none⟩ = some u ∧ Kn.Vals w u x.row)
theorem Bk.Ds.later {w w' : World} {v : Value} {L : List Dd.D} (h : Bk.Ds w v L) (g : Below w.heap.size w w') : Bk.Ds w' v L := by
  obtain ⟨a, c, hv, h1, h2, h⟩ := h
  refine ⟨a, c, hv, h1, h2, ?_⟩
  rcases h with h | ⟨b, o, ha, hb, h⟩
  · exact .inl h
  · refine .inr ⟨b, o, ha, Nat.lt_of_lt_of_le hb g.size, fun i x hx => ?_⟩
    obtain ⟨u, c0, c1, hu⟩ := h i x hx
    exact ⟨u, (g.cell (p := ⟨b, o + i * 2, none⟩) hb).trans c0, (g.cell (p := ⟨b, o + i * 2 + 1, none⟩) hb).trans c1, hu.later g⟩
def Bk.Zs (L : List Dd.D) : Prop := ∀ d ∈ L, ∀ v ∈ d.row, Kn.Z v
theorem Bk.below_reg {w w' : World} (h : ∃ p : Regrown, w' = Sort.grow (redrawn w p.d) p.os) : Below w.heap.size w w' := by
  obtain ⟨p, rfl⟩ := h
  exact below_regrown w p.d p.os
theorem Bk.step_empty {L : List Dd.D} {k : Nat} {d : Dd.D} (h : L[k]? = some d) (he : d.row = []) : Bk.step L k = false := by
  unfold Bk.step
  rw [List.getD_eq_getElem?_getD, h, Option.getD_some, he]
  rfl
theorem Bk.step_first {L : List Dd.D} {d : Dd.D} (h : L[0]? = some d) (he : d.row ≠ []) : Bk.step L 0 = true := by
  unfold Bk.step
  rw [List.getD_eq_getElem?_getD, h, Option.getD_some]
  cases hr : d.row with
  | nil => exact absurd hr he
  | cons x r => rfl
theorem Bk.step_next {L : List Dd.D} {j : Nat} {d p : Dd.D} {x y : Kn.V} (h : L[j + 1]? = some d) (hp : L[j]? = some p) (hx : d.row[0]? = some x) (hy : p.row[0]? = some y) : Bk.step L (j + 1) = decide (Kn.cmp y x < 0) := by
  unfold Bk.step Bk.key
  rw [List.getD_eq_getElem?_getD, h, Option.getD_some, Nat.add_sub_cancel, List.getD_eq_getElem?_getD, hp, Option.getD_some]
  obtain ⟨dg, dr⟩ := d
  obtain ⟨pg, pr⟩ := p
  cases dr with
  | nil => simp at hx
  | cons a r =>
    cases pr with
    | nil => simp at hy
    | cons b q =>
      obtain rfl : a = x := by simpa using hx
      obtain rfl : b = y := by simpa using hy
      simp
theorem Bk.step_row {L : List Dd.D} {k : Nat} {d : Dd.D} (h : L[k]? = some d) (hs : Bk.step L k = true) : d.row ≠ [] := fun he => by
  rw [Bk.step_empty h he] at hs
  cases hs
theorem Bk.sorted_no {L : List Dd.D} {k : Nat} (hk : k < L.length) (h : Bk.step L k = false) : Bk.sorted L = false := by
  unfold Bk.sorted
  rw [List.all_eq_false]
  exact ⟨k, List.mem_range.2 hk, by rw [h]; decide⟩
theorem Bk.sorted_yes {L : List Dd.D} (h : ∀ j, j < L.length → Bk.step L j = true) : Bk.sorted L = true := by
  unfold Bk.sorted
  rw [List.all_eq_true]
  exact fun j hj => h j (List.mem_range.1 hj)
set_option maxHeartbeats 4000000 in
set_option maxRecDepth 100000 in
theorem Bk.rsorted_c (v : Value) (L : List Dd.D) (w : World) (hv : Bk.Ds w v L) (hz : Bk.Zs L) : Calls Tryz.prog 12 #[v] w fun e w' => e = .returned (.bool (Bk.sorted L)) ∧ Below w.heap.size w w' := by
  obtain ⟨a, c, rfl, hlc, hcm, h⟩ := hv
  have HH := Lib.hid h
  have HZ := Lib.hid hz
  clear h hz
  generalize hB : Bk.sorted L = B
  have HB := Lib.hid hB
  clear hB
  go_enter Tryz.func12, Tryz.ntmps12
  go_wp2_with fail
  go_loopw [3] (fun i wr => ∃ k : Nat, k ≤ L.length ∧ i = .int .i64 k ∧ (∀ j, j < k → Bk.step L j = true) ∧ Below w.heap.size w wr) (fun i _ => L.length - (intOf i).toNat)
  case atStart => exact ⟨0, Nat.zero_le _, rfl, (fun j hj => by omega), Below.refl _ _⟩
  case round =>
    obtain ⟨k, hk, rfl, hs, hg⟩ := hrel
    have HS := Lib.hid hs
    have HG := Lib.hid hg
    clear hs
    by_cases hkl : k < L.length
    · rcases HH.out with rfl | ⟨b, o, rfl, hlt, hc⟩
      · simp at hkl
      · have hx := List.getElem?_eq_getElem hkl
        have hm := List.getElem_mem hkl
        generalize L[k] = d at hx hm
        obtain ⟨u, c0, c1, hu⟩ := hc k d hx
        have hu := hu.later hg
        have c1 := (hg.cell (p := ⟨b, o + k * 2 + 1, none⟩) hlt).trans c1
        have dk : (k : Int) < (L.length : Int) := by omega
        have dk0 : (0 : Int) ≤ (k : Int) := by omega
        have HK := Lib.hid hkl
        have HX := Lib.hid hx
        have HC := Lib.hid hc
        obtain ⟨ua, uc, rfl, huc⟩ := hu
        clear hc hx c0 hkl hk
        by_cases he : d.row = []
        · have HE := Lib.hid (Bk.sorted_no HK.out (Bk.step_empty HX.out he))
          obtain rfl : B = false := HB.out.symm.trans HE.out
          rw [he] at c1
          simp only [List.length_nil] at c1
          have C1 := fun d os => cell_regrown c1 d os
          clear huc hm c1
          go_upto_region 4 with (fail)
          refine wp_region_quiet_below (by kernel_rfl) (by kernel_rfl) ?_
          repeat (go_big_quiet_step (fail))
          refine wpQuiet_nil ?_
          intro _ hw'
          have HG2 := Lib.hid (HG.out.trans ((Bk.below_reg hw').mono HG.out.size))
          go_wp2
          go_ret
          exact ⟨rfl, HG2.out⟩
        · have C1 := fun d os => cell_regrown c1 d os
          have hz0 : ((d.row.length : Int) == 0) = false := by
            rw [beq_eq_false_iff_ne]
            have := List.length_pos_iff.2 he
            omega
          rcases huc with h0 | ⟨b2, o2, rfl, hlt2, hm2, hcc⟩
          · exact absurd h0 he
          · have hp0 : 0 < d.row.length := List.length_pos_iff.2 he
            have hx0 := List.getElem?_eq_getElem hp0
            have hzx := HZ.out d hm _ (List.getElem_mem hp0)
            generalize d.row[0] = x at hx0 hzx
            obtain ⟨e0, e1, e2⟩ := hcc 0 x hx0
            simp only [Nat.zero_mul, Nat.add_zero] at e0 e1 e2
            have E0 := fun d os => cell_regrown e0 d os
            have E1 := fun d os => cell_regrown e1 d os
            have E2 := fun d os => cell_regrown e2 d os
            have HE := Lib.hid he
            have hp1 : (0 : Int) < (d.row.length : Int) := by omega
            cases k with
            | zero =>
              have HF := Lib.hid (Bk.step_first HX.out he)
              clear hcc e0 e1 e2 hm hzx hp0 he
              go_upto_region 4 with (fail)
              refine wp_region_quiet_below (by kernel_rfl) (by kernel_rfl) ?_
              repeat (go_big_quiet_step (fail))
              refine wpQuiet_nil ?_
              intro _ hw'
              have HG2 := Lib.hid (HG.out.trans ((Bk.below_reg hw').mono HG.out.size))
              go_wp2
              go_roundw
              case rel => exact ⟨1, HK.out, by simp, (fun j hj => by obtain rfl : j = 0 := (by omega); exact HF.out), HG2.out⟩
              case measure => (have := HK.out; simp [intOf]; omega)
            | succ j =>
              have hjl : j < L.length := by have := HK.out; omega
              have hy := List.getElem?_eq_getElem hjl
              have hmy := List.getElem_mem hjl
              generalize L[j] = p at hy hmy
              obtain ⟨u2, d0, d1, hu2⟩ := HC.out j p hy
              have hu2 := hu2.later HG.out
              have d1 := (HG.out.cell (p := ⟨b, o + j * 2 + 1, none⟩) hlt).trans d1
              have hpe := Bk.step_row hy (HS.out j (by omega))
              obtain ⟨ua2, uc2, rfl, huc2⟩ := hu2
              rcases huc2 with h0 | ⟨b3, o3, rfl, hlt3, hm3, hcc3⟩
              · exact absurd h0 hpe
              · have hq0 : 0 < p.row.length := List.length_pos_iff.2 hpe
                have hy0 := List.getElem?_eq_getElem hq0
                have hzy := HZ.out p hmy _ (List.getElem_mem hq0)
                generalize p.row[0] = y at hy0 hzy
                obtain ⟨g0, g1, g2⟩ := hcc3 0 y hy0
                simp only [Nat.zero_mul, Nat.add_zero] at g0 g1 g2
                have G0 := fun d os => cell_regrown g0 d os
                have G1 := fun d os => cell_regrown g1 d os
                have G2 := fun d os => cell_regrown g2 d os
                have D1 := fun d os => cell_regrown d1 d os
                have HF := Lib.hid (Bk.step_next HX.out hy hx0 hy0)
                have cA := Kn.rAhead_c y x hzy hzx
                generalize decide (Kn.cmp y x < 0) = A at HF cA
                unfold Kn.V.val at cA
                have CA : Hid (∀ p : Regrown, _) := Lib.hid fun p : Regrown => Calls.regrown_of (d := p.d) (os := p.os) (w := wr) (cA _)
                have hq1 : (0 : Int) < (p.row.length : Int) := by omega
                have hwr : IntKind.i64.wrap ((j : Int) + 1 - 1) = (j : Int) := by rw [IntKind.wrap_i64]; omega
                have hwr2 : IntKind.i64.wrap (j : Int) = (j : Int) := by rw [IntKind.wrap_i64]; omega
                have dj : (j : Int) < (L.length : Int) := by omega
                have dj0 : (0 : Int) ≤ (j : Int) := by omega
                have dj1 : (0 : Int) < (j : Int) + 1 := by omega
                simp only [Int.natCast_add, Int.natCast_one] at dk dk0
                have HJ := Lib.hid hjl
                clear hcc hcc3 e0 e1 e2 g0 g1 g2 d0 d1 c1 hm hmy hzx hzy hp0 hq0 he hpe hy hx0 hy0 cA hjl
                cases A
                · obtain rfl : B = false := HB.out.symm.trans (Bk.sorted_no HK.out HF.out)
                  go_upto_region 4 with (fail)
                  refine wp_region_quiet_below (by kernel_rfl) (by kernel_rfl) ?_
                  repeat (go_big_quiet_step (first | with_reducible exact CA.out _))
                  refine wpQuiet_nil ?_
                  intro _ hw'
                  have HG2 := Lib.hid (HG.out.trans ((Bk.below_reg hw').mono HG.out.size))
                  go_wp2
                  go_ret
                  exact ⟨rfl, HG2.out⟩
                · go_upto_region 4 with (fail)
                  refine wp_region_quiet_below (by kernel_rfl) (by kernel_rfl) ?_
                  repeat (go_big_quiet_step (first | with_reducible exact CA.out _))
                  refine wpQuiet_nil ?_
                  intro _ hw'
                  have HG2 := Lib.hid (HG.out.trans ((Bk.below_reg hw').mono HG.out.size))
                  go_wp2
                  go_roundw
                  case rel => exact ⟨j + 1 + 1, HK.out, by simp, (fun q hq => by
                    by_cases e : q = j + 1
                    · rw [e]; exact HF.out
                    · exact HS.out q (by omega)), HG2.out⟩
                  case measure => (have := HK.out; simp [intOf]; omega)
    · obtain rfl : k = L.length := by omega
      have dk : ¬ (L.length : Int) < (L.length : Int) := by omega
      obtain rfl : B = true := HB.out.symm.trans (Bk.sorted_yes HS.out)
      go_wp2
      go_ret
      exact ⟨rfl, HG.out⟩
end Go.Proofs.YtfbjmehkipcmbaaGreatDoor

namespace Go.Proofs.YtfbjmehkipcmbaaGreatDoor
open Go.RowKit
theorem Kn.right_all {s : List Kn.C} (h : Kn.right s = true) : s.all Kn.C.good = true := by
  unfold Kn.right at h
  simp only [Bool.and_eq_true] at h
  exact h.2
end Go.Proofs.YtfbjmehkipcmbaaGreatDoor

namespace Go.Proofs.YtfbjmehkipcmbaaGreatDoor
open Go.RowKit
def Kn.sameV (a b : Kn.V) : Bool := (a.null == b.null) && ((a.n == b.n) && (a.s.toList == b.s.toList))
def Kn.sameR : List Kn.V → List Kn.V → Bool
  | a :: l, b :: m => Kn.sameV a b && Kn.sameR l m
  | [], [] => true
  | _, _ => false
theorem Kn.sameR_self : ∀ l : List Kn.V, Kn.sameR l l = true
  | [] => rfl
  | a :: l => by simp [Kn.sameR, Kn.sameV, Kn.sameR_self l]
theorem Kn.sameR_len : ∀ a b : List Kn.V, a.length ≠ b.length → Kn.sameR a b = false
  | [], [], h => absurd rfl h
  | [], _ :: _, _ => rfl
  | _ :: _, [], _ => rfl
  | a :: l, b :: m, h => by
    simp only [Kn.sameR]
    rw [Kn.sameR_len l m (by simpa using h)]
    simp
theorem Kn.sameR_step (s r : List Kn.V) (k : Nat) (c v : Kn.V) (hc : s[k]? = some c) (hv : r[k]? = some v) : Kn.sameR (s.drop k) (r.drop k) = (Kn.sameV c v && Kn.sameR (s.drop (k + 1)) (r.drop (k + 1))) := by
  obtain ⟨h1, rfl⟩ := List.getElem?_eq_some_iff.1 hc
  obtain ⟨h2, rfl⟩ := List.getElem?_eq_some_iff.1 hv
  rw [List.drop_eq_getElem_cons h1, List.drop_eq_getElem_cons h2]
  rfl
theorem Kn.sameR_end (s r : List Kn.V) (k : Nat) (h : ¬ k < s.length) (h2 : r.length = s.length) : Kn.sameR (s.drop k) (r.drop k) = true := by
  rw [List.drop_eq_nil_of_le (by omega), List.drop_eq_nil_of_le (by omega)]
  rfl
theorem Kn.sameV_ways (a b : Kn.V) : (Kn.sameV a b = false ∧ (a.null == b.null) = false) ∨ (Kn.sameV a b = false ∧ (a.null == b.null) = true ∧ (a.n == b.n) = false) ∨ (Kn.sameV a b = false ∧ (a.null == b.null) = true ∧ (a.n == b.n) = true ∧ (a.s.toList == b.s.toList) = false) ∨ (Kn.sameV a b = true ∧ (a.null == b.null) = true ∧ (a.n == b.n) = true ∧ (a.s.toList == b.s.toList) = true) := by
  unfold Kn.sameV
  cases (a.null == b.null) <;> cases (a.n == b.n) <;> cases (a.s.toList == b.s.toList) <;> simp
set_option maxHeartbeats 1000000 in
set_option maxRecDepth 100000 in
theorem Kn.rsame_c (v u : Value) (s r : List Kn.V) (w : World) (hs : Kn.Vals w v s) (hr : Kn.Vals w u r) :
    Calls Tryz.prog 72 #[v, u] w fun e w' => e = .returned (.bool (Kn.sameR s r)) ∧ ∃ n, w' = w.drewN n := by
  obtain ⟨a, c, rfl, h⟩ := hs
  obtain ⟨a2, c2, rfl, h2⟩ := hr
  by_cases hn : r.length = s.length
  · rw [hn]
    have hz : ((s.length : Int) != (s.length : Int)) = false := by simp
    generalize hB : Kn.sameR s r = B
    have HB := Lib.hid hB
    clear hB
    go_enter Tryz.func72, Tryz.ntmps72
    go_wp2
    go_loopw [5] (fun i wr => ∃ k : Nat, k ≤ s.length ∧ i = .int .i64 k ∧ Kn.sameR s r = Kn.sameR (s.drop k) (r.drop k) ∧ ∃ n, wr = w.drewN n) (fun i _ => s.length - (intOf i).toNat)
    case atStart => exact ⟨0, by omega, rfl, rfl, 0, rfl⟩
    case round =>
      obtain ⟨k, hk, rfl, hg, n, rfl⟩ := hrel
      have HG := Lib.hid hg
      clear hg
      by_cases hkl : k < s.length
      · rcases h with rfl | ⟨b, o, rfl, hlt, hm, hc⟩
        · simp at hkl
        · rcases h2 with rfl | ⟨b2, o2, rfl, hlt2, hm2, hc2⟩
          · simp at hn; omega
          · have hx := List.getElem?_eq_getElem hkl
            have hy := List.getElem?_eq_getElem (show k < r.length by omega)
            generalize s[k] = x at hx
            generalize r[k] = y at hy
            have HS := Lib.hid (Kn.sameR_step s r k x y hx hy)
            obtain ⟨e0, e1, e2⟩ := hc k x hx
            obtain ⟨f0, f1, f2⟩ := hc2 k y hy
            have dk : (k : Int) < (s.length : Int) := by omega
            have dk0 : (0 : Int) ≤ (k : Int) := by omega
            have HC := Lib.hid hc
            have HC2 := Lib.hid hc2
            clear hc hc2 hx hy
            rcases Kn.sameV_ways x y with ⟨h0, h1⟩ | ⟨h0, h1, h2⟩ | ⟨h0, h1, h2, h3⟩ | ⟨h0, h1, h2, h3⟩
            all_goals
              have HF := Lib.hid h0
              clear h0
              go_wp2_with fail
              go_quiet (fail)
              go_wp2
            all_goals first
              | (go_ret
                 exact ⟨Kn.retb (by rw [← HB.out, HG.out, HS.out, HF.out]; rfl), by first | exact ⟨_, rfl⟩ | exact ⟨_, World.drewN_drewN _ _ _⟩⟩)
              | (go_roundw
                 case rel => exact ⟨k + 1, by omega, by simp, by rw [HG.out, HS.out, HF.out]; rfl, by first | exact ⟨_, rfl⟩ | exact ⟨_, World.drewN_drewN _ _ _⟩⟩
                 case measure => simp [intOf]; omega)
      · obtain rfl : k = s.length := by omega
        have dk : ¬ (s.length : Int) < (s.length : Int) := by omega
        have he : B = true := HB.out.symm.trans (HG.out.trans (Kn.sameR_end s r _ (by omega) hn))
        subst he
        go_wp2
        go_ret
        exact ⟨rfl, _, rfl⟩
  · rw [Kn.sameR_len s r (fun e => hn e.symm)]
    have hz : ((s.length : Int) != (r.length : Int)) = true := by rw [bne_iff_ne]; omega
    go_enter Tryz.func72, Tryz.ntmps72
    go_wp2
    go_ret
    exact ⟨rfl, 0, rfl⟩
end Go.Proofs.YtfbjmehkipcmbaaGreatDoor

namespace Go.Proofs.YtfbjmehkipcmbaaGreatDoor
open Go.RowKit
set_option maxHeartbeats 1000000 in
theorem Ty.rtext_m (r : Nat) (s : ByteArray) (hs : s.size ≤ 140737488351232) (l : List UInt8) (er : Nat) (most : Int) (hm : -9223372036854775808 ≤ most ∧ most ≤ 9223372036854775807) (w : World) (h : Ty.RS r s w l er) :
    Calls Tryz.prog 38 #[.pointer (some ⟨r, 0, none⟩), .int .i64 most] w (Ty.RLeft r s w (.string (Ty.S (Ty.rdT most l er).1)) (Ty.rdT most l er).2.1 (Ty.rdT most l er).2.2) := by
  obtain ⟨a, ha, hl, hR⟩ := h
  obtain ⟨c0, c1, c2, _, _⟩ := hR.cells
  have HL := Lib.hid hl
  by_cases he : er = 0
  · subst he
    obtain ⟨n, sz, e1, hn⟩ : ∃ n sz e1, Ty.num l = (n, sz, e1) := ⟨_, _, _, rfl⟩
    have hll : l.length = s.size - a := by rw [← hl, Ty.len_drop]
    have hz : a + sz ≤ s.size := by have := Ty.num_size l; rw [hn] at this; simp only at this; omega
    have hz9 : sz ≤ 9 := by have := Ty.num_size9 l; rw [hn] at this; exact this
    have E1 : (Ty.num l).1 = n := by rw [hn]
    have E2 : (Ty.num l).2.1 = sz := by rw [hn]
    have E3 : (Ty.num l).2.2 = e1 := by rw [hn]
    have HN := Lib.hid hn
    obtain ⟨hm1, hm2⟩ := hm
    clear hn hl
    by_cases h1 : e1 = 0
    · subst h1
      by_cases h2 : most < 0 ∨ (¬ most < 0 ∧ most < (n : Int))
      · have HT := Lib.hid (Ty.rdT_of (Ty.txt_long (most := most) E3 (by rw [E1]; omega)))
        rw [HT.out]
        clear E1 E2 E3 hll
        rcases h2 with h2 | ⟨h2, h3⟩
        all_goals
          go_enter Tryz.func38, Tryz.ntmps38
          go_wp2_with fail
          refine (Ty.peek_c r s a 0 ha hs _ hR).mono ?_
          rintro e w1 ⟨rfl, hR1, g1⟩
          rw [HL.out]
          unfold Ty.numV
          rw [HN.out]
          go_wp2_with fail
          refine (Ty.fail_c r s a 3 _ hR1).mono ?_
          rintro e w2 ⟨rfl, hR2, g2⟩
          go_wp2
          go_ret
          exact ⟨rfl, ⟨a, ha, HL.out, hR2⟩, Ty.by_trans (Ty.by_some g1 r) g2⟩
      · have h2a : ¬ most < 0 := by omega
        have h2b : ¬ most < (n : Int) := by omega
        by_cases h3 : ((s.size - a : Nat) : Int) - (sz : Int) < (n : Int)
        · have HT := Lib.hid (Ty.rdT_of (Ty.txt_short (most := most) E3 (by rw [E1]; omega) (by rw [E1, E2, hll]; omega)))
          rw [HT.out]
          have hle : (sz : Int) ≤ ((s.size - a : Nat) : Int) := by omega
          clear E1 E2 E3 hll h2
          go_enter Tryz.func38, Tryz.ntmps38
          go_wp2_with fail
          refine (Ty.peek_c r s a 0 ha hs _ hR).mono ?_
          rintro e w1 ⟨rfl, hR1, g1⟩
          rw [HL.out]
          unfold Ty.numV
          rw [HN.out]
          go_wp2_with fail
          refine (Ty.rleft_o r s a 0 ha hs _ hR1).mono ?_
          rintro e w2 ⟨rfl, hR2, g2⟩
          go_wp2_with fail
          refine (Ty.fail_c r s a 2 _ hR2).mono ?_
          rintro e w3 ⟨rfl, hR3, g3⟩
          go_wp2
          go_ret
          exact ⟨rfl, ⟨a, ha, HL.out, hR3⟩, Ty.by_trans (Ty.by_some g1 r) (Ty.by_trans (Ty.by_some g2 r) g3)⟩
        · have HT := Lib.hid (Ty.rdT_of (Ty.txt_whole (most := most) E3 (by rw [E1]; omega) (by rw [E1, E2, hll]; omega)))
          have hle : (sz : Int) ≤ ((s.size - a : Nat) : Int) := by omega
          have hend : a + sz + n ≤ s.size := by omega
          have w1' : IntKind.i64.wrap ((a : Int) + (sz : Int)) = (a : Int) + (sz : Int) := IntWalk.i64_in _ (by omega)
          have w2' : IntKind.i64.wrap (n : Int) = (n : Int) := IntWalk.i64_in _ (by omega)
          have w3' : IntKind.i64.wrap ((a : Int) + (sz : Int) + (n : Int)) = (a : Int) + (sz : Int) + (n : Int) := IntWalk.i64_in _ (by omega)
          have z1 : 0 ≤ (a : Int) + (sz : Int) := by omega
          have z2 : (a : Int) + (sz : Int) ≤ (a : Int) + (sz : Int) + (n : Int) := by omega
          have z3 : (a : Int) + (sz : Int) + (n : Int) ≤ (s.size : Int) := by omega
          have t1 : ((a : Int) + (sz : Int)).toNat = a + sz := by omega
          have t2 : ((a : Int) + (sz : Int) + (n : Int)).toNat = a + sz + n := by omega
          have F1 := Lib.hid E1
          have F2 := Lib.hid E2
          clear E1 E2 E3 hll h2
          go_enter Tryz.func38, Tryz.ntmps38
          go_wp2_with fail
          refine (Ty.peek_c r s a 0 ha hs _ hR).mono ?_
          rintro e w1 ⟨rfl, hR1, g1⟩
          rw [HL.out]
          unfold Ty.numV
          rw [HN.out]
          go_wp2_with fail
          refine (Ty.rleft_o r s a 0 ha hs _ hR1).mono ?_
          rintro e w2 ⟨rfl, hR2, g2⟩
          clear c0 c1 c2
          obtain ⟨c0, c1, c2, f1, _⟩ := hR2.cells
          go_wp2_with fail
          go_quiet (fail)
          go_wp2
          go_ret
          have ex : s.extract (a + sz) (a + sz + n) = Ty.S ((l.drop sz).take n) := by rw [Ty.extract_S, Ty.drop_at, HL.out, Nat.add_sub_cancel_left]
          have ec : ((a : Int) + ((sz : Int) + (n : Int))) = ((a + (sz + n) : Nat) : Int) := by omega
          rw [HT.out, F1.out, F2.out, ec]
          exact ⟨congrArg (fun x => Ending.returned (.string x)) ex, ⟨a + (sz + n), by omega, by rw [Ty.drop_at, HL.out], Ty.rc_set1 (hR2.drewN nq)⟩, Ty.by_trans (Ty.by_some g1 r) (Ty.by_trans (Ty.by_some g2 r) (Ty.by_trans (Ty.by_drewN _ _ _) (Ty.by_set _ _ _ _)))⟩
    · have hne : ((e1 : Int) != 0) = true := by rw [bne_iff_ne]; omega
      have HT := Lib.hid (Ty.rdT_of (Ty.txt_bad (most := most) (by rw [E3]; exact h1)))
      rw [HT.out]
      have F3 := Lib.hid E3
      clear h1 E1 E2 E3 hll
      go_enter Tryz.func38, Tryz.ntmps38
      go_wp2_with fail
      refine (Ty.peek_c r s a 0 ha hs _ hR).mono ?_
      rintro e w1 ⟨rfl, hR1, g1⟩
      rw [HL.out]
      unfold Ty.numV
      rw [HN.out]
      go_wp2_with fail
      refine (Ty.fail_c r s a e1 _ hR1).mono ?_
      rintro e w2 ⟨rfl, hR2, g2⟩
      go_wp2
      go_ret
      exact ⟨rfl, ⟨a, ha, HL.out, by rw [F3.out]; exact hR2⟩, Ty.by_trans (Ty.by_some g1 r) g2⟩
  · have hne : ((er : Int) != 0) = true := by rw [bne_iff_ne]; omega
    have HR : Hid (Ty.rdT most l er = ([], l, er)) := Lib.hid (by simp [Ty.rdT, he])
    rw [HR.out]
    clear he hl
    go_enter Tryz.func38, Tryz.ntmps38
    go_wp2
    go_ret
    exact ⟨rfl, ⟨a, ha, HL.out, hR⟩, Ty.by_refl _ _⟩
end Go.Proofs.YtfbjmehkipcmbaaGreatDoor

namespace Go.Proofs.YtfbjmehkipcmbaaGreatDoor
open Go.RowKit
open Ty (encU num txt)
open Tx (restT)
open Ig (rest sg)
theorem Tx.RS_err {r : Nat} {s : ByteArray} {w : World} {l : List UInt8} {e : Nat} (h : Ty.RS r s w l e) : w.cell? ⟨r, 2, none⟩ = some (.int .i64 (e : Int)) := by
  obtain ⟨a, _, _, hR⟩ := h
  exact hR.cells.2.2.1
theorem Tx.RS_lt {r : Nat} {s : ByteArray} {w : World} {l : List UInt8} {e : Nat} (h : Ty.RS r s w l e) : r < w.heap.size := by
  obtain ⟨a, _, _, hR⟩ := h
  exact hR.lt
theorem Tx.RS_below {r : Nat} {s : ByteArray} {w w' : World} {l : List UInt8} {e B : Nat} (h : Ty.RS r s w l e) (hb : Below B w w') (hr : r < B) : Ty.RS r s w' l e := by
  obtain ⟨a, h1, h2, hR⟩ := h
  exact ⟨a, h1, h2, hR.below hb hr⟩
theorem Tx.RS_len {r : Nat} {s : ByteArray} {w : World} {l : List UInt8} {e : Nat} (h : Ty.RS r s w l e) : l.length ≤ s.size := by
  obtain ⟨a, h1, h2, hR⟩ := h
  rw [← h2, Ty.len_drop]
  omega
theorem Tx.RS_by {r : Nat} {s : ByteArray} {w w' : World} {v v' : Value} {l : List UInt8} {e : Nat} (h : Ty.RS r s w l e) (g : Ty.Grew w w' v v') (hv : v.ownBlock ≠ some r) : Ty.RS r s w' l e := by
  obtain ⟨a, h1, h2, hR⟩ := h
  refine ⟨a, h1, h2, ?_⟩
  unfold Ty.RC at hR ⊢
  rw [g.by_.block r (lt_of_block hR) (fun e => hv e.symm)]
  exact hR
theorem Tx.grew_by {w w' : World} {v v' : Value} (h : Ty.Grew w w' v v') {w0 : World} {b : Nat} (g : w0.grownBy w (some b)) (hv : ∀ k, v.ownBlock = some k → w0.heap.size ≤ k) : w0.grownBy w' (some b) :=
  ⟨h.by_.os.trans g.os, h.by_.tape.trans g.tape, h.by_.output.trans g.output, Nat.le_trans g.size h.by_.size, fun k hk hn => (h.by_.block k (Nat.lt_of_lt_of_le hk g.size) (fun e => by have := hv k e.symm; omega)).trans (g.block k hk hn)⟩
theorem Tx.below_by {w w' w0 : World} (h : Below w.heap.size w w') {b : Nat} (g : w0.grownBy w (some b)) : w0.grownBy w' (some b) :=
  ⟨h.os.trans g.os, h.tape.trans g.tape, h.output.trans g.output, Nat.le_trans g.size h.size, fun k hk hn => (h.block k (Nat.lt_of_lt_of_le hk g.size)).trans (g.block k hk hn)⟩
theorem Tx.rtext_r (r : Nat) (s : ByteArray) (hs : s.size ≤ 140737488351232) (l : List UInt8) (w : World) (h : Ty.RS r s w l 0) :
    Calls Tryz.prog 38 #[.pointer (some ⟨r, 0, none⟩), .int .i64 64] w (Ty.RLeft r s w (.string (Ty.S (txt l 64).1)) (restT l) (txt l 64).2.2) := by
  have e : Ty.rdT 64 l 0 = ((txt l 64).1, restT l, (txt l 64).2.2) := by unfold Ty.rdT; rw [if_neg (by omega)]; rfl
  have := Ty.rtext_m r s hs l 0 64 (by omega) w h
  rw [e] at this
  exact this
theorem Tx.RS_new (s : ByteArray) (w : World) : Ty.RS w.heap.size s (w.alloc (.cells #[.string s, .int .i64 0, .int .i64 0] 68)) s.data.toList 0 :=
  ⟨0, Nat.zero_le _, by simp, heap_alloc_new w _⟩
theorem Tx.ruint_x (r : Nat) (s : ByteArray) (hs : s.size ≤ 140737488351232) (l : List UInt8) (w : World) (h : Ty.RS r s w l 0) :
    Calls Tryz.prog 36 #[.pointer (some ⟨r, 0, none⟩)] w (Ty.RLeft r s w (.int .u64 (((num l).1 : Nat) : Int)) (rest l) (num l).2.2) := by
  have e : Ty.rdU l 0 = ((num l).1, rest l, (num l).2.2) := by unfold Ty.rdU; rw [if_neg (by omega)]; rfl
  have := Ty.ruint_m r s hs l 0 w h
  rw [e] at this
  exact this
end Go.Proofs.YtfbjmehkipcmbaaGreatDoor

namespace Go.Proofs.YtfbjmehkipcmbaaGreatDoor
open Go.RowKit
def Dd.same (a b : Dd.D) : Bool := (a.gone == b.gone) && Kn.sameR a.row b.row
set_option maxHeartbeats 2000000 in
set_option maxRecDepth 100000 in
theorem Dd.rsame_c (u v : Value) (a b : Dd.D) (w : World) (hu : Kn.Vals w u a.row) (hv : Kn.Vals w v b.row) :
    Calls Tryz.prog 41 #[.agg #[.bool a.gone, u], .agg #[.bool b.gone, v]] w fun e w' => e = .returned (.bool (Dd.same a b)) ∧ Below w.heap.size w w' := by
  obtain ⟨ga, ra⟩ := a
  obtain ⟨gb, rb⟩ := b
  simp only at hu hv ⊢
  unfold Dd.same
  simp only
  have hG0 : Below w.heap.size w ((w.alloc (.cells #[.bool ga, u] 37)).alloc (.cells #[.bool gb, v] 37)) := ((Below.refl _ w).alloc (Nat.le_refl _) _).alloc (by simp) _
  have hb := (Below.refl _ (w.alloc (.cells #[.bool ga, u] 37))).alloc (Nat.le_refl _) (.cells #[.bool gb, v] 37)
  have x0 := (hb.cell (p := ⟨w.heap.size, 0, none⟩) (by simp)).trans (Kn.cell_new w #[.bool ga, u] 37 0 _ rfl)
  have x1 := (hb.cell (p := ⟨w.heap.size, 1, none⟩) (by simp)).trans (Kn.cell_new w #[.bool ga, u] 37 1 _ rfl)
  have y0 := Kn.cell_new (w.alloc (.cells #[.bool ga, u] 37)) #[.bool gb, v] 37 0 _ rfl
  have y1 := Kn.cell_new (w.alloc (.cells #[.bool ga, u] 37)) #[.bool gb, v] 37 1 _ rfl
  rw [World.size_alloc] at y0 y1
  simp only [List.getElem_toArray, List.getElem_cons_zero, List.getElem_cons_succ] at x0 x1 y0 y1
  have cs := Kn.rsame_c u v ra rb _ (hu.later hG0) (hv.later hG0)
  have HX := Lib.hid (And.intro (And.intro x0 x1) (And.intro y0 y1))
  have HG0 := Lib.hid hG0
  generalize Kn.sameR ra rb = S at cs ⊢
  clear hG0 hb x0 x1 y0 y1 hu hv
  cases ga <;> cases gb
  all_goals
    go_enter Tryz.func41, Tryz.ntmps41
    go_wp2_with fail
  · generalize World.alloc _ _ = wo at HX HG0 cs ⊢
    obtain ⟨⟨x0, x1⟩, y0, y1⟩ := HX.out
    go_wp2_with fail
    with_reducible refine cs.mono ?_
    rintro e w1 ⟨rfl, n, h1⟩
    subst w1
    go_wp2
    go_ret
    exact ⟨by simp, Kn.below_drewN HG0.out n⟩
  · generalize World.alloc _ _ = wo at HX HG0 cs ⊢
    obtain ⟨⟨x0, x1⟩, y0, y1⟩ := HX.out
    go_wp2
    go_ret
    exact ⟨by simp, HG0.out⟩
  · generalize World.alloc _ _ = wo at HX HG0 cs ⊢
    obtain ⟨⟨x0, x1⟩, y0, y1⟩ := HX.out
    go_wp2
    go_ret
    exact ⟨by simp, HG0.out⟩
  · generalize World.alloc _ _ = wo at HX HG0 cs ⊢
    obtain ⟨⟨x0, x1⟩, y0, y1⟩ := HX.out
    go_wp2_with fail
    with_reducible refine cs.mono ?_
    rintro e w1 ⟨rfl, n, h1⟩
    subst w1
    go_wp2
    go_ret
    exact ⟨by simp, Kn.below_drewN HG0.out n⟩
end Go.Proofs.YtfbjmehkipcmbaaGreatDoor

namespace Go.Proofs.YtfbjmehkipcmbaaGreatDoor
open Go.RowKit
end Go.Proofs.YtfbjmehkipcmbaaGreatDoor
