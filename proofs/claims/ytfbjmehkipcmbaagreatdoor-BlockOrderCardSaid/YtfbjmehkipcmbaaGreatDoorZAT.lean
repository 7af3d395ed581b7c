/-
  The document's Read.
  Contracts of package block: which deeds are sorted.
  Contracts of package block: flags, width, which deeds have a column (the closure), their rows.
-/
import Derived.Test.YtfbjmehkipcmbaaGreatDoorZAQ
import Derived.Test.YtfbjmehkipcmbaaGreatDoorZAR
import Derived.Test.YtfbjmehkipcmbaaGreatDoorZAS
import Derived.Deep.RegionLaw
import Derived.Test.YtfbjmehkipcmbaaGreatDoorZAJ
import Derived.Test.YtfbjmehkipcmbaaGreatDoorZAA
import Derived.Test.YtfbjmehkipcmbaaGreatDoorZAD
import Derived.Test.YtfbjmehkipcmbaaGreatDoorZAF
namespace Go.Proofs.YtfbjmehkipcmbaaGreatDoor
open Go.RowKit
open Ty (num txt)
open Ig (rest)
def Bk.Got (w : World) (r : Nat × List Dd.D) (e : Ending) (w' : World) : Prop :=
  ∃ v, e = .returned (.tuple #[v, .int .i64 ((r.1 : Nat) : Int)]) ∧ Bk.Ds w' v r.2 ∧ Below w.heap.size w w'
theorem Bk.Got.bad {w w' : World} {r : Nat × List Dd.D} {z : Int} {q : Nat} (hr : r = (q, [])) (hz : z = (q : Int)) (g : Below w.heap.size w w') : Bk.Got w r (.returned (.tuple #[.slice none 0 0, .int .i64 z])) w' :=
  ⟨_, by rw [hr, hz], by rw [hr]; exact ⟨none, 0, rfl, Nat.le_refl _, by decide, .inl rfl⟩, g⟩
theorem Bk.Got.good {w w' : World} {r : Nat × List Dd.D} {v : Value} {L : List Dd.D} (hr : r = (0, L)) (h : Bk.Ds w' v L) (g : Below w.heap.size w w') : Bk.Got w r (.returned (.tuple #[v, .int .i64 0])) w' :=
  ⟨v, by rw [hr]; rfl, by rw [hr]; exact h, g⟩
theorem Bk.run_make (n : Nat) (hn : n ≤ 8) (w : World) : (Instr.makeSlice 23 (.int .u64 (n : Int)) (.int .u64 (n : Int))).run Tryz.prog w = .ok (.slice (some ⟨w.heap.size, 0, none⟩) n n) (w.alloc (.cells (madeCells #[.bool false, .slice none 0 0] (n * 2)) 37)) := by
  obtain ⟨i0, hi, hz0, hz1, hz2⟩ := info_parts (show (Tryz.prog.info? 37).map (fun i => (i.zero, i.size, i.bytes)) = some (some (.agg #[.bool false, .slice none 0 0]), 2, 32) by kernel_rfl)
  have := Go.run_make (P := Tryz.prog) w 23 37 i0 _ Tryz.underlying23 hi hz0 .u64 .u64 n n (by omega) (Int.le_refl _) (by rw [hz2]; omega) (by omega)
  rw [hz1, Int.toNat_natCast] at this
  exact this
theorem Bk.rd_zs {c : Kn.C} {l : List UInt8} (h : (Cl.rd c l).1 = 0) : ∀ v ∈ (Cl.rd c l).2, Kn.Z v := fun v hv => by
  obtain ⟨h1, _, _, _⟩ := Cl.enc_rd h
  have ha : (Cl.rd c l).2.all (Cl.is c) = true := by
    unfold Cl.wE at h1
    by_cases hg : c.good = true
    · rw [if_pos hg] at h1
      by_cases hl : 65536 < (Cl.rd c l).2.length
      · rw [if_pos hl] at h1; cases h1
      · rw [if_neg hl] at h1
        by_cases ha : (Cl.rd c l).2.all (Cl.is c) = true
        · exact ha
        · rw [if_neg ha] at h1; cases h1
    · rw [if_neg hg] at h1; cases h1
  have hi := List.all_eq_true.1 ha v hv
  unfold Kn.Z
  cases hn : v.null
  · by_cases hk : c.k = 1
    · rw [Cl.is_num hk hi hn]
      exact Nat.zero_le _
    · have := (Cl.is_str hk hi hn).2
      rw [Bt.length_data] at this
      omega
  · rw [(Cl.is_null hi hn).1]
    exact Nat.zero_le _
end Go.Proofs.YtfbjmehkipcmbaaGreatDoor

namespace Go.Proofs.YtfbjmehkipcmbaaGreatDoor
open Go.RowKit
set_option maxHeartbeats 4000000 in
set_option maxRecDepth 100000 in
theorem Bk.psorted_c (v : Value) (L : List Dd.D) (w : World) (hv : Bk.Ds w v L) (hz : Bk.Zs L) : Calls Tryz.prog 11 #[v] w fun e w' => e = .returned (.bool (Bk.sorted L)) ∧ Below w.heap.size w w' := by
  obtain ⟨a, c, rfl, hlc, hcm, h⟩ := hv
  have HH := Lib.hid h
  have HZ := Lib.hid hz
  clear h hz
  generalize hB : Bk.sorted L = B
  have HB := Lib.hid hB
  clear hB
  go_enter Tryz.func11, Tryz.ntmps11
  go_wp2_with fail
  go_loopw [7] (fun i wr => ∃ k : Nat, k ≤ L.length ∧ i = .int .i64 k ∧ (∀ j, j < k → Bk.step L j = true) ∧ Below w.heap.size w wr) (fun i _ => L.length - (intOf i).toNat)
  case atStart => exact ⟨0, Nat.zero_le _, rfl, (fun j hj => by omega), Below.refl _ _⟩
  case round =>
    obtain ⟨k, hk, rfl, hs, hg⟩ := hrel
    have HS := Lib.hid hs
    have HG := Lib.hid hg
    clear hs
    by_cases hkl : k < L.length
    · rcases HH.out with rfl | ⟨b, o, rfl, hlt, hc⟩
      · simp at hkl
      · have hx := List.getElem?_eq_getElem hkl
        have hm := List.getElem_mem hkl
        generalize L[k] = d at hx hm
        obtain ⟨u, c0, c1, hu⟩ := hc k d hx
        have hu := hu.later hg
        have c0 := (hg.cell (p := ⟨b, o + k * 2, none⟩) hlt).trans c0
        have c1 := (hg.cell (p := ⟨b, o + k * 2 + 1, none⟩) hlt).trans c1
        have dk : (k : Int) < (L.length : Int) := by omega
        have dk0 : (0 : Int) ≤ (k : Int) := by omega
        have HK := Lib.hid hkl
        have HX := Lib.hid hx
        have HC := Lib.hid hc
        have HU := Lib.hid hu
        have hlw : b < wr.heap.size := Nat.lt_of_lt_of_le hlt hg.size
        have HLW := Lib.hid hlw
        obtain ⟨ua, uc, rfl, huc⟩ := hu
        have HUC := Lib.hid huc
        clear hc hx hkl hk huc hlw
        go_upto_region 4 with (fail)
        have HB1 : Hid (Below wr.heap.size wr (wr.alloc (.cells #[.bool d.gone, .slice ua d.row.length uc] 37))) := Lib.hid ((Below.refl _ _).alloc (Nat.le_refl _) _)
        have x1 := Kn.cell_new wr #[.bool d.gone, .slice ua d.row.length uc] 37 1 _ rfl
        simp only [List.getElem_toArray, List.getElem_cons_zero, List.getElem_cons_succ] at x1
        obtain ⟨q, hq⟩ : ∃ q, q = wr.heap.size := ⟨_, rfl⟩
        rw [← hq] at x1 ⊢
        clear hq c0 c1
        generalize wr.alloc _ = w1 at HB1 x1 ⊢
        have HG1 := Lib.hid (HG.out.trans (HB1.out.mono HG.out.size))
        by_cases he : d.row = []
        · have HE := Lib.hid (Bk.sorted_no HK.out (Bk.step_empty HX.out he))
          obtain rfl : B = false := HB.out.symm.trans HE.out
          rw [he] at x1
          simp only [List.length_nil] at x1
          clear he hm
          go_wp2
          go_ret
          exact ⟨rfl, HG1.out⟩
        · have hz0 : ((d.row.length : Int) == 0) = false := by
            rw [beq_eq_false_iff_ne]
            have := List.length_pos_iff.2 he
            omega
          rcases HUC.out with h0 | ⟨b2, o2, rfl, hlt2, hm2, hcc⟩
          · exact absurd h0 he
          · have hp0 : 0 < d.row.length := List.length_pos_iff.2 he
            have hx0 := List.getElem?_eq_getElem hp0
            have hzx := HZ.out d hm _ (List.getElem_mem hp0)
            generalize d.row[0] = x at hx0 hzx
            obtain ⟨e0, e1, e2⟩ := hcc 0 x hx0
            simp only [Nat.zero_mul, Nat.add_zero] at e0 e1 e2
            have e0 := (HB1.out.cell (p := ⟨b2, o2, none⟩) hlt2).trans e0
            have e1 := (HB1.out.cell (p := ⟨b2, o2 + 1, none⟩) hlt2).trans e1
            have e2 := (HB1.out.cell (p := ⟨b2, o2 + 2, none⟩) hlt2).trans e2
            have HE := Lib.hid he
            have hp1 : (0 : Int) < (d.row.length : Int) := by omega
            go_upto_region 6 with (fail)
            have X1 := fun d os => cell_regrown x1 d os
            have E0 := fun d os => cell_regrown e0 d os
            have E1 := fun d os => cell_regrown e1 d os
            have E2 := fun d os => cell_regrown e2 d os
            clear x1
            cases k with
            | zero =>
              have HF := Lib.hid (Bk.step_first HX.out he)
              clear hcc e0 e1 e2 hm hzx hp0 he
              refine wp_region_quiet_below (by kernel_rfl) (by kernel_rfl) ?_
              repeat (go_big_quiet_step (fail))
              refine wpQuiet_nil ?_
              intro _ hw'
              have HG2 := Lib.hid (HG1.out.trans ((Bk.below_reg hw').mono HG1.out.size))
              go_wp2
              go_roundw
              case rel => exact ⟨1, HK.out, by simp, (fun j hj => by obtain rfl : j = 0 := (by omega); exact HF.out), HG2.out⟩
              case measure => (have := HK.out; simp [intOf]; omega)
            | succ j =>
              have hjl : j < L.length := by have := HK.out; omega
              have hy := List.getElem?_eq_getElem hjl
              have hmy := List.getElem_mem hjl
              generalize L[j] = p at hy hmy
              obtain ⟨u2, d0, d1, hu2⟩ := HC.out j p hy
              have hu2 := hu2.later HG1.out
              have d1 := (HG1.out.cell (p := ⟨b, o + j * 2 + 1, none⟩) hlt).trans d1
              have hpe := Bk.step_row hy (HS.out j (by omega))
              obtain ⟨ua2, uc2, rfl, huc2⟩ := hu2
              rcases huc2 with h0 | ⟨b3, o3, rfl, hlt3, hm3, hcc3⟩
              · exact absurd h0 hpe
              · have hq0 : 0 < p.row.length := List.length_pos_iff.2 hpe
                have hy0 := List.getElem?_eq_getElem hq0
                have hzy := HZ.out p hmy _ (List.getElem_mem hq0)
                generalize p.row[0] = y at hy0 hzy
                obtain ⟨g0, g1, g2⟩ := hcc3 0 y hy0
                simp only [Nat.zero_mul, Nat.add_zero] at g0 g1 g2
                have G0 := fun d os => cell_regrown g0 d os
                have G1 := fun d os => cell_regrown g1 d os
                have G2 := fun d os => cell_regrown g2 d os
                have D1 := fun d os => cell_regrown d1 d os
                have HF := Lib.hid (Bk.step_next HX.out hy hx0 hy0)
                have cA := Kn.compare_c y x
                generalize Kn.cmp y x = z at HF cA
                unfold Kn.V.val at cA
                have CA : Hid (∀ p : Regrown, _) := Lib.hid fun p : Regrown => Calls.regrown_of (d := p.d) (os := p.os) (w := w1) (cA _)
                have hq1 : (0 : Int) < (p.row.length : Int) := by omega
                have hwr : IntKind.i64.wrap ((j : Int) + 1 - 1) = (j : Int) := by rw [IntKind.wrap_i64]; omega
                have hwr2 : IntKind.i64.wrap (j : Int) = (j : Int) := by rw [IntKind.wrap_i64]; omega
                have dj : (j : Int) < (L.length : Int) := by omega
                have dj0 : (0 : Int) ≤ (j : Int) := by omega
                have dj1 : (0 : Int) < (j : Int) + 1 := by omega
                simp only [Int.natCast_add, Int.natCast_one] at dk dk0
                have HJ := Lib.hid hjl
                clear hcc hcc3 e0 e1 e2 g0 g1 g2 d0 d1 hm hmy hzx hzy hp0 hq0 he hpe hy hx0 hy0 cA hjl
                by_cases hz9 : (0 : Int) ≤ z
                · have hzf : decide (z < 0) = false := decide_eq_false (by omega)
                  have hzb : decide ((0 : Int) ≤ z) = true := decide_eq_true hz9
                  obtain rfl : B = false := HB.out.symm.trans (Bk.sorted_no HK.out (HF.out.trans hzf))
                  clear hzf
                  refine wp_region_quiet_below (by kernel_rfl) (by kernel_rfl) ?_
                  repeat (go_big_quiet_step (first | with_reducible exact CA.out _))
                  refine wpQuiet_nil ?_
                  intro _ hw'
                  have HG2 := Lib.hid (HG1.out.trans ((Bk.below_reg hw').mono HG1.out.size))
                  go_wp2
                  go_ret
                  exact ⟨rfl, HG2.out⟩
                · have hzt := Lib.hid (HF.out.trans (decide_eq_true (show z < 0 by omega)))
                  have hzb : decide ((0 : Int) ≤ z) = false := decide_eq_false hz9
                  refine wp_region_quiet_below (by kernel_rfl) (by kernel_rfl) ?_
                  repeat (go_big_quiet_step (first | with_reducible exact CA.out _))
                  refine wpQuiet_nil ?_
                  intro _ hw'
                  have HG2 := Lib.hid (HG1.out.trans ((Bk.below_reg hw').mono HG1.out.size))
                  go_wp2
                  go_roundw
                  case rel => exact ⟨j + 2, HK.out, by simp; omega, (fun i hi => by
                    rcases Nat.lt_or_ge i (j + 1) with h | h
                    · exact HS.out i h
                    · obtain rfl : i = j + 1 := by omega
                      exact hzt.out), HG2.out⟩
                  case measure => (have := HK.out; simp [intOf]; omega)
    · obtain rfl : k = L.length := by omega
      have dk : ¬ (L.length : Int) < (L.length : Int) := by omega
      have HY := Lib.hid (Bk.sorted_yes HS.out)
      obtain rfl : B = true := HB.out.symm.trans HY.out
      clear hkl hk
      go_wp2
      go_ret
      exact ⟨rfl, HG.out⟩
end Go.Proofs.YtfbjmehkipcmbaaGreatDoor

namespace Go.Proofs.YtfbjmehkipcmbaaGreatDoor
open Go.RowKit
def Bk.sv (x : Option Addr × Nat × Nat) : Value := .slice x.1 x.2.1 x.2.2
def Bk.e1 (x : Option Addr × Nat × Nat) : List Value := [Bk.sv x]
theorem Bk.e1_len (x : Option Addr × Nat × Nat) : (Bk.e1 x).length = 1 := rfl
theorem Bk.e1_one (x : Option Addr × Nat × Nat) : ∀ u ∈ Bk.e1 x, u.oneCell' = true := fun u hu => by
  simp only [Bk.e1, List.mem_cons, List.not_mem_nil, or_false] at hu
  subst hu
  rfl
theorem Bk.infoR : (Tryz.prog.info? 35).map (fun i => (i.zero, i.size, i.bytes)) = some (some (.slice none 0 0), 1, 24) := by kernel_rfl
structure Bk.Dr (w : World) (v : Value) (L : List Dd.D) (R : Nat → Option Addr × Nat × Nat) : Prop where
  is : ∃ a c, v = .slice a L.length c ∧ (L = [] ∨ ∃ b o, a = some ⟨b, o, none⟩ ∧ b < w.heap.size ∧
    ∀ i x, L[i]? = some x → w.cell? ⟨b, o + i * 2, none⟩ = some (.bool x.gone) ∧ w.cell? ⟨b, o + i * 2 + 1, none⟩ = some (Bk.sv (R i)))
theorem Bk.Dr.later {w w' : World} {v : Value} {L : List Dd.D} {R : Nat → Option Addr × Nat × Nat} (h : Bk.Dr w v L R) (g : Below w.heap.size w w') : Bk.Dr w' v L R := by
  obtain ⟨a, c, hv, h⟩ := h
  refine ⟨a, c, hv, ?_⟩
  rcases h with h | ⟨b, o, ha, hb, h⟩
  · exact .inl h
  · refine .inr ⟨b, o, ha, Nat.lt_of_lt_of_le hb g.size, fun i x hx => ?_⟩
    obtain ⟨c0, c1⟩ := h i x hx
    exact ⟨(g.cell (p := ⟨b, o + i * 2, none⟩) hb).trans c0, (g.cell (p := ⟨b, o + i * 2 + 1, none⟩) hb).trans c1⟩
def Bk.partsOf : Option Value → Option Addr × Nat × Nat
  | some (.slice a n c) => (a, n, c)
  | _ => (none, 0, 0)
theorem Bk.Ds.dr {w : World} {v : Value} {L : List Dd.D} (h : Bk.Ds w v L) : ∃ R, Bk.Dr w v L R ∧ ∀ i x, L[i]? = some x → Kn.Vals w (Bk.sv (R i)) x.row := by
  obtain ⟨a, c, hv, _, _, h⟩ := h
  rcases h with rfl | ⟨b, o, ha, hb, h⟩
  · exact ⟨fun _ => (none, 0, 0), ⟨a, c, hv, .inl rfl⟩, fun i x hx => by simp at hx⟩
  · have key : ∀ i x, L[i]? = some x → w.cell? ⟨b, o + i * 2 + 1, none⟩ = some (Bk.sv (Bk.partsOf (w.cell? ⟨b, o + i * 2 + 1, none⟩))) ∧ Kn.Vals w (Bk.sv (Bk.partsOf (w.cell? ⟨b, o + i * 2 + 1, none⟩))) x.row := fun i x hx => by
      obtain ⟨u, _, c1, hu⟩ := h i x hx
      rw [c1]
      obtain ⟨a', c', rfl, hu'⟩ := hu
      exact ⟨rfl, a', c', rfl, hu'⟩
    exact ⟨fun i => Bk.partsOf (w.cell? ⟨b, o + i * 2 + 1, none⟩), ⟨a, c, hv, .inr ⟨b, o, ha, hb, fun i x hx => ⟨(h i x hx).choose_spec.1, (key i x hx).1⟩⟩⟩, fun i x hx => (key i x hx).2⟩
def Bk.hl (i : Nat) (R : Nat → Option Addr × Nat × Nat) : Nat → List Dd.D → List (Option Addr × Nat × Nat)
  | _, [] => []
  | k, d :: r => if Bk.has i d = true then R k :: Bk.hl i R (k + 1) r else Bk.hl i R (k + 1) r
theorem Bk.hl_snoc (i : Nat) (R : Nat → Option Addr × Nat × Nat) (d : Dd.D) : ∀ (k : Nat) (A : List Dd.D), Bk.hl i R k (A ++ [d]) = Bk.hl i R k A ++ if Bk.has i d = true then [R (k + A.length)] else []
  | k, [] => by
    simp only [List.nil_append, Bk.hl, List.length_nil, Nat.add_zero]
  | k, x :: A => by
    have ih := Bk.hl_snoc i R d (k + 1) A
    simp only [List.cons_append, Bk.hl, List.length_cons]
    rw [ih, show k + 1 + A.length = k + (A.length + 1) by omega]
    split <;> simp
theorem Bk.hl_take {i : Nat} {R : Nat → Option Addr × Nat × Nat} {L : List Dd.D} {k : Nat} {d : Dd.D} (h : L[k]? = some d) : Bk.hl i R 0 (L.take (k + 1)) = Bk.hl i R 0 (L.take k) ++ if Bk.has i d = true then [R k] else [] := by
  obtain ⟨hk, rfl⟩ := List.getElem?_eq_some_iff.1 h
  rw [List.take_succ_eq_append_getElem hk, Bk.hl_snoc, List.length_take, Nat.min_eq_left (by omega), Nat.zero_add]
theorem Bk.hl_len (i : Nat) (R : Nat → Option Addr × Nat × Nat) : ∀ (k : Nat) (L : List Dd.D), (Bk.hl i R k L).length = (L.filter (Bk.has i)).length
  | _, [] => rfl
  | k, d :: L => by
    have ih := Bk.hl_len i R (k + 1) L
    unfold Bk.hl
    rw [List.filter_cons]
    split
    · rw [List.length_cons, List.length_cons, ih]
    · exact ih
theorem Bk.hl_at (i : Nat) (R : Nat → Option Addr × Nat × Nat) : ∀ (o : Nat) (L : List Dd.D) (k : Nat) (u : Option Addr × Nat × Nat), (Bk.hl i R o L)[k]? = some u →
    ∃ j d, L[j]? = some d ∧ Bk.has i d = true ∧ u = R (o + j) ∧ (Bk.col L i)[k]? = some (d.row.getD i Cl.nul)
  | _, [], k, u, h => by simp [Bk.hl] at h
  | o, d :: L, k, u, h => by
    unfold Bk.hl at h
    unfold Bk.col
    rw [List.filter_cons]
    by_cases hh : Bk.has i d = true
    · rw [if_pos hh] at h
      rw [if_pos hh, List.map_cons]
      cases k with
      | zero =>
        obtain rfl : R o = u := by simpa using h
        exact ⟨0, d, rfl, hh, rfl, rfl⟩
      | succ k =>
        obtain ⟨j, d', h1, h2, h3, h4⟩ := Bk.hl_at i R (o + 1) L k u (by simpa using h)
        exact ⟨j + 1, d', by simpa using h1, h2, by rw [h3]; congr 1; omega, by simpa [Bk.col] using h4⟩
    · rw [if_neg hh] at h ⊢
      obtain ⟨j, d', h1, h2, h3, h4⟩ := Bk.hl_at i R (o + 1) L k u h
      exact ⟨j + 1, d', by simpa using h1, h2, by rw [h3]; congr 1; omega, h4⟩
def Bk.wd (s : List Kn.C) (g : Bool) : Nat := if g = true then 1 else s.length
set_option maxRecDepth 100000 in
theorem Bk.width_c (v : Value) (s : List Kn.C) (g : Bool) (w : World) (hs : Kn.Cols w v s) :
    Calls Tryz.prog 63 #[v, .bool g] w fun e w' => e = .returned (.int .i64 (Bk.wd s g : Nat)) ∧ w' = w := by
  obtain ⟨a, c, rfl, -⟩ := hs
  cases g
  · rw [show Bk.wd s false = s.length from rfl]
    go_enter Tryz.func63, Tryz.ntmps63
    go_wp2
    go_ret
    exact ⟨rfl, rfl⟩
  · rw [show Bk.wd s true = 1 from rfl]
    go_enter Tryz.func63, Tryz.ntmps63
    go_wp2
    go_ret
    exact ⟨rfl, rfl⟩
def Bk.fv (p : Nat) : Value := .func (.func 77) #[] #[.pointer (some ⟨p, 0, none⟩)]
set_option maxHeartbeats 1000000 in
set_option maxRecDepth 100000 in
theorem Bk.having_c (i : Nat) (w : World) :
    Calls Tryz.prog 54 #[.int .i64 (i : Int)] w fun e w' => ∃ p, e = .returned (Bk.fv p) ∧ w.heap.size ≤ p ∧ p < w'.heap.size ∧ w'.cell? ⟨p, 0, none⟩ = some (.int .i64 (i : Int)) ∧ Below w.heap.size w w' := by
  have hx := Kn.cell_new w #[.int .i64 (i : Int)] 3 0 _ rfl
  simp only [List.getElem_toArray, List.getElem_cons_zero] at hx
  have HX := Lib.hid hx
  have HB : Hid (Below w.heap.size w (w.alloc (.cells #[.int .i64 (i : Int)] 3))) := Lib.hid ((Below.refl _ _).alloc (Nat.le_refl _) _)
  have HZ : Hid (w.heap.size < (w.alloc (.cells #[.int .i64 (i : Int)] 3)).heap.size) := Lib.hid (by simp)
  clear hx
  go_enter Tryz.func54, Tryz.ntmps54
  go_wp2
  go_ret
  exact ⟨_, rfl, Nat.le_refl _, HZ.out, HX.out, HB.out⟩
set_option maxHeartbeats 1000000 in
set_option maxRecDepth 100000 in
theorem Bk.has_c (i p : Nat) (d : Dd.D) (a : Option Addr) (n c : Nat) (w : World) (hp : w.cell? ⟨p, 0, none⟩ = some (.int .i64 (i : Int))) (hpl : p < w.heap.size) :
    Calls Tryz.prog 77 #[.agg #[.bool d.gone, .slice a n c], .pointer (some ⟨p, 0, none⟩)] w fun e w' => e = .returned (.bool (Bk.has i d)) ∧ Below w.heap.size w w' := by
  have HB : Hid (Below w.heap.size w (w.alloc (.cells #[.bool d.gone, .slice a n c] 37))) := Lib.hid ((Below.refl _ _).alloc (Nat.le_refl _) _)
  have x0 := Kn.cell_new w #[.bool d.gone, .slice a n c] 37 0 _ rfl
  simp only [List.getElem_toArray, List.getElem_cons_zero] at x0
  have y0 := (HB.out.cell (p := ⟨p, 0, none⟩) hpl).trans hp
  unfold Bk.has
  generalize d.gone = g at *
  by_cases h0 : i = 0
  · subst h0
    rw [show ((0 == 0) || !g) = true from by simp]
    clear x0
    go_enter Tryz.func77, Tryz.ntmps77
    go_wp2
    go_ret
    exact ⟨rfl, HB.out⟩
  · have h1 : ((i : Int) == 0) = false := by rw [beq_eq_false_iff_ne]; omega
    have h2 : (i == 0) = false := by rw [beq_eq_false_iff_ne]; exact h0
    rw [h2, Bool.false_or]
    clear h2 h0
    cases g
    all_goals
      go_enter Tryz.func77, Tryz.ntmps77
      go_wp2
      go_ret
      exact ⟨rfl, HB.out⟩
end Go.Proofs.YtfbjmehkipcmbaaGreatDoor
