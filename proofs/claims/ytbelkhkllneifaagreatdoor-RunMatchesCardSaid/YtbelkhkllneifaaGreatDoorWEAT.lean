import Derived.Test.YtbelkhkllneifaaGreatDoorWEAR
import Derived.Test.YtbelkhkllneifaaGreatDoorWEAS
import Derived.Test.YtbelkhkllneifaaGreatDoorWEAQ
import Derived.Test.YtbelkhkllneifaaGreatDoorWEAM
import Derived.Deep.RegionHeld3
import Derived.Deep.RegionLaw
import Derived.Deep.RegionLawGrows
import Derived.StillTailTactics
import Derived.Test.YtbelkhkllneifaaGreatDoorWEAO
import Derived.Test.YtbelkhkllneifaaGreatDoorWEAL
import Derived.Laws.ResultCell
import Derived.Deep.RegionWith
import Derived.Deep.OwnRows
namespace Go.Proofs.YtbelkhkllneifaaGreatDoor
section
open Go Go.RowKit
set_option maxHeartbeats 2000000 in
set_option maxRecDepth 100000 in
theorem Rn.seek1_c {w : World} {a : Option Addr} {n c : Nat} {d : Dd.D} (g : Bool) (k : Kn.V) (h : Kn.Vals w (.slice a n c) d.row) (hne : d.row ≠ []) :
 Calls Tryz.prog 80 #[.agg #[.bool g, .slice a n c], k.val] w fun e w' => e = .returned (.int .i64 (Kn.cmp (Bk.key d) k)) ∧ Below w.heap.size w w' := by
 have hkey := Rn.key_at hne
 generalize Bk.key d = x at hkey ⊢
 obtain ⟨rfl, b, o, rfl, hb, hat⟩ := Rn.row_at h hkey
 simp only [Nat.zero_mul, Nat.add_zero] at hat
 obtain ⟨wb, hwb⟩ : ∃ wb, wb = (w.alloc (.cells #[.bool g, .slice (some ⟨b, o, none⟩) d.row.length c] 41)).alloc (.cells #[.bool k.null, .int .i64 k.n, .string k.s] 33) := ⟨_, rfl⟩
 have hB : Below w.heap.size w wb := by rw [hwb]; exact Kn.box2 _ _ _
 have x1 : wb.cell? ⟨w.heap.size, 1, none⟩ = some (.slice (some ⟨b, o, none⟩) d.row.length c) := by
  rw [hwb]
  exact (((Below.refl _ _).alloc (Nat.le_refl _) _).cell (p := ⟨w.heap.size, 1, none⟩) (by simp)).trans (Kn.cell_new w _ _ 1 _ rfl)
 have hk : Kn.At wb (w.heap.size + 1) 0 k := by
  rw [hwb]
  have := Kn.At.new (w.alloc (.cells #[.bool g, .slice (some ⟨b, o, none⟩) d.row.length c] 41)) k 33
  rwa [World.size_alloc] at this
 have e0 := (hat.later hB).c0
 have e1 := (hat.later hB).c1
 have e2 := (hat.later hB).c2
 have y0 := hk.c0
 have y1 := hk.c1
 have y2 := hk.c2
 simp only [Nat.zero_add] at y1 y2
 have X1 := fun d os => cell_regrown x1 d os
 have E0 := fun d os => cell_regrown e0 d os
 have E1 := fun d os => cell_regrown e1 d os
 have E2 := fun d os => cell_regrown e2 d os
 have Y0 := fun d os => cell_regrown y0 d os
 have Y1 := fun d os => cell_regrown y1 d os
 have Y2 := fun d os => cell_regrown y2 d os
 have cC := Kn.compare_c x k
 generalize Kn.cmp x k = z at cC ⊢
 unfold Kn.V.val at cC ⊢
 have CA : Hid (∀ p : Regrown, _) := Lib.hid fun p : Regrown => Calls.regrown_of (d := p.d) (os := p.os) (w := wb) (cC _)
 have hrl : (0 : Int) < (d.row.length : Int) := by have := List.length_pos_iff.2 hne; omega
 have HB := Lib.hid hB
 generalize d.row.length = rl at X1 hrl hwb ⊢
 clear hkey h hat hk x1 e0 e1 e2 y0 y1 y2 cC hB hb hne
 go_enter Tryz.func80, Tryz.ntmps80
 go_upto_region 1 with (fail)
 rw [← hwb]
 clear hwb
 refine wp_region_quiet_below (by kernel_rfl) (by kernel_rfl) ?_
 repeat (go_big_quiet_step (first | with_reducible exact CA.out _))
 refine wpQuiet_nil ?_
 intro w5 hw'
 have HB5 := Lib.hid (HB.out.trans ((Bk.below_reg hw').mono HB.out.size))
 clear hw'
 go_wp2
 go_ret
 exact ⟨rfl, HB5.out⟩
theorem Rn.th_at {L : List Dd.D} {k : Kn.V} {d : Dd.D} (h : L[Rn.at_ L k]? = some d) : Rn.th L k = (Kn.cmp (Bk.key d) k == 0) := by
 unfold Rn.th
 rw [h]
theorem Rn.th_end {L : List Dd.D} {k : Kn.V} (h : Rn.at_ L k = L.length) : Rn.th L k = false := by
 unfold Rn.th
 rw [h, List.getElem?_eq_none (Nat.le_refl _)]
set_option maxHeartbeats 4000000 in
set_option maxRecDepth 100000 in
theorem Rn.search_c (v : Value) (L : List Dd.D) (k : Kn.V) (w : World) (hv : Bk.Ds w v L) (hs : Bk.sorted L = true) (hk : ∀ d ∈ L, d.row ≠ []) (hl : L.length ≤ 1048576) :
 Calls Tryz.prog 79 #[v, k.val, .func (.func 80) #[] #[]] w fun e w' => e = .returned (.tuple #[.int .i64 (Rn.at_ L k : Nat), .bool (Rn.th L k)]) ∧ Below w.heap.size w w' := by
 obtain ⟨a, c, rfl, hlc, hcm, h⟩ := hv
 have HH := Lib.hid h
 have HAL : Hid (Rn.at_ L k ≤ L.length) := Lib.hid (Sk.at_le _ _)
 have HDE := Lib.hid fun (i : Nat) (x : Dd.D) (hx : L[i]? = some x) => Rn.at_dec hs (k := k) hx
 have HTH := Lib.hid fun (d : Dd.D) (h : L[Rn.at_ L k]? = some d) => Rn.th_at h
 have HTE := Lib.hid (Rn.th_end (L := L) (k := k))
 have HKE := Lib.hid hk
 have HC := Lib.hid fun (wz : World) (a : Option Addr) (n c : Nat) (d : Dd.D) (g : Bool) (h : Kn.Vals wz (.slice a n c) d.row) (hne : d.row ≠ []) => Rn.seek1_c g k h hne
 have HL := Lib.hid hl
 obtain ⟨n, hn⟩ : ∃ n, n = L.length := ⟨_, rfl⟩
 have HN := Lib.hid hn
 rw [← hn] at hl HAL HTE hlc ⊢
 generalize Rn.at_ L k = x at HAL HDE HTH HTE ⊢
 generalize Rn.th L k = t at HTH HTE ⊢
 have HK0 := Lib.hid (Kn.At.new w k 33)
 have HB0 : Hid (Below w.heap.size w (w.alloc (.cells #[.bool k.null, .int .i64 k.n, .string k.s] 33))) := Lib.hid ((Below.refl _ _).alloc (Nat.le_refl _) _)
 clear h hs hk hn hlc hcm
 unfold Kn.V.val at HC ⊢
 go_enter Tryz.func79, Tryz.ntmps79
 go_wp2_with fail
 obtain ⟨q, hq⟩ : ∃ q, q = w.heap.size := ⟨_, rfl⟩
 rw [← hq] at HK0 ⊢
 generalize w.alloc _ = w1 at HK0 HB0 ⊢
 clear hq
 go_loopw [9, 10] (fun a b wr => ∃ i j : Nat, i ≤ x ∧ x ≤ j ∧ j ≤ n ∧ a = .int .i64 i ∧ b = .int .i64 j ∧ Below w1.heap.size w1 wr) (fun a b _ => (intOf b).toNat - (intOf a).toNat)
 case atStart => exact ⟨0, n, Nat.zero_le _, HAL.out, Nat.le_refl _, rfl, rfl, Below.refl _ _⟩
 case round =>
  obtain ⟨i, j, hi, hj, hjn, rfl, rfl, hB⟩ := hrel
  have HIJ := Lib.hid (And.intro hi (And.intro hj hjn))
  have HB := Lib.hid hB
  have HBW := Lib.hid (HB0.out.trans (HB.out.mono HB0.out.size))
  have hkw := HK0.out.later HB.out
  have y0 := hkw.c0
  have y1 := hkw.c1
  have y2 := hkw.c2
  simp only [Nat.zero_add] at y1 y2
  have Y0 := fun d os => cell_regrown y0 d os
  have Y1 := fun d os => cell_regrown y1 d os
  have Y2 := fun d os => cell_regrown y2 d os
  clear hB hkw y0 y1 y2
  have hi0 : (0 : Int) ≤ (i : Int) := by omega
  by_cases hl2 : i < j
  ·have hil : (i : Int) < (j : Int) := by omega
   obtain ⟨m, hm⟩ : ∃ m, m = (i + j) / 2 := ⟨_, rfl⟩
   have hm1 : i ≤ m := by omega
   have hm2 : m < j := by omega
   rcases HH.out with h0 | ⟨b, o, rfl, hb, hc⟩
   ·have := HN.out; rw [h0] at this; simp at this; omega
   ·have hx := List.getElem?_eq_getElem (l := L) (i := m) (by rw [← HN.out]; omega)
    generalize L[m]'(by rw [← HN.out]; omega) = d at hx
    obtain ⟨u, c0, c1, hu⟩ := hc m d hx
    have c0 := (HBW.out.cell (p := ⟨b, o + m * 2, none⟩) hb).trans c0
    have c1 := (HBW.out.cell (p := ⟨b, o + m * 2 + 1, none⟩) hb).trans c1
    have hu9 := hu.later HBW.out
    obtain ⟨ua, uc, rfl, -⟩ := hu
    have HD := Lib.hid (HDE.out m d hx)
    have hne := HKE.out d (List.mem_of_getElem? hx)
    have CA : Hid (∀ p : Regrown, _) := Lib.hid fun p : Regrown => Calls.regrown_of (d := p.d) (os := p.os) (w := wr) (HC.out _ ua d.row.length uc d d.gone (hu9.later (below_regrown wr p.d p.os)) hne)
    rw [hm] at c0 c1
    have C0 := fun d os => cell_regrown c0 d os
    have C1 := fun d os => cell_regrown c1 d os
    generalize d.row.length = rl at C1 CA
    generalize d.gone = dg at C0 CA
    generalize Kn.cmp (Bk.key d) k = z at CA HD
    have HM := Lib.hid hm
    have HM1 := Lib.hid hm1
    have HM2 := Lib.hid hm2
    clear hc hx hu9 hne c0 c1 hm hm1 hm2 hi hj hb
    go_upto_region 5 with (fail)
    by_cases hz : z < 0
    ·have HX : Hid (m < x) := Lib.hid (by have := HD.out; rw [decide_eq_true hz] at this; exact of_decide_eq_true this.symm)
     refine wp_region_quiet_below (by kernel_rfl) (by kernel_rfl) ?_
     repeat (go_big_quiet_step (first | with_reducible exact CA.out _))
     refine wpQuiet_nil ?_
     intro w5 hw'
     have HB5 := Lib.hid (HB.out.trans ((Bk.below_reg hw').mono HB.out.size))
     clear hw'
     go_wp2
     go_roundw
     case rel => exact ⟨m + 1, j, HX.out, HIJ.out.2.1, HIJ.out.2.2, by rw [HM.out]; simp, rfl, HB5.out⟩
     case measure => have h1 := HM.out; have h2 := HM1.out; have h3 := HM2.out; simp [intOf]; omega
    ·have HX : Hid (x ≤ m) := Lib.hid (by have := HD.out; rw [decide_eq_false hz] at this; have := of_decide_eq_false this.symm; omega)
     have hz0 : (0 : Int) ≤ z := by omega
     refine wp_region_quiet_below (by kernel_rfl) (by kernel_rfl) ?_
     repeat (go_big_quiet_step (first | with_reducible exact CA.out _))
     refine wpQuiet_nil ?_
     intro w5 hw'
     have HB5 := Lib.hid (HB.out.trans ((Bk.below_reg hw').mono HB.out.size))
     clear hw'
     go_wp2
     go_roundw
     case rel => exact ⟨i, m, HIJ.out.1, HX.out, by have := HM2.out; have := HIJ.out.2.2; omega, rfl, by rw [HM.out]; simp, HB5.out⟩
     case measure => have h1 := HM.out; have h2 := HM1.out; have h3 := HM2.out; simp [intOf]; omega
  ·obtain rfl : i = j := by omega
   obtain rfl : i = x := by omega
   have hil : ¬ (i : Int) < (i : Int) := by omega
   by_cases hin : i < n
   ·have hinI : (i : Int) < (n : Int) := by omega
    rcases HH.out with h0 | ⟨b, o, rfl, hb, hc⟩
    ·have := HN.out; rw [h0] at this; simp at this; omega
    ·have hx := List.getElem?_eq_getElem (l := L) (i := i) (by rw [← HN.out]; omega)
     generalize L[i]'(by rw [← HN.out]; omega) = d at hx
     obtain ⟨u, c0, c1, hu⟩ := hc i d hx
     have c0 := (HBW.out.cell (p := ⟨b, o + i * 2, none⟩) hb).trans c0
     have c1 := (HBW.out.cell (p := ⟨b, o + i * 2 + 1, none⟩) hb).trans c1
     have hu9 := hu.later HBW.out
     obtain ⟨ua, uc, rfl, -⟩ := hu
     have HT := Lib.hid (HTH.out d hx)
     have hne := HKE.out d (List.mem_of_getElem? hx)
     have CA : Hid (∀ p : Regrown, _) := Lib.hid fun p : Regrown => Calls.regrown_of (d := p.d) (os := p.os) (w := wr) (HC.out _ ua d.row.length uc d d.gone (hu9.later (below_regrown wr p.d p.os)) hne)
     have C0 := fun d os => cell_regrown c0 d os
     have C1 := fun d os => cell_regrown c1 d os
     generalize d.row.length = rl at C1 CA
     generalize d.gone = dg at C0 CA
     generalize Kn.cmp (Bk.key d) k = z at CA HT
     clear hc hx hu9 hne c0 c1 hi hj hb hjn hl2 hin
     go_upto_region 8 with (fail)
     refine wp_region_quiet_below (by kernel_rfl) (by kernel_rfl) ?_
     repeat (go_big_quiet_step (first | with_reducible exact CA.out _))
     refine wpQuiet_nil ?_
     intro w5 hw'
     have HB5 := Lib.hid (HB0.out.trans ((HB.out.trans ((Bk.below_reg hw').mono HB.out.size)).mono HB0.out.size))
     clear hw'
     go_wp2
     go_ret2
     exact ⟨by rw [HT.out]; rfl, HB5.out⟩
   ·have hinI : ¬ (i : Int) < (n : Int) := by omega
    have hinJ : (n : Int) ≤ (i : Int) := by omega
    have HT := Lib.hid (HTE.out (by omega))
    clear hi hj hjn hl2 hin
    go_upto_region 8 with (fail)
    refine wp_region_quiet_below (by kernel_rfl) (by kernel_rfl) ?_
    repeat (go_big_quiet_step (fail))
    refine wpQuiet_nil ?_
    intro w5 hw'
    have HB5 := Lib.hid (HB0.out.trans ((HB.out.trans ((Bk.below_reg hw').mono HB.out.size)).mono HB0.out.size))
    clear hw'
    go_wp2
    go_ret2
    exact ⟨by rw [HT.out]; rfl, HB5.out⟩
end
section
open Go Go.RowKit
theorem Rn.has_len {s : List Kn.C} {d : Dd.D} (hl : 1 ≤ s.length) (h : Dd.fitE s d = 0) {i : Nat} (hi : i < s.length) : Bk.has i d = decide (i < d.row.length) := by
 obtain ⟨_, h2, _⟩ := Dd.fitE_0 h
 rw [Bk.cols_len] at h2
 unfold Bk.has
 rw [h2]
 cases hg : d.gone
 ·rw [if_neg (by decide), decide_eq_true hi]; simp
 ·rw [if_pos rfl]
  by_cases h0 : i = 0
  ·subst h0; rw [decide_eq_true (by omega)]; rfl
  ·rw [decide_eq_false (by omega)]
   simp [h0]
set_option maxHeartbeats 4000000 in
set_option maxRecDepth 100000 in
theorem Rn.values_c (v : Value) (L : List Dd.D) (i : Nat) (h8 : L.length ≤ 8) (hi6 : i < 6) (hr : ∀ d ∈ L, Bk.has i d = decide (i < d.row.length)) (w : World) (hv : Bk.Ds w v L) :
 Calls Tryz.prog 117 #[v, .int .i64 (i : Int)] w fun e w' => ∃ u, e = .returned u ∧ Kn.Vals w' u (Bk.col L i) ∧ Below w.heap.size w w' := by
 obtain ⟨a, c, rfl, hlc, hcm, h⟩ := hv
 have HH := Lib.hid h
 have HR := Lib.hid hr
 have H8 := Lib.hid h8
 have HT : Hid (∀ (k : Nat) (d : Dd.D), L[k]? = some d → Bk.col (L.take (k + 1)) i = if Bk.has i d = true then Bk.col (L.take k) i ++ [d.row.getD i Cl.nul] else Bk.col (L.take k) i) := Lib.hid fun k d h => Bk.col_take h
 have HLT : Hid (∀ k, (Bk.col (L.take k) i).length ≤ 8) := Lib.hid fun k => by
  unfold Bk.col
  rw [List.length_map]
  exact Nat.le_trans (List.length_filter_le _ _) (Nat.le_trans (List.length_take_le' _ _) h8)
 clear h hr h8
 have hi0 : (0 : Int) ≤ (i : Int) := by omega
 go_enter Tryz.func117, Tryz.ntmps117
 go_wp2_with fail
 go_loopw [5, 10] (fun u q wr => ∃ k : Nat, k ≤ L.length ∧ q = .int .i64 k ∧ Cl.Own w.heap.size wr u (Bk.col (L.take k) i) ∧ Below w.heap.size w wr) (fun _ q _ => L.length - (intOf q).toNat)
 case atStart => exact ⟨0, Nat.zero_le _, rfl, Cl.Own.nil _ _, Below.refl _ _⟩
 case round =>
  obtain ⟨k, hk, rfl, ho, hg⟩ := hrel
  have HO := Lib.hid ho
  have HG := Lib.hid hg
  clear ho
  by_cases hkl : k < L.length
  ·rcases HH.out with rfl | ⟨b, o, rfl, hlt, hc⟩
   ·simp at hkl
   ·have hx := List.getElem?_eq_getElem hkl
    have hm := List.getElem_mem hkl
    generalize L[k] = d at hx hm
    have HN := Lib.hid (HT.out k d hx)
    obtain ⟨u0, c0, c1, hu⟩ := hc k d hx
    have hu := hu.later hg
    have c0 := (hg.cell (p := ⟨b, o + k * 2, none⟩) hlt).trans c0
    have c1 := (hg.cell (p := ⟨b, o + k * 2 + 1, none⟩) hlt).trans c1
    have dk : (k : Int) < (L.length : Int) := by omega
    have dk0 : (0 : Int) ≤ (k : Int) := by omega
    have dk8 : (k : Int) ≤ 8 := by have := H8.out; omega
    have HK := Lib.hid hkl
    have hhas := HR.out d hm
    obtain ⟨ua, uc, rfl, huc⟩ := hu
    have HUC := Lib.hid huc
    have HBX : Hid (Below wr.heap.size wr (wr.alloc (.cells #[.bool d.gone, .slice ua d.row.length uc] 41))) := Lib.hid ((Below.refl _ _).alloc (Nat.le_refl _) _)
    have x1 := Kn.cell_new wr #[.bool d.gone, .slice ua d.row.length uc] 41 1 _ rfl
    simp only [List.getElem_toArray, List.getElem_cons_zero, List.getElem_cons_succ] at x1
    clear hc hx hkl hk hg hm huc
    go_upto_region 5 with (fail)
    obtain ⟨q, hq⟩ : ∃ q, q = wr.heap.size := ⟨_, rfl⟩
    rw [← hq] at x1 ⊢
    generalize wr.alloc _ = w3 at HBX x1 ⊢
    have HG3 := Lib.hid (HG.out.trans (HBX.out.mono HG.out.size))
    have HO3 := Lib.hid (HO.out.kept HBX.out)
    clear hq c0 c1
    by_cases hil : i < d.row.length
    ·have HN2 : Hid (Bk.col (L.take (k + 1)) i = Bk.col (L.take k) i ++ [d.row.getD i Cl.nul]) := Lib.hid (by rw [HN.out, hhas, if_pos (decide_eq_true hil)])
     have hgt : d.row[i]? = some (d.row.getD i Cl.nul) := by rw [List.getD_eq_getElem?_getD, List.getElem?_eq_getElem hil]; rfl
     rcases HUC.out with h0 | ⟨b2, o2, rfl, hlt2, hm2, hcc⟩
     ·rw [h0] at hil; simp at hil
     ·obtain ⟨e0, e1, e2⟩ := hcc i _ hgt
      have e0 := (HBX.out.cell (p := ⟨b2, o2 + i * 3, none⟩) hlt2).trans e0
      have e1 := (HBX.out.cell (p := ⟨b2, o2 + i * 3 + 1, none⟩) hlt2).trans e1
      have e2 := (HBX.out.cell (p := ⟨b2, o2 + i * 3 + 2, none⟩) hlt2).trans e2
      have dil : (i : Int) < (d.row.length : Int) := by omega
      have hO := HO3.out
      have hl := HLT.out k
      have hsz := HG3.out.size
      generalize d.row.getD i Cl.nul = x at HN2 e0 e1 e2
      clear hcc hgt hil HUC hhas HN hlt2 hm2
      go_wp2_with (at_builtin; refine Cl.wpList_append_val x hO (by omega) (by omega) (.tmp 19) (.tmp 25) _ rfl rfl rfl rfl rfl ?_; intro v5 w5 h5 g5)
      have H5 := Lib.hid h5
      have HB5 := Lib.hid (Cl.own_below HG3.out hO g5)
      clear h5 g5 hO
      go_roundw
      case rel => exact ⟨k + 1, HK.out, by simp, by rw [HN2.out]; exact H5.out, HB5.out⟩
      case measure => (have := HK.out; simp [intOf]; omega)
    ·have HN2 : Hid (Bk.col (L.take (k + 1)) i = Bk.col (L.take k) i) := Lib.hid (by rw [HN.out, hhas, if_neg (by rw [decide_eq_false hil]; decide)])
     have dil : ¬ (i : Int) < (d.row.length : Int) := by omega
     clear hil hhas HN HUC
     go_wp2
     go_roundw
     case rel => exact ⟨k + 1, HK.out, by simp, by rw [HN2.out]; exact HO3.out, HG3.out⟩
     case measure => (have := HK.out; simp [intOf]; omega)
  ·obtain rfl : k = L.length := by omega
   have dk : ¬ (L.length : Int) < (L.length : Int) := by omega
   have HO2 : Hid (Cl.Own w.heap.size wr _ (Bk.col L i)) := Lib.hid (by have := HO.out; rw [List.take_length] at this; exact this)
   clear hk hkl hg
   go_wp2
   go_ret
   exact ⟨_, rfl, HO2.out.vals, HG.out⟩
theorem Rn.run_makeZ (n : Nat) (hn : n ≤ 6) (w : World) : (Instr.makeSlice 108 (.int .i64 (n : Int)) (.int .i64 (n : Int))).run Tryz.prog w = .ok (.slice (some ⟨w.heap.size, 0, none⟩) n n) (w.alloc (.cells (madeCells (Zn.cs Zn.z0) (n * 8)) 68)) := by
 obtain ⟨i0, hi, hz0, hz1, hz2⟩ := info_parts (show (Tryz.prog.info? 68).map (fun i => (i.zero, i.size, i.bytes)) = some (some (.agg #[.bool false, .bool false, .bool false, .int .i64 0, .string ⟨#[]⟩, .bool false, .int .i64 0, .string ⟨#[]⟩]), 8, 72) by kernel_rfl)
 have := Go.run_make (P := Tryz.prog) w 108 68 i0 _ Tryz.underlying108 hi hz0 .i64 .i64 n n (by omega) (Int.le_refl _) (by rw [hz2]; omega) (by omega)
 rw [hz1, Int.toNat_natCast] at this
 exact this
set_option maxHeartbeats 4000000 in
set_option maxRecDepth 100000 in
theorem Rn.zonesOf_c (v : Value) (L : List Dd.D) (n : Nat) (h8 : L.length ≤ 8) (hn : n ≤ 6) (hr : ∀ d ∈ L, ∀ i, i < n → Bk.has i d = decide (i < d.row.length)) (hz : Bk.Zs L) (w : World) (hv : Bk.Ds w v L) :
 Calls Tryz.prog 88 #[v, .int .i64 (n : Int)] w fun e w' => ∃ g, e = .returned (.slice (some ⟨g, 0, none⟩) n n) ∧ w.heap.size ≤ g ∧ Rn.ZR w' g n (fun j => Zn.of (Bk.col L j)) ∧ Below w.heap.size w w' := by
 have HV := Lib.hid hv
 have CV := Lib.hid fun (i : Nat) (h : i < n) (wz : World) (hz : Bk.Ds wz v L) => Rn.values_c v L i h8 (by omega) (fun d hd => hr d hd i h) wz hz
 have CO := Lib.hid fun (i : Nat) (u : Value) (wz : World) (h : Kn.Vals wz u (Bk.col L i)) => Zn.of_c u _ wz h (fun x hx => by
  obtain ⟨d, hd, _, rfl⟩ := Bk.mem_col.1 hx
  rw [List.getD_eq_getElem?_getD]
  cases h : d.row[i]? with
  | none => unfold Kn.Z; exact Nat.zero_le _
  | some v => exact hz d hd v (List.mem_of_getElem? h))
 have hmk := Rn.run_makeZ n hn
 have HN := Lib.hid hn
 obtain ⟨a, c, rfl, -⟩ := hv
 clear h8 hn hr hz
 go_enter Tryz.func88, Tryz.ntmps88
 go_wp2_with fail
 have hM := Rn.ZR.made w n
 have hB : Below w.heap.size w (w.alloc (.cells (madeCells (Zn.cs Zn.z0) (n * 8)) 68)) := (Below.refl _ _).alloc (Nat.le_refl _) _
 generalize w.alloc _ = w1 at hM hB ⊢
 obtain ⟨g, hg⟩ : ∃ g, g = w.heap.size := ⟨_, rfl⟩
 rw [← hg] at hM ⊢
 have HGE := Lib.hid hg
 have HM := Lib.hid hM
 have HB := Lib.hid hB
 clear hg hM hB hmk
 go_loopw [11] (fun i wr => ∃ k : Nat, k ≤ n ∧ i = .int .i64 k ∧ Rn.ZR wr g n (fun j => if j < k then Zn.of (Bk.col L j) else Zn.z0) ∧ Below w.heap.size w wr) (fun i _ => n - (intOf i).toNat)
 case atStart => exact ⟨0, Nat.zero_le _, rfl, HM.out.congr fun i _ => by simp, HB.out⟩
 case round =>
  obtain ⟨k, hk, rfl, hZ, hB⟩ := hrel
  have HZ := Lib.hid hZ
  have HBk := Lib.hid hB
  clear hZ hB
  by_cases hl : k < n
  ·have hkl : (k : Int) < (n : Int) := by omega
   have hk0 : (0 : Int) ≤ (k : Int) := by omega
   have hk6 : (k : Int) ≤ 6 := by have := HN.out; omega
   have cv := CV.out k hl wr (HV.out.later HBk.out)
   have HK := Lib.hid hl
   clear hk hl
   go_wp2_with fail
   with_reducible refine cv.mono ?_
   rintro e w2 ⟨u, rfl, hu, g2⟩
   have HB2 := Lib.hid (HBk.out.trans (g2.mono HBk.out.size))
   have HZ2 := Lib.hid (HZ.out.kept (g2.block g HZ.out.lt))
   have co := CO.out k u w2 hu
   obtain ⟨ua, uc, rfl, -⟩ := hu
   have HCZ : Hid (∃ z, z = Zn.of (Bk.col L k)) := Lib.hid ⟨_, rfl⟩
   obtain ⟨z, hz⟩ := HCZ.out
   rw [← hz] at co
   have HZE := Lib.hid hz
   clear cv g2 hz
   go_wp2_with fail
   with_reducible refine co.mono ?_
   rintro e w3 ⟨rfl, g3⟩
   have HB3 := Lib.hid (HB2.out.trans (g3.mono HB2.out.size))
   have HZ3 := Lib.hid (HZ2.out.kept (g3.block g HZ2.out.lt))
   obtain ⟨r0, r1, r2, r3, r4, r5, r6, r7⟩ := HZ3.out.cells HK.out
   have f0 := HZ3.out.frozen (k * 8)
   have f1 := HZ3.out.frozen (k * 8 + 1)
   have f2 := HZ3.out.frozen (k * 8 + 2)
   have f3 := HZ3.out.frozen (k * 8 + 3)
   have f4 := HZ3.out.frozen (k * 8 + 4)
   have f5 := HZ3.out.frozen (k * 8 + 5)
   have f6 := HZ3.out.frozen (k * 8 + 6)
   have f7 := HZ3.out.frozen (k * 8 + 7)
   generalize (if k < k then Zn.of (Bk.col L k) else Zn.z0) = y at r0 r1 r2 r3 r4 r5 r6 r7
   have HE : Hid (Rn.ZR (Rn.zput w3 g (k * 8) z) g n (fun j => if j < k + 1 then Zn.of (Bk.col L j) else Zn.z0) ∧ Below w.heap.size w (Rn.zput w3 g (k * 8) z)) := Lib.hid ⟨(HZ3.out.put k z).congr fun i _ => by
    by_cases e : i = k
    ·subst e
     rw [if_pos rfl, if_pos (by omega), HZE.out]
    ·rw [if_neg e]
     by_cases e2 : i < k
     ·rw [if_pos e2, if_pos (by omega)]
     ·rw [if_neg e2, if_neg (by omega)], Rn.zput_below HB3.out (by rw [HGE.out]; exact Nat.le_refl _) z⟩
   unfold Rn.zput at HE
   obtain ⟨zn, zw, ⟨ln, li, ls⟩, ⟨hn, hi, hs⟩⟩ := z
   obtain ⟨yn, yw, ⟨yln, yli, yls⟩, ⟨yhn, yhi, yhs⟩⟩ := y
   simp only at r0 r1 r2 r3 r4 r5 r6 r7 HE
   clear co g3
   go_wp2
   go_roundw
   case rel => exact ⟨k + 1, HK.out, by simp, HE.out⟩
   case measure => (have := HK.out; simp [intOf]; omega)
  ·obtain rfl : k = n := by omega
   have hkl : ¬ (k : Int) < (k : Int) := by omega
   have HE : Hid (Rn.ZR wr g k (fun j => Zn.of (Bk.col L j))) := Lib.hid (HZ.out.congr fun i hi => by rw [if_pos hi])
   clear hk hl
   go_wp2
   go_ret
   exact ⟨g, rfl, by rw [HGE.out]; exact Nat.le_refl _, HE.out, HBk.out⟩
end
section
open Go.RowKit
open Ty (num)
open Ig (rest)
section
variable {c : Kn.C} {l : List UInt8}
def Cl.bb (l : List UInt8) : ByteArray := Ty.S ((rest l).take (Bt.need (num l).1))
def Cl.vb (l : List UInt8) : List UInt8 := (rest l).drop (Bt.need (num l).1)
theorem Cl.rd_k (h : c.good = false) : Cl.rd c l = (4, []) := by unfold Cl.rd; rw [if_pos h]
theorem Cl.rd_n (hg : c.good = true) (h : (num l).2.2 ≠ 0) : Cl.rd c l = ((num l).2.2, []) := by unfold Cl.rd; rw [if_neg (by rw [hg]; decide), if_pos h]
theorem Cl.rd_3 (hg : c.good = true) (h : (num l).2.2 = 0) (h2 : 65536 < (num l).1) : Cl.rd c l = (3, []) := by unfold Cl.rd; rw [if_neg (by rw [hg]; decide), if_neg (by rw [h]; simp), if_pos h2]
theorem Cl.rd_2 (hg : c.good = true) (h : (num l).2.2 = 0) (h2 : ¬ 65536 < (num l).1) (h3 : (rest l).length < Bt.need (num l).1) : Cl.rd c l = (2, []) := by
 unfold Cl.rd; rw [if_neg (by rw [hg]; decide), if_neg (by rw [h]; simp), if_neg h2, if_pos h3]
theorem Cl.rd_c (hg : c.good = true) (h : (num l).2.2 = 0) (h2 : ¬ 65536 < (num l).1) (h3 : ¬ (rest l).length < Bt.need (num l).1) (h4 : Bt.chk (Cl.bb l) (num l).1 ≠ 0) : Cl.rd c l = (Bt.chk (Cl.bb l) (num l).1, []) := by
 unfold Cl.bb at h4 ⊢
 unfold Cl.rd
 rw [if_neg (by rw [hg]; decide), if_neg (by rw [h]; simp), if_neg h2, if_neg h3, if_pos h4]
theorem Cl.rd_6 (hg : c.good = true) (h : (num l).2.2 = 0) (h2 : ¬ 65536 < (num l).1) (h3 : ¬ (rest l).length < Bt.need (num l).1) (h4 : Bt.chk (Cl.bb l) (num l).1 = 0) {k : Nat} (hk : k < (num l).1) (hb : Bt.bit (Cl.bb l) k = true) (hn : c.null = false) : Cl.rd c l = (6, []) := by
 unfold Cl.rd
 rw [if_neg (by rw [hg]; decide), if_neg (by rw [h]; simp), if_neg h2, if_neg h3]
 unfold Cl.bb at h4 hb
 rw [if_neg (by rw [h4]; simp), if_pos]
 rw [hn, Bool.and_eq_true, List.any_eq_true]
 exact ⟨rfl, true, List.mem_map.2 ⟨k, List.mem_range.2 hk, hb⟩, rfl⟩
theorem Cl.rd_v (hg : c.good = true) (h : (num l).2.2 = 0) (h2 : ¬ 65536 < (num l).1) (h3 : ¬ (rest l).length < Bt.need (num l).1) (h4 : Bt.chk (Cl.bb l) (num l).1 = 0) (h5 : ∀ k, k < (num l).1 → Bt.bit (Cl.bb l) k = true → c.null = true) :
 Cl.rd c l = Cl.rdV c (Cl.bits (num l).1 (Cl.bb l)) (Cl.vb l) := by
 have hn : ¬ (!c.null && (Cl.bits (num l).1 (Ty.S ((rest l).take (Bt.need (num l).1)))).any id) = true := by
  intro hx
  rw [Bool.and_eq_true, List.any_eq_true] at hx
  obtain ⟨h1, x, hx, h2⟩ := hx
  obtain ⟨k, hk, rfl⟩ := List.mem_map.1 hx
  have := h5 k (List.mem_range.1 hk) h2
  rw [this] at h1
  cases h1
 unfold Cl.rd Cl.bb Cl.vb
 unfold Cl.bb at h4
 rw [if_neg (by rw [hg]; decide), if_neg (by rw [h]; simp), if_neg h2, if_neg h3, if_neg (by rw [h4]; simp), if_neg hn]
end
section
variable {c : Kn.C} {T : List Bool} {r : List UInt8}
theorem Cl.rdV_e (h : (Cl.back c r).1 ≠ 0) : Cl.rdV c T r = ((Cl.back c r).1, []) := by unfold Cl.rdV; rw [if_pos h]
theorem Cl.rdV_no (h : (Cl.back c r).1 = 0) (hf : Cl.fill T (Cl.back c r).2 = none) : Cl.rdV c T r = (4, []) := by
 unfold Cl.rdV; rw [if_neg (by rw [h]; simp), hf]
theorem Cl.rdV_4 (h : (Cl.back c r).1 = 0) {out : List Kn.V} (hf : Cl.fill T (Cl.back c r).2 = some out) (hv : Cl.vals c out ≠ r) : Cl.rdV c T r = (4, []) := by
 unfold Cl.rdV
 rw [if_neg (by rw [h]; simp), hf]
 simp only
 rw [if_neg hv]
theorem Cl.rdV_ok (h : (Cl.back c r).1 = 0) {out : List Kn.V} (hf : Cl.fill T (Cl.back c r).2 = some out) (hv : Cl.vals c out = r) : Cl.rdV c T r = (0, out) := by
 unfold Cl.rdV
 rw [if_neg (by rw [h]; simp), hf]
 simp only
 rw [if_pos hv]
end
def Cl.MidF (T : List Bool) (M : List Kn.V) (k j : Nat) (O : List Kn.V) : Prop := O.length = k ∧ k ≤ T.length ∧ j ≤ M.length ∧ Cl.fill T M = (Cl.fill (T.drop k) (M.drop j)).map (O ++ ·)
theorem Cl.MidF.start (T : List Bool) (M : List Kn.V) : Cl.MidF T M 0 0 [] := ⟨rfl, by omega, by omega, by simp⟩
theorem Cl.MidF.null {T : List Bool} {M : List Kn.V} {k j : Nat} {O : List Kn.V} (h : Cl.MidF T M k j O) (hk : T[k]? = some true) : Cl.MidF T M (k + 1) j (O ++ [Cl.nul]) := by
 obtain ⟨h1, h2, h3, h4⟩ := h
 obtain ⟨hlt, he⟩ := List.getElem?_eq_some_iff.1 hk
 refine ⟨by simp [h1], by omega, h3, ?_⟩
 rw [h4, List.drop_eq_getElem_cons hlt, he]
 simp only [Cl.fill, Option.map_map]
 congr 1
 funext x
 simp
theorem Cl.MidF.fail {T : List Bool} {M : List Kn.V} {k j : Nat} {O : List Kn.V} (h : Cl.MidF T M k j O) (hk : T[k]? = some false) (hj : M.length ≤ j) : Cl.fill T M = none := by
 obtain ⟨h1, h2, h3, h4⟩ := h
 obtain ⟨hlt, he⟩ := List.getElem?_eq_some_iff.1 hk
 rw [h4, List.drop_eq_getElem_cons hlt, he, List.drop_eq_nil_of_le hj]
 simp [Cl.fill]
theorem Cl.MidF.live {T : List Bool} {M : List Kn.V} {k j : Nat} {O : List Kn.V} (h : Cl.MidF T M k j O) (hk : T[k]? = some false) {x : Kn.V} (hx : M[j]? = some x) : Cl.MidF T M (k + 1) (j + 1) (O ++ [x]) := by
 obtain ⟨h1, h2, h3, h4⟩ := h
 obtain ⟨hlt, he⟩ := List.getElem?_eq_some_iff.1 hk
 obtain ⟨hl2, he2⟩ := List.getElem?_eq_some_iff.1 hx
 refine ⟨by simp [h1], by omega, by omega, ?_⟩
 rw [h4, List.drop_eq_getElem_cons hlt, he, List.drop_eq_getElem_cons hl2, he2]
 simp only [Cl.fill, Option.map_map]
 congr 1
 funext x
 simp
theorem Cl.MidF.left {T : List Bool} {M : List Kn.V} {k j : Nat} {O : List Kn.V} (h : Cl.MidF T M k j O) (hk : k = T.length) (hj : j ≠ M.length) : Cl.fill T M = none := by
 obtain ⟨h1, h2, h3, h4⟩ := h
 have e := List.drop_eq_getElem_cons (show j < M.length by omega)
 rw [h4, hk, List.drop_length, e]
 simp [Cl.fill]
theorem Cl.MidF.done {T : List Bool} {M : List Kn.V} {k j : Nat} {O : List Kn.V} (h : Cl.MidF T M k j O) (hk : k = T.length) (hj : j = M.length) : Cl.fill T M = some O := by
 obtain ⟨h1, h2, h3, h4⟩ := h
 rw [h4, hk, hj, List.drop_length, List.drop_length]
 simp [Cl.fill]
def Cl.Got (w : World) (r : Nat × List Kn.V) (e : Ending) (w' : World) : Prop :=
 ∃ v, e = .returned (.tuple #[v, .int .i64 ((r.1 : Nat) : Int)]) ∧ Kn.Vals w' v r.2 ∧ Below w.heap.size w w'
theorem Cl.Got.bad {w w' : World} {r : Nat × List Kn.V} {z : Int} {q : Nat} (hr : r = (q, [])) (hz : z = (q : Int)) (g : Below w.heap.size w w') : Cl.Got w r (.returned (.tuple #[.slice none 0 0, .int .i64 z])) w' :=
 ⟨_, by rw [hr, hz], by rw [hr]; exact ⟨_, 0, rfl, .inl rfl⟩, g⟩
theorem Cl.Got.good {w w' : World} {r : Nat × List Kn.V} {v : Value} {L : List Kn.V} (hr : r = (0, L)) (h : Kn.Vals w' v L) (g : Below w.heap.size w w') : Cl.Got w r (.returned (.tuple #[v, .int .i64 0])) w' :=
 ⟨v, by rw [hr]; rfl, by rw [hr]; exact h, g⟩
end
section
open Go.RowKit
open Ty (num)
open Ig (rest)
def Cl.RelF (w9 : World) (T : List Bool) (M : List Kn.V) (ov jv iv : Value) (wr : World) : Prop :=
 ∃ (q j : Nat) (O : List Kn.V), iv = .int .i64 q ∧ jv = .int .i64 j ∧ Cl.MidF T M q j O ∧ Cl.Own w9.heap.size wr ov O ∧ Below w9.heap.size w9 wr
end
section
open Go.RowKit
open Ty (num txt)
open Ig (rest sg)
open Tx (restT)
end
section
open Go.RowKit
open Ty (I64)
open Ig (encI)
open Tx (encT)
def Dd.wS (s : List Kn.C) (d : Dd.D) : List UInt8 := if Dd.fitE s d = 0 then Dd.enc s d else []
def Dd.wV (s : List Kn.C) (d : Dd.D) : Value := .tuple #[.string (Ty.S (Dd.wS s d)), .int .i64 (Dd.fitE s d)]
theorem Dd.wV_bad {s : List Kn.C} {d : Dd.D} (h : Dd.fitE s d ≠ 0) : Dd.wV s d = .tuple #[.string (Ty.S []), .int .i64 (Dd.fitE s d)] := by
 unfold Dd.wV Dd.wS
 rw [if_neg h]
theorem Dd.wV_ok {s : List Kn.C} {d : Dd.D} (h : Dd.fitE s d = 0) : Dd.wV s d = .tuple #[.string (Ty.S (Dd.enc s d)), .int .i64 0] := by
 unfold Dd.wV Dd.wS
 rw [h, if_pos rfl]
def Dd.pre (s : List Kn.C) (g : Bool) (r : List Kn.V) (k : Nat) : List UInt8 := Dd.flag g :: Dd.encR (s.take k) (r.take k)
theorem Dd.pre_step {s : List Kn.C} {g : Bool} {r : List Kn.V} {k : Nat} {c : Kn.C} {v : Kn.V} (hc : s[k]? = some c) (hv : r[k]? = some v) : Dd.pre s g r (k + 1) = Dd.pre s g r k ++ Dd.encV c v := by
 obtain ⟨h1, rfl⟩ := List.getElem?_eq_some_iff.1 hc
 obtain ⟨h2, rfl⟩ := List.getElem?_eq_some_iff.1 hv
 unfold Dd.pre
 rw [List.take_succ_eq_append_getElem h1, List.take_succ_eq_append_getElem h2, Dd.encR_snoc _ _ _ _ (by rw [List.length_take, List.length_take]; omega)]
 rfl
theorem Dd.pre_all {s : List Kn.C} {d : Dd.D} (h : Dd.fitE s d = 0) : Dd.pre s d.gone d.row d.row.length = Dd.enc s d := by
 obtain ⟨_, h2, _⟩ := Dd.fitE_0 h
 unfold Dd.pre Dd.enc
 rw [List.take_length]
 congr 1
 unfold Dd.cols at h2
 obtain ⟨g, r⟩ := d
 cases g
 ·simp only [Bool.false_eq_true, if_false] at h2 ⊢
  rw [h2, List.take_length]
 ·simp only [if_true] at h2 ⊢
  match s, r, h2 with
  | [], [], _ => rfl
  | [], _ :: _, h2 => simp at h2
  | c :: cs, [], h2 => simp at h2
  | c :: cs, [x], _ => simp [Dd.encR]
  | c :: cs, _ :: _ :: _, h2 => simp at h2
theorem Dd.encV_len {c : Kn.C} {v : Kn.V} (h : Kn.fits c v = true) : (Dd.encV c v).length ≤ 80 := by
 unfold Dd.encV
 rw [List.length_append]
 have h1 : (if c.null = true then [Dd.flag v.null] else []).length ≤ 1 := by split <;> simp
 have h2 : (if v.null = true then [] else Dd.encP c v).length ≤ 73 := by
  cases hn : v.null
  ·rw [if_neg (by decide)]
   unfold Dd.encP
   by_cases hk : c.k = 1
   ·rw [if_pos hk]
    have := Ty.encU_len9 (Ty.zig v.n).toNat
    unfold Ig.encI
    omega
   ·rw [if_neg hk]
    have h64 := (Dd.fits_str hk h hn).2
    have := Ty.encU_len9 v.s.data.toList.length
    unfold encT
    rw [List.length_append]
    omega
  ·simp
 omega
theorem Dd.encR_len : ∀ (s : List Kn.C) (r : List Kn.V), Kn.fitsAll s r = true → (Dd.encR s r).length ≤ 80 * r.length
 | [], [], _ => by simp [Dd.encR]
 | [], _ :: _, _ => by simp [Dd.encR]
 | _ :: _, [], _ => by simp [Dd.encR]
 | c :: cs, v :: vs, h => by
   simp only [Kn.fitsAll, Bool.and_eq_true] at h
   have h1 := Dd.encV_len h.1
   have h2 := Dd.encR_len cs vs h.2
   simp only [Dd.encR, List.length_append, List.length_cons]
   omega
theorem Dd.fitsAll_at : ∀ (s : List Kn.C) (r : List Kn.V) (k : Nat) (c : Kn.C) (v : Kn.V), Kn.fitsAll s r = true → s[k]? = some c → r[k]? = some v → Kn.fits c v = true
 | [], _, _, _, _, _, h, _ => by simp at h
 | _ :: _, [], _, _, _, _, _, h => by simp at h
 | a :: s, x :: r, 0, c, v, hf, hc, hv => by
   obtain rfl : a = c := by simpa using hc
   obtain rfl : x = v := by simpa using hv
   simp only [Kn.fitsAll, Bool.and_eq_true] at hf
   exact hf.1
 | a :: s, x :: r, k + 1, c, v, hf, hc, hv => by
   simp only [Kn.fitsAll, Bool.and_eq_true] at hf
   exact Dd.fitsAll_at s r k c v hf.2 (by simpa using hc) (by simpa using hv)
theorem Dd.fitsAll_take : ∀ (s : List Kn.C) (r : List Kn.V) (k : Nat), Kn.fitsAll s r = true → Kn.fitsAll (s.take k) (r.take k) = true
 | [], r, k, _ => by simp [Kn.fitsAll]
 | _ :: _, [], k, _ => by cases k <;> simp [Kn.fitsAll]
 | a :: s, x :: r, 0, _ => by simp [Kn.fitsAll]
 | a :: s, x :: r, k + 1, h => by
   simp only [Kn.fitsAll, Bool.and_eq_true, List.take_succ_cons] at h ⊢
   exact ⟨h.1, Dd.fitsAll_take s r k h.2⟩
theorem Dd.fit_at {s : List Kn.C} {d : Dd.D} (h : Dd.fitE s d = 0) : d.row.length ≤ 6 ∧ d.row.length ≤ s.length ∧ ∀ (k : Nat) (c : Kn.C) (v : Kn.V), s[k]? = some c → d.row[k]? = some v → Kn.fits c v = true := by
 obtain ⟨h1, h2, h3⟩ := Dd.fitE_0 h
 have hl := Kn.right_len h1
 have hc : (Dd.cols s d.gone).length ≤ s.length := by
  unfold Dd.cols
  split
  ·rw [List.length_take]; omega
  ·exact Nat.le_refl _
 refine ⟨by omega, by omega, fun k c v hk hv => ?_⟩
 refine Dd.fitsAll_at _ _ k c v h3 ?_ hv
 have hkl := (List.getElem?_eq_some_iff.1 hv).1
 unfold Dd.cols at h2 ⊢
 split
 ·rename_i hg
  rw [if_pos hg, List.length_take] at h2
  rw [List.getElem?_take_of_lt (by omega)]
  exact hk
 ·exact hk
theorem Dd.pre_len {s : List Kn.C} {d : Dd.D} (h : Dd.fitE s d = 0) {k : Nat} (hk : k ≤ d.row.length) : (Dd.pre s d.gone d.row k).length ≤ 500 := by
 obtain ⟨h1, h2, h3⟩ := Dd.fit_at h
 have hf : Kn.fitsAll (s.take k) (d.row.take k) = true := by
  obtain ⟨_, a2, a3⟩ := Dd.fitE_0 h
  have e : s.take k = (Dd.cols s d.gone).take k := by
   unfold Dd.cols at a2 ⊢
   split
   ·rename_i hg
    rw [if_pos hg, List.length_take] at a2
    rw [List.take_take]
    congr 1
    omega
   ·rfl
  rw [e]
  exact Dd.fitsAll_take _ _ k a3
 have := Dd.encR_len _ _ hf
 unfold Dd.pre
 rw [List.length_cons]
 have hl : (d.row.take k).length ≤ 6 := by rw [List.length_take]; omega
 omega
end
section
open Go.RowKit
open Ty (I64)
open Ig (encI)
open Tx (encT)
end
section
open Go.RowKit
open Ty (num txt)
def Dd.MidR (cs : List Kn.C) (l : List UInt8) (k : Nat) (M : List Kn.V) (l2 : List UInt8) : Prop :=
 M.length = k ∧ k ≤ cs.length ∧ Dd.rdR cs l = ((Dd.rdR (cs.drop k) l2).1, M ++ (Dd.rdR (cs.drop k) l2).2.1, (Dd.rdR (cs.drop k) l2).2.2)
theorem Dd.MidR.fail {cs : List Kn.C} {l : List UInt8} {k : Nat} {M : List Kn.V} {l2 : List UInt8} (h : Dd.MidR cs l k M l2) {c : Kn.C} (hc : cs[k]? = some c) (hq : (Dd.rdV c l2).1 ≠ 0) : (Dd.rdR cs l).1 = (Dd.rdV c l2).1 := by
 obtain ⟨_, _, h3⟩ := h
 obtain ⟨h1, rfl⟩ := List.getElem?_eq_some_iff.1 hc
 rw [h3, List.drop_eq_getElem_cons h1]
 simp only [Dd.rdR]
 rw [if_pos hq]
theorem Dd.MidR.next {cs : List Kn.C} {l : List UInt8} {k : Nat} {M : List Kn.V} {l2 : List UInt8} (h : Dd.MidR cs l k M l2) {c : Kn.C} (hc : cs[k]? = some c) (hq : (Dd.rdV c l2).1 = 0) : Dd.MidR cs l (k + 1) (M ++ [(Dd.rdV c l2).2.1]) (Dd.rdV c l2).2.2 := by
 obtain ⟨a1, _, h3⟩ := h
 obtain ⟨h1, rfl⟩ := List.getElem?_eq_some_iff.1 hc
 refine ⟨by rw [List.length_append, a1]; rfl, h1, ?_⟩
 rw [h3, List.drop_eq_getElem_cons h1]
 simp only [Dd.rdR]
 rw [if_neg (by rw [hq]; simp)]
 simp only [List.append_assoc, List.singleton_append]
theorem Dd.MidR.done {cs : List Kn.C} {l : List UInt8} {k : Nat} {M : List Kn.V} {l2 : List UInt8} (h : Dd.MidR cs l k M l2) (hk : k = cs.length) : Dd.rdR cs l = (0, M, l2) := by
 obtain ⟨_, _, h3⟩ := h
 rw [h3, hk, List.drop_length]
 simp [Dd.rdR]
def Dd.Fresh (B : Nat) (v : Value) : Prop := ∀ k, v.ownBlock = some k → B ≤ k
theorem Dd.Fresh.nil (B : Nat) : Dd.Fresh B (.slice none 0 0) := fun k h => by cases h
theorem Dd.Fresh.mono {B B' : Nat} {v : Value} (h : Dd.Fresh B v) (hb : B' ≤ B) : Dd.Fresh B' v := fun k hk => Nat.le_trans hb (h k hk)
def Dd.Got (w : World) (r : Nat × Dd.D) (e : Ending) (w' : World) : Prop :=
 ∃ u, e = .returned (.tuple #[.agg #[.bool r.2.gone, u], .int .i64 ((r.1 : Nat) : Int)]) ∧ Kn.Vals w' u r.2.row ∧ Dd.Fresh w.heap.size u ∧ Below w.heap.size w w'
theorem Dd.Got.bad {w w' : World} {r : Nat × Dd.D} {z : Int} {q : Nat} (hr : r = (q, ⟨false, []⟩)) (hz : z = (q : Int)) (g : Below w.heap.size w w') : Dd.Got w r (.returned (.tuple #[.agg #[.bool false, .slice none 0 0], .int .i64 z])) w' :=
 ⟨_, by rw [hr, hz], by rw [hr]; exact ⟨_, 0, rfl, .inl rfl⟩, Dd.Fresh.nil _, g⟩
theorem Dd.Got.good {w w' : World} {r : Nat × Dd.D} {u : Value} {B : Bool} {L : List Kn.V} (hr : r = (0, ⟨B, L⟩)) (h : Kn.Vals w' u L) (hf : Dd.Fresh w.heap.size u) (g : Below w.heap.size w w') : Dd.Got w r (.returned (.tuple #[.agg #[.bool B, u], .int .i64 0])) w' :=
 ⟨u, by rw [hr]; rfl, by rw [hr]; exact h, hf, g⟩
theorem Dd.two {w : World} {q : Nat} {x y : Value} {t : TypeId} (h : w.heap[q]? = some (.cells #[x, y] t (0, 0))) : w.cell? ⟨q, 0, none⟩ = some x ∧ w.cell? ⟨q, 1, none⟩ = some y ∧ w.frozen? ⟨q, 0, none⟩ = false ∧ w.frozen? ⟨q, 1, none⟩ = false := by
 refine ⟨?_, ?_, ?_, ?_⟩ <;> simp [World.cell?, World.frozen?, h]
end
section
open Go.RowKit
open Ty (num)
open Ig (rest)
def Bk.GotF (w : World) (r : Nat × List Kn.V) (e : Ending) (w' : World) : Prop :=
 ∃ v, e = .returned (.tuple #[v, .int .i64 ((r.1 : Nat) : Int)]) ∧ Kn.Vals w' v r.2 ∧ Dd.Fresh w.heap.size v ∧ Below w.heap.size w w'
theorem Bk.GotF.bad {w w' : World} {r : Nat × List Kn.V} {z : Int} {q : Nat} (hr : r = (q, [])) (hz : z = (q : Int)) (g : Below w.heap.size w w') : Bk.GotF w r (.returned (.tuple #[.slice none 0 0, .int .i64 z])) w' :=
 ⟨_, by rw [hr, hz], by rw [hr]; exact ⟨_, 0, rfl, .inl rfl⟩, Dd.Fresh.nil _, g⟩
theorem Bk.GotF.good {w w' : World} {r : Nat × List Kn.V} {v : Value} {L : List Kn.V} (hr : r = (0, L)) (h : Kn.Vals w' v L) (hf : Dd.Fresh w.heap.size v) (g : Below w.heap.size w w') : Bk.GotF w r (.returned (.tuple #[v, .int .i64 0])) w' :=
 ⟨v, by rw [hr]; rfl, by rw [hr]; exact h, hf, g⟩
end
section
open Go.RowKit
open Ty (num)
open Ig (rest)
theorem Cl.fits_is {c : Kn.C} (h : c.good = true) (v : Kn.V) : Kn.fits c v = Cl.is c v := by
 rw [Kn.isK_fits c v h]
 unfold Cl.is
 cases v.null <;> cases c.null <;> simp
def Cl.sch (c : Kn.C) : List Kn.C := [⟨1, false⟩, c]
theorem Cl.sch_right (c : Kn.C) : Kn.right (Cl.sch c) = c.good := by
 simp [Cl.sch, Kn.right, Kn.headOk, Kn.C.good]
theorem Cl.fits_zero : Kn.fits ⟨1, false⟩ (Cl.ofN 0) = true := by
 unfold Kn.fits Cl.ofN
 simp
theorem Cl.sch_fits {c : Kn.C} (h : c.good = true) (v : Kn.V) : Kn.fitsE (Cl.sch c) [Cl.ofN 0, v] = if Cl.is c v = true then 0 else 6 := by
 have hf : Kn.fitsAll (Cl.sch c) [Cl.ofN 0, v] = Cl.is c v := by
  show (Kn.fits ⟨1, false⟩ (Cl.ofN 0) && (Kn.fits c v && true)) = _
  rw [Cl.fits_zero, Cl.fits_is h]
  simp
 unfold Kn.fitsE
 rw [Cl.sch_right, if_pos h, if_pos (show [Cl.ofN 0, v].length = (Cl.sch c).length from rfl), hf]
def Cl.pv (k : Int) (M : List Kn.V) : List UInt8 :=
 if k = 1 then Ig.enc (Ig.bk (M.map fun v => v.n) 3) (M.map fun v => v.n) else Tx.enc (Tx.bestK (M.map fun v => v.s.data.toList)) (M.map fun v => v.s.data.toList)
theorem Cl.pv_live (c : Kn.C) (l : List Kn.V) : Cl.pv c.k (Cl.live l) = Cl.vals c l := rfl
def Cl.cnt (F : Nat → Bool) : Nat → Nat
 | 0 => 0
 | k + 1 => Cl.cnt F k + (if F k = true then 0 else 1)
theorem Cl.cnt_null {F : Nat → Bool} {k : Nat} (h : F k = true) : Cl.cnt F (k + 1) = Cl.cnt F k := by simp [Cl.cnt, h]
theorem Cl.cnt_live {F : Nat → Bool} {k : Nat} (h : F k = false) : Cl.cnt F (k + 1) = Cl.cnt F k + 1 := by simp [Cl.cnt, h]
theorem Cl.cnt_le (F : Nat → Bool) : ∀ n, Cl.cnt F n ≤ n
 | 0 => Nat.le_refl _
 | k + 1 => by
   have := Cl.cnt_le F k
   simp only [Cl.cnt]
   split <;> omega
theorem Cl.cnt_mono (F : Nat → Bool) {k : Nat} : ∀ {n : Nat}, k ≤ n → Cl.cnt F k ≤ Cl.cnt F n
 | 0, h => by
   obtain rfl : k = 0 := by omega
   exact Nat.le_refl _
 | n + 1, h => by
   by_cases e : k = n + 1
   ·rw [e]; exact Nat.le_refl _
   ·have := Cl.cnt_mono F (k := k) (n := n) (by omega)
    simp only [Cl.cnt]
    omega
def Cl.lives (T : List Bool) : Nat := T.countP fun b => !b
theorem Cl.cnt_lives (F : Nat → Bool) : ∀ n, Cl.lives ((List.range n).map F) = Cl.cnt F n
 | 0 => rfl
 | n + 1 => by
   have ih := Cl.cnt_lives F n
   unfold Cl.lives at ih ⊢
   rw [List.range_succ, List.map_append, List.countP_append, ih]
   simp only [Cl.cnt, List.map_cons, List.map_nil]
   cases F n <;> simp
theorem Cl.fill_lives : ∀ (T : List Bool) (M out : List Kn.V), Cl.fill T M = some out → M.length = Cl.lives T
 | [], [], _, _ => rfl
 | [], _ :: _, _, h => by simp [Cl.fill] at h
 | true :: T, M, out, h => by
   simp only [Cl.fill, Option.map_eq_some_iff] at h
   obtain ⟨o, h, _⟩ := h
   rw [Cl.fill_lives T M o h]
   simp [Cl.lives]
 | false :: T, [], out, h => by simp [Cl.fill] at h
 | false :: T, x :: M, out, h => by
   simp only [Cl.fill, Option.map_eq_some_iff] at h
   obtain ⟨o, h, _⟩ := h
   rw [List.length_cons, Cl.fill_lives T M o h]
   simp [Cl.lives]
theorem Cl.lives_fill : ∀ (T : List Bool) (M : List Kn.V), M.length = Cl.lives T → ∃ out, Cl.fill T M = some out
 | [], [], _ => ⟨[], rfl⟩
 | [], _ :: _, h => by simp [Cl.lives] at h
 | true :: T, M, h => by
   obtain ⟨o, ho⟩ := Cl.lives_fill T M (by rw [h]; simp [Cl.lives])
   exact ⟨Cl.nul :: o, by simp [Cl.fill, ho]⟩
 | false :: T, [], h => by simp [Cl.lives] at h
 | false :: T, x :: M, h => by
   obtain ⟨o, ho⟩ := Cl.lives_fill T M (by simp [Cl.lives] at h; unfold Cl.lives; omega)
   exact ⟨x :: o, by simp [Cl.fill, ho]⟩
theorem Cl.rdV_cnt {c : Kn.C} {T : List Bool} {r : List UInt8} (h : (Cl.back c r).1 = 0) (hn : (Cl.back c r).2.length ≠ Cl.lives T) : Cl.rdV c T r = (4, []) :=
 Cl.rdV_no h (by
  cases hf : Cl.fill T (Cl.back c r).2 with
  | none => rfl
  | some o => exact absurd (Cl.fill_lives _ _ _ hf) hn)
theorem Cl.vals_pv {c : Kn.C} {T : List Bool} {r : List UInt8} {out : List Kn.V} (hg : c.good = true) (h : (Cl.back c r).1 = 0) (hf : Cl.fill T (Cl.back c r).2 = some out) : Cl.vals c out = Cl.pv c.k (Cl.back c r).2 := by
 rw [← Cl.pv_live, (Cl.fill_only _ _ _ (fun v hv => (Cl.back_is hg h v hv).1) hf).2]
theorem Cl.rdV_ne {c : Kn.C} {T : List Bool} {r : List UInt8} (hg : c.good = true) (h : (Cl.back c r).1 = 0) (hn : (Cl.back c r).2.length = Cl.lives T) (hv : Cl.pv c.k (Cl.back c r).2 ≠ r) : Cl.rdV c T r = (4, []) := by
 obtain ⟨out, hf⟩ := Cl.lives_fill T _ hn
 exact Cl.rdV_4 h hf (by rw [Cl.vals_pv hg h hf]; exact hv)
theorem Cl.rdV_eq {c : Kn.C} {T : List Bool} {r : List UInt8} (hg : c.good = true) (h : (Cl.back c r).1 = 0) (hv : Cl.pv c.k (Cl.back c r).2 = r) {out : List Kn.V} (hf : Cl.fill T (Cl.back c r).2 = some out) : Cl.rdV c T r = (0, out) :=
 Cl.rdV_ok h hf (by rw [Cl.vals_pv hg h hf]; exact hv)
def Cl.rnE (l : List UInt8) : Nat :=
 if (num l).2.2 ≠ 0 then (num l).2.2 else if 65536 < (num l).1 then 3 else if (rest l).length < Bt.need (num l).1 then 2 else Bt.chk (Cl.bb l) (num l).1
theorem Cl.rd_rn {c : Kn.C} {l : List UInt8} (hg : c.good = true) (h : Cl.rnE l ≠ 0) : Cl.rd c l = (Cl.rnE l, []) := by
 unfold Cl.rnE at h ⊢
 by_cases h1 : (num l).2.2 ≠ 0
 ·rw [if_pos h1]; exact Cl.rd_n hg h1
 ·rw [if_neg h1] at h ⊢
  by_cases h2 : 65536 < (num l).1
  ·rw [if_pos h2]; exact Cl.rd_3 hg (by simpa using h1) h2
  ·rw [if_neg h2] at h ⊢
   by_cases h3 : (rest l).length < Bt.need (num l).1
   ·rw [if_pos h3]; exact Cl.rd_2 hg (by simpa using h1) h2 h3
   ·rw [if_neg h3] at h ⊢
    exact Cl.rd_c hg (by simpa using h1) h2 h3 h
theorem Cl.rn_0 {l : List UInt8} (h : Cl.rnE l = 0) : (num l).2.2 = 0 ∧ ¬ 65536 < (num l).1 ∧ ¬ (rest l).length < Bt.need (num l).1 ∧ Bt.chk (Cl.bb l) (num l).1 = 0 := by
 unfold Cl.rnE at h
 by_cases h1 : (num l).2.2 ≠ 0
 ·rw [if_pos h1] at h; exact absurd h h1
 ·rw [if_neg h1] at h
  by_cases h2 : 65536 < (num l).1
  ·rw [if_pos h2] at h; cases h
  ·rw [if_neg h2] at h
   by_cases h3 : (rest l).length < Bt.need (num l).1
   ·rw [if_pos h3] at h; cases h
   ·rw [if_neg h3] at h
    exact ⟨by simpa using h1, h2, h3, h⟩
def Cl.has (F : Nat → Bool) (n : Nat) : Bool := ((List.range n).map F).any id
theorem Cl.rd_has {c : Kn.C} {l : List UInt8} (hg : c.good = true) (h : Cl.rnE l = 0) (hb : Cl.has (Bt.bit (Cl.bb l)) (num l).1 = true) (hn : c.null = false) : Cl.rd c l = (6, []) := by
 obtain ⟨h1, h2, h3, h4⟩ := Cl.rn_0 h
 unfold Cl.has at hb
 rw [List.any_eq_true] at hb
 obtain ⟨x, hx, hx2⟩ := hb
 obtain ⟨k, hk, rfl⟩ := List.mem_map.1 hx
 exact Cl.rd_6 hg h1 h2 h3 h4 (List.mem_range.1 hk) hx2 hn
theorem Cl.rd_vals {c : Kn.C} {l : List UInt8} (hg : c.good = true) (h : Cl.rnE l = 0) (hn : c.null = true ∨ Cl.has (Bt.bit (Cl.bb l)) (num l).1 = false) : Cl.rd c l = Cl.rdV c ((List.range (num l).1).map (Bt.bit (Cl.bb l))) (Cl.vb l) := by
 obtain ⟨h1, h2, h3, h4⟩ := Cl.rn_0 h
 refine Cl.rd_v hg h1 h2 h3 h4 fun k hk hb => ?_
 rcases hn with hn | hn
 ·exact hn
 ·exfalso
  unfold Cl.has at hn
  rw [List.any_eq_false] at hn
  exact hn _ (List.mem_map.2 ⟨k, List.mem_range.2 hk, rfl⟩) hb
theorem Cl.has_step {F : Nat → Bool} {n k : Nat} (hk : k < n) (h : F k = true) : Cl.has F n = true := by
 unfold Cl.has
 rw [List.any_eq_true]
 exact ⟨true, List.mem_map.2 ⟨k, List.mem_range.2 hk, h⟩, rfl⟩
theorem Cl.has_none {F : Nat → Bool} {n : Nat} (h : ∀ k, k < n → F k = false) : Cl.has F n = false := by
 unfold Cl.has
 rw [List.any_eq_false]
 intro x hx
 obtain ⟨k, hk, rfl⟩ := List.mem_map.1 hx
 rw [h k (List.mem_range.1 hk)]
 decide
end
section
open Go.RowKit
set_option maxHeartbeats 1000000 in
set_option maxRecDepth 100000 in
theorem Cl.schemaWith_c (c : Kn.C) (w : World) :
 Calls Tryz.prog 124 #[c.val] w fun e w' => ∃ v, e = .returned v ∧ Kn.Cols w' v (Cl.sch c) ∧ Below w.heap.size w w' := by
 have HC := Lib.hid (fun i v h => Kn.cell_new (w.alloc (.cells #[.int .i64 c.k, .bool c.null] 76)) #[.int .i64 1, .bool false, .int .i64 c.k, .bool c.null] 76 i v h)
 have HG := Lib.hid (((Below.refl _ w).alloc (Nat.le_refl _) (.cells #[.int .i64 c.k, .bool c.null] 76)).alloc (by simp) (.cells #[.int .i64 1, .bool false, .int .i64 c.k, .bool c.null] 76))
 rw [World.size_alloc] at HC
 have HX0 := Kn.cell_new w #[.int .i64 c.k, .bool c.null] 76 0 _ rfl
 have HX1 := Kn.cell_new w #[.int .i64 c.k, .bool c.null] 76 1 _ rfl
 simp only [List.getElem_toArray, List.getElem_cons_zero, List.getElem_cons_succ] at HX0 HX1
 unfold Kn.C.val
 go_enter Tryz.func124, Tryz.ntmps124
 go_wp2
 go_ret
 refine ⟨_, rfl, ⟨_, 2, rfl, .inr ⟨_, 0, rfl, by simp, by simp [Cl.sch], fun i x hx => ?_⟩⟩, HG.out⟩
 have hi2 : i = 0 ∨ i = 1 := by
  have := (List.getElem?_eq_some_iff.1 hx).1
  simp [Cl.sch] at this
  omega
 rcases hi2 with rfl | rfl
 ·obtain rfl : (⟨1, false⟩ : Kn.C) = x := by simpa [Cl.sch] using hx
  exact ⟨HC.out _ _ rfl, HC.out _ _ rfl⟩
 ·obtain rfl : c = x := by simpa [Cl.sch] using hx
  exact ⟨HC.out _ _ rfl, HC.out _ _ rfl⟩
set_option maxHeartbeats 1000000 in
set_option maxRecDepth 100000 in
theorem Cl.presentCount_c (v : Value) (n : Nat) (F : Nat → Bool) (w : World) (h : Bt.Sl w v n (Bt.bv F)) (hn : n ≤ 65536) :
 Calls Tryz.prog 172 #[v] w fun e w' => e = .returned (.int .i64 (Cl.cnt F n : Nat)) ∧ w' = w := by
 obtain ⟨a, c, rfl, h⟩ := h
 have HN := Lib.hid hn
 clear hn
 go_enter Tryz.func172, Tryz.ntmps172
 go_wp2
 go_loop [3, 8] (fun m i => ∃ k : Nat, k ≤ n ∧ i = .int .i64 k ∧ m = .int .i64 (Cl.cnt F k : Nat)) (fun _ i => n - (intOf i).toNat)
 case atStart => exact ⟨0, by omega, rfl, rfl⟩
 case round =>
  obtain ⟨k, hk, rfl, rfl⟩ := hrel
  have hle := Cl.cnt_le F k
  by_cases hl : k < n
  ·rcases h with h | ⟨b, o, rfl, hb, h⟩
   ·omega
   ·have hc : w.cell? ⟨b, o + k, none⟩ = some (.bool (F k)) := h k hl
    have hkl : (k : Int) < (n : Int) := by omega
    have hk0 : (0 : Int) ≤ (k : Int) := by omega
    have hn6 := HN.out
    cases hT : F k
    ·have HC := Lib.hid (Cl.cnt_live hT)
     rw [hT] at hc
     clear h hT
     go_wp2
     go_round
     case rel => exact ⟨k + 1, by omega, by simp, by rw [HC.out]; simp⟩
     case measure => simp [intOf]; omega
    ·have HC := Lib.hid (Cl.cnt_null hT)
     rw [hT] at hc
     clear h hT
     go_wp2
     go_round
     case rel => exact ⟨k + 1, by omega, by simp, by rw [HC.out]⟩
     case measure => simp [intOf]; omega
  ·obtain rfl : k = n := by omega
   have hkl : ¬ (k : Int) < (k : Int) := by omega
   go_wp2
   go_ret
   exact ⟨rfl, rfl⟩
set_option maxHeartbeats 1000000 in
set_option maxRecDepth 100000 in
theorem Cl.index_c (v : Value) (n : Nat) (F : Nat → Bool) (w : World) (h : Bt.Sl w v n (Bt.bv F)) (hn : n ≤ 65536) :
 Calls Tryz.prog 190 #[v, .bool true] w fun e w' => ∃ z : Int, e = .returned (.int .i64 z) ∧ ((Cl.has F n = true ∧ 0 ≤ z) ∨ (Cl.has F n = false ∧ z = -1)) ∧ w' = w := by
 obtain ⟨a, c, rfl, h⟩ := h
 have HS : Hid (∀ k, k < n → F k = true → Cl.has F n = true) := Lib.hid fun k hk hf => Cl.has_step hk hf
 have HN : Hid ((∀ k, k < n → F k = false) → Cl.has F n = false) := Lib.hid fun h => Cl.has_none h
 generalize Cl.has F n = B at HS HN ⊢
 go_enter Tryz.func190, Tryz.ntmps190
 go_wp2
 go_loop [8] (fun i => ∃ k : Nat, k ≤ n ∧ i = .int .i64 k ∧ ∀ j, j < k → F j = false) (fun i => n - (intOf i).toNat)
 case atStart => exact ⟨0, by omega, rfl, fun j hj => by omega⟩
 case round =>
  obtain ⟨k, hk, rfl, hp⟩ := hrel
  have HP := Lib.hid hp
  clear hp
  by_cases hl : k < n
  ·rcases h with h | ⟨b, o, rfl, hb, h⟩
   ·omega
   ·have hc : w.cell? ⟨b, o + k, none⟩ = some (.bool (F k)) := h k hl
    have hkl : (k : Int) < (n : Int) := by omega
    have hk0 : (0 : Int) ≤ (k : Int) := by omega
    cases hT : F k
    ·rw [hT] at hc
     have HT := Lib.hid hT
     clear h hT
     go_wp2
     go_round
     case rel => exact ⟨k + 1, by omega, by simp, fun j hj => by
      by_cases e : j = k
      ·rw [e]; exact HT.out
      ·exact HP.out j (by omega)⟩
     case measure => simp [intOf]; omega
    ·have HB := Lib.hid (HS.out k hl hT)
     rw [hT] at hc
     clear h hT
     go_wp2
     go_ret
     exact ⟨_, rfl, .inl ⟨HB.out, by omega⟩, rfl⟩
  ·obtain rfl : k = n := by omega
   have hkl : ¬ (k : Int) < (k : Int) := by omega
   have HB := Lib.hid (HN.out HP.out)
   go_wp2
   go_ret
   exact ⟨_, rfl, .inr ⟨HB.out, rfl⟩, rfl⟩
set_option maxHeartbeats 1000000 in
set_option maxRecDepth 100000 in
theorem Cl.contains_c (v : Value) (n : Nat) (F : Nat → Bool) (w : World) (h : Bt.Sl w v n (Bt.bv F)) (hn : n ≤ 65536) :
 Calls Tryz.prog 170 #[v, .bool true] w fun e w' => e = .returned (.bool (Cl.has F n)) ∧ w' = w := by
 have ci := Cl.index_c v n F w h hn
 generalize Cl.has F n = B at ci ⊢
 clear h hn
 go_enter Tryz.func170, Tryz.ntmps170
 go_wp2_with fail
 refine ci.mono ?_
 rintro e w1 ⟨z, rfl, hz, rfl⟩
 rcases hz with ⟨rfl, hz⟩ | ⟨rfl, rfl⟩
 ·go_wp2
  go_ret
  exact ⟨rfl, rfl⟩
 ·go_wp2
  go_ret
  exact ⟨rfl, rfl⟩
end
end Go.Proofs.YtbelkhkllneifaaGreatDoor
