import Derived.Test.YtbelkhkllneifaaGreatDoorWEAQ
import Derived.Lib.QuietBelow
import Derived.BigQuiet
import Derived.Test.YtbelkhkllneifaaGreatDoorRows
import Derived.OrdersHeld
import Derived.Deep.RegionHeld3
import Derived.OrdersIn
import Derived.RangeFuncCalls
import Derived.TacticsIn
namespace Go.Proofs.YtbelkhkllneifaaGreatDoor
section
open Go.RowKit
set_option maxHeartbeats 1000000 in
set_option maxRecDepth 100000 in
theorem Rn.bare_x (v : Kn.V) (w : World) : Calls Tryz.prog 85 #[v.val] w fun e w' => e = .returned (Zn.bare v).val ∧ w' = (w.alloc (.cells #[.bool v.null, .int .i64 v.n, .string v.s] 33)).alloc (.cells #[.bool false, .int .i64 v.n, .string v.s] 33) := by
 unfold Kn.V.val Zn.bare
 go_enter Tryz.func85, Tryz.ntmps85
 go_wp2
 (try simp only [Exit.inBlock, Exit.then])
 refine bodyPost_ret (v := .agg #[.bool false, .int .i64 v.n, .string v.s]) ?_ rfl ⟨rfl, rfl⟩
 rw [Zn.results_cell rfl]
 go_simp
theorem Rn.out_ways {s : List Kn.C} {L : List Dd.D} {b c : Int} (h : ¬ (0 ≤ b ∧ b < (Rn.nb L.length : Int) ∧ 0 ≤ c ∧ c < (s.length : Int))) :
 b < 0 ∨ (¬ b < 0 ∧ (Rn.nb L.length : Int) ≤ b) ∨ (¬ b < 0 ∧ ¬ (Rn.nb L.length : Int) ≤ b ∧ c < 0) ∨ (¬ b < 0 ∧ ¬ (Rn.nb L.length : Int) ≤ b ∧ ¬ c < 0 ∧ (s.length : Int) ≤ c) := by omega
set_option maxHeartbeats 4000000 in
set_option maxRecDepth 100000 in
theorem Rn.rzone_c (vs v : Value) (s : List Kn.C) (L : List Dd.D) (b c : Int) (w : World) (hs : Kn.Cols w vs s) (hv : Bk.Ds w v L) (hz : Bk.Zs L) (hr : Kn.right s = true) (hf : ∀ d ∈ L, Dd.fitE s d = 0) (hl : 0 < L.length) (h200 : L.length ≤ 1048576) :
 Calls Tryz.prog 28 #[vs, v, .int .i64 b, .int .i64 c] w fun e w' => e = .returned (Rn.zone s L b c).val ∧ Below w.heap.size w w' := by
 have HV := Lib.hid hv
 obtain ⟨va, vc, rfl, hlc, hcm, h⟩ := hv
 obtain ⟨sa, sc, rfl, -⟩ := hs
 rcases h with hn | ⟨b9, o9, rfl, hbl, -⟩
 ·rw [hn] at hl; simp at hl
 have HBK := Zn.Blk.new w Zn.z0
 have HB0 : Hid (Below w.heap.size w (w.alloc (.cells (Zn.cs Zn.z0) 68))) := Lib.hid ((Below.refl _ _).alloc (Nat.le_refl _) _)
 have CB := Lib.hid fun (wz : World) => Rn.rblocks_c b9 o9 L.length vc wz hl hlc h200
 have H6 := Lib.hid (Kn.right_len hr)
 unfold Zn.cs Zn.z0 Zn.zv at HBK HB0
 simp only at HBK HB0
 have HSZ : Hid ((w.alloc (.cells #[.bool false, .bool false, .bool false, .int .i64 0, .string ⟨#[]⟩, .bool false, .int .i64 0, .string ⟨#[]⟩] 68)).heap.size = w.heap.size + 1) := Lib.hid (World.size_alloc ..)
 have HB := Lib.hid HBK
 clear HBK hlc hcm hbl
 by_cases hin : 0 ≤ b ∧ b < (Rn.nb L.length : Int) ∧ 0 ≤ c ∧ c < (s.length : Int)
 ·obtain ⟨i, rfl⟩ := Int.eq_ofNat_of_zero_le hin.1
  obtain ⟨j, rfl⟩ := Int.eq_ofNat_of_zero_le hin.2.2.1
  have hi : i < Rn.nb L.length := by omega
  have hj : j < s.length := by omega
  rw [Rn.zone_in ⟨hi, hj⟩]
  have hcx := List.getElem?_eq_getElem hj
  have CC := Lib.hid fun (u : Value) (wz : World) (h : Bk.Ds wz u (Rn.bk L i)) => Bk.rcolumn_c u (Rn.bk L i) j (Rn.bk_some hi).2 (by have := H6.out.2; omega) (fun d hd => Bk.col_has hf hcx d (Rn.bk_mem hd)) wz h
  have CO := Lib.hid fun (u : Value) (wz : World) (h : Kn.Vals wz u (Bk.col (Rn.bk L i) j)) => Zn.rof_c u _ wz h (Rn.col_z hz)
  have HPT := Lib.hid fun (wz : World) (h : Bk.Ds wz (.slice (some ⟨b9, o9, none⟩) L.length vc) L) => Rn.ds_part h hi
  have hi0 : ¬ ((i : Nat) : Int) < 0 := by omega
  have hj0 : ¬ ((j : Nat) : Int) < 0 := by omega
  have hib : ¬ (Rn.nb L.length : Int) ≤ (i : Int) := by omega
  have hjb : ¬ (s.length : Int) ≤ (j : Int) := by omega
  have hi1 : (i : Int) < (Rn.nb L.length : Int) := by omega
  have hi2 : (0 : Int) ≤ (i : Int) := by omega
  generalize Zn.of (Bk.col (Rn.bk L i) j) = z at CO ⊢
  generalize Bk.col (Rn.bk L i) j = K at CC CO
  have HI := Lib.hid hi
  clear hin hcx hi hj hz hf hr hl h200
  go_enter Tryz.func28, Tryz.ntmps28
  go_wp2_with fail
  obtain ⟨q, hq⟩ : ∃ q, q = w.heap.size := ⟨_, rfl⟩
  rw [← hq] at HB ⊢
  have HQ := Lib.hid hq
  generalize w.alloc _ = w1 at HB HB0 HSZ ⊢
  have HQ1 : Hid (q < w1.heap.size) := Lib.hid (by have := HSZ.out; omega)
  clear hq HSZ
  with_reducible refine (CB.out w1).mono ?_
  rintro e w2 ⟨u2, rfl, hO2, g2⟩
  have HO2 := Lib.hid hO2
  have hf2 := hO2.form
  have hpl := Rn.parts_len b9 o9 L.length vc (Rn.nb L.length)
  have hpa := Rn.parts_at (b := b9) (o := o9) (n := L.length) (c := vc) HI.out
  generalize Rn.parts b9 o9 L.length vc (Rn.nb L.length) = P at hf2 hpl hpa HO2 hO2
  rw [hpl] at hf2
  have HB2 := Lib.hid (HB0.out.trans (g2.mono HB0.out.size))
  have HK2 := Lib.hid (Zn.Blk.kept HB.out g2)
  generalize Rn.nb L.length = nb at hf2 hib hi1 HI hpl ⊢
  obtain ⟨ub, uc, rfl⟩ : ∃ ub uc, u2 = .slice (some ⟨ub, 0, none⟩) nb uc := by
   rcases hf2 with ⟨_, h0⟩ | ⟨g, cc, h1, _⟩
   ·rw [h0] at hpl; simp at hpl; have := HI.out; omega
   ·exact ⟨g, cc, h1⟩
  have c0 := HO2.out.cell Bk.e1_len rfl hpa (j := 0) (by decide)
  rw [Nat.mul_one, Nat.add_zero] at c0
  simp only [Bk.e1, List.getElem?_cons_zero] at c0
  have hDP := HPT.out w2 (HV.out.later HB2.out)
  generalize Rn.part b9 o9 L.length vc i = pt at c0 hDP
  obtain ⟨p1, p2, p3⟩ := pt
  simp only [Bk.sv] at c0 hDP
  have cc := CC.out _ w2 hDP
  clear hO2 g2 hf2 hpl hpa hDP
  go_wp2_with fail
  with_reducible refine cc.mono ?_
  rintro e w3 ⟨u3, rfl, hu3, g3⟩
  have HB3 := Lib.hid (HB2.out.trans (g3.mono HB2.out.size))
  have HK3 := Lib.hid (Zn.Blk.kept HK2.out g3)
  have co := CO.out u3 w3 hu3
  obtain ⟨ua3, uc3, rfl, -⟩ := hu3
  clear cc g3 c0
  go_wp2_with fail
  with_reducible refine co.mono ?_
  rintro e w4 ⟨rfl, g4⟩
  have HB4 := Lib.hid (HB3.out.trans (g4.mono HB3.out.size))
  have HK4 := Lib.hid (Zn.Blk.kept HK3.out g4)
  obtain ⟨r0, r1, r2, r3, r4, r5, r6, r7⟩ := HK4.out.cells
  obtain ⟨f0, f1, f2, f3, f4, f5, f6, f7⟩ := HK4.out.frozens
  clear co g4
  obtain ⟨zn, zw, ⟨ln, li, ls⟩, ⟨hn, hi, hs⟩⟩ := z
  simp only at r0 r1 r2 r3 r4 r5 r6 r7
  go_wp2
  have HP := Lib.hid (Zn.put_below (q := q) HB4.out (by rw [HQ.out]; exact Nat.le_refl _) ⟨zn, zw, ⟨ln, li, ls⟩, ⟨hn, hi, hs⟩⟩)
  (try simp only [Exit.inBlock, Exit.then])
  refine bodyPost_ret (v := .agg #[.bool zn, .bool zw, .bool ln, .int .i64 li, .string ls, .bool hn, .int .i64 hi, .string hs]) ?_ rfl ⟨rfl, HP.out⟩
  rw [Zn.results_cell rfl]
  go_simp
 ·rw [Rn.zone_out hin]
  have hw := Rn.out_ways hin
  have hnl := Rn.parts_len b9 o9 L.length vc (Rn.nb L.length)
  clear hin hz hf hr h200
  have HNL := Lib.hid hnl
  have HLP : Hid (0 < Rn.nb L.length) := Lib.hid (by unfold Rn.nb; omega)
  clear hnl hl
  generalize Rn.parts b9 o9 L.length vc (Rn.nb L.length) = P at CB HNL
  generalize Rn.nb L.length = nb at hw HNL HLP
  unfold Zn.z0 Zn.zv
  rcases hw with h1 | ⟨h1, h2⟩ | ⟨h1, h2, h3⟩ | ⟨h1, h2, h3, h4⟩
  all_goals
   go_enter Tryz.func28, Tryz.ntmps28
   go_wp2_with fail
   obtain ⟨q, hq⟩ : ∃ q, q = w.heap.size := ⟨_, rfl⟩
   rw [← hq] at HB ⊢
   have HQ := Lib.hid hq
   generalize w.alloc _ = w1 at HB HB0 HSZ ⊢
   clear hq HSZ
   with_reducible refine (CB.out w1).mono ?_
   rintro e w2 ⟨u2, rfl, hO2, g2⟩
   have hf2 := hO2.form
   rw [HNL.out] at hf2
   have HB2 := Lib.hid (HB0.out.trans (g2.mono HB0.out.size))
   have HK2 := Lib.hid (Zn.Blk.kept HB.out g2)
   obtain ⟨ub, uc, rfl⟩ : ∃ ub uc, u2 = .slice (some ⟨ub, 0, none⟩) nb uc := by
    rcases hf2 with ⟨_, h0⟩ | ⟨g, cc, h1, _⟩
    ·have := HNL.out; rw [h0] at this; simp at this; have := HLP.out; omega
    ·exact ⟨g, cc, h1⟩
   obtain ⟨r0, r1, r2, r3, r4, r5, r6, r7⟩ := HK2.out.cells
   obtain ⟨f0, f1, f2, f3, f4, f5, f6, f7⟩ := HK2.out.frozens
   simp only at r0 r1 r2 r3 r4 r5 r6 r7
   clear hO2 g2 hf2
   go_wp2
   have HP := Lib.hid (Zn.put_below (q := q) HB2.out (by rw [HQ.out]; exact Nat.le_refl _) Zn.z0)
   (try simp only [Exit.inBlock, Exit.then])
   refine bodyPost_ret (v := .agg #[.bool false, .bool false, .bool false, .int .i64 0, .string ⟨#[]⟩, .bool false, .int .i64 0, .string ⟨#[]⟩]) ?_ rfl ⟨rfl, HP.out⟩
   rw [Zn.results_cell rfl]
   go_simp
end
section
open Go Go.RowKit
set_option maxHeartbeats 4000000 in
set_option maxRecDepth 100000 in
theorem Rn.zone_c {w : World} {p : Nat} {s : List Kn.C} {L : List Dd.D} (h : Rn.P w p s L) (b c : Int) :
 Calls Tryz.prog 27 #[.pointer (some ⟨p, 0, none⟩), .int .i64 b, .int .i64 c] w fun e w' => e = .returned (Rn.zone s L b c).val ∧ Below w.heap.size w w' := by
 have HP := Lib.hid h
 have HBK := Zn.Blk.new w Zn.z0
 have HB0 : Hid (Below w.heap.size w (w.alloc (.cells (Zn.cs Zn.z0) 68))) := Lib.hid ((Below.refl _ _).alloc (Nat.le_refl _) _)
 have CB := Lib.hid fun (wz : World) (g : Below w.heap.size w wz) => Rn.blocks_c (h.later g)
 unfold Zn.cs Zn.z0 Zn.zv at HBK HB0
 simp only at HBK HB0
 have HB := Lib.hid HBK
 clear HBK h
 obtain ⟨_, d, z, _, c1, _, zb, zc, rfl, hzb, hzz⟩ := HP.out
 have HZZ := Lib.hid hzz
 have C1 : Hid (∀ wz, Below w.heap.size w wz → wz.cell? ⟨p, 1, none⟩ = some (.slice (some ⟨zb, 0, none⟩) (Rn.nb L.length) zc)) := Lib.hid fun wz g => (g.cell (p := ⟨p, 1, none⟩) HP.out.lt).trans c1
 have C2 : Hid (∀ wz (k : Nat) u, Below w.heap.size w wz → w.cell? ⟨zb, k, none⟩ = some u → wz.cell? ⟨zb, k, none⟩ = some u) := Lib.hid fun wz k u g h => (g.cell (p := ⟨zb, k, none⟩) hzb).trans h
 clear hzz c1 hzb
 by_cases hin : 0 ≤ b ∧ b < (Rn.nb L.length : Int) ∧ 0 ≤ c ∧ c < (s.length : Int)
 ·obtain ⟨i, rfl⟩ := Int.eq_ofNat_of_zero_le hin.1
  obtain ⟨j, rfl⟩ := Int.eq_ofNat_of_zero_le hin.2.2.1
  have hi : i < Rn.nb L.length := by omega
  have hj : j < s.length := by omega
  obtain ⟨g, hg, hzr⟩ := HZZ.out i hi
  have C3 : Hid (∀ wz, Below w.heap.size w wz → Rn.ZR wz g s.length (fun j => Rn.zone s L i j)) := Lib.hid fun wz gb => hzr.kept (gb.block g hzr.lt)
  have HC := Lib.hid fun wz gb => (C3.out wz gb).cells hj
  have hi0 : ¬ ((i : Nat) : Int) < 0 := by omega
  have hj0 : ¬ ((j : Nat) : Int) < 0 := by omega
  have hib : ¬ (Rn.nb L.length : Int) ≤ (i : Int) := by omega
  have hjb : ¬ (s.length : Int) ≤ (j : Int) := by omega
  have hi1 : (i : Int) < (Rn.nb L.length : Int) := by omega
  have hi2 : (0 : Int) ≤ (i : Int) := by omega
  have hj1 : (j : Int) < (s.length : Int) := by omega
  have hj2 : (0 : Int) ≤ (j : Int) := by omega
  have HG := Lib.hid hg
  generalize Rn.zone s L (i : Int) (j : Int) = z at HC ⊢
  clear hin hi hj hzr hg C3
  go_enter Tryz.func27, Tryz.ntmps27
  go_upto_region 2 with (fail)
  obtain ⟨q, hq⟩ : ∃ q, q = w.heap.size := ⟨_, rfl⟩
  rw [← hq] at HB ⊢
  have HQ := Lib.hid hq
  generalize w.alloc _ = w1 at HB HB0 ⊢
  have d1 := C1.out w1 HB0.out
  have d2 := C2.out w1 i _ HB0.out HG.out
  have cb := CB.out w1 HB0.out
  clear hq
  obtain ⟨x0, x1, x2, x3, x4, x5, x6, x7⟩ := HC.out _ HB0.out
  obtain ⟨r0, r1, r2, r3, r4, r5, r6, r7⟩ := HB.out.cells
  obtain ⟨f0, f1, f2, f3, f4, f5, f6, f7⟩ := HB.out.frozens
  simp only at r0 r1 r2 r3 r4 r5 r6 r7
  obtain ⟨zn, zw, ⟨ln, li, ls⟩, ⟨hn, hi, hs⟩⟩ := z
  simp only at x0 x1 x2 x3 x4 x5 x6 x7
  go_wp2_with (go_at_call 26; (with_reducible refine cb.mono ?_); rintro e w2 ⟨rfl, hw2⟩; subst hw2)
  have HE := Lib.hid (Zn.put_below (q := q) HB0.out (by rw [HQ.out]; exact Nat.le_refl _) ⟨zn, zw, ⟨ln, li, ls⟩, ⟨hn, hi, hs⟩⟩)
  (try simp only [Exit.inBlock, Exit.then])
  refine bodyPost_ret (v := .agg #[.bool zn, .bool zw, .bool ln, .int .i64 li, .string ls, .bool hn, .int .i64 hi, .string hs]) ?_ rfl ⟨rfl, HE.out⟩
  rw [Zn.results_cell rfl]
  go_simp
 ·rw [Rn.zone_out hin]
  have hw := Rn.out_ways hin
  have HZ4 := Lib.hid fun (i : Nat) (h : i < Rn.nb L.length) => HZZ.out i h
  clear hin
  unfold Zn.z0 Zn.zv
  rcases hw with h1 | ⟨h1, h2⟩ | ⟨h1, h2, h3⟩ | ⟨h1, h2, h3, h4⟩
  ·go_enter Tryz.func27, Tryz.ntmps27
   obtain ⟨q, hq⟩ : ∃ q, q = w.heap.size := ⟨_, rfl⟩
   go_upto_region 2 with (fail)
   rw [← hq] at HB ⊢
   have HQ := Lib.hid hq
   generalize w.alloc _ = w1 at HB HB0 ⊢
   obtain ⟨r0, r1, r2, r3, r4, r5, r6, r7⟩ := HB.out.cells
   obtain ⟨f0, f1, f2, f3, f4, f5, f6, f7⟩ := HB.out.frozens
   simp only at r0 r1 r2 r3 r4 r5 r6 r7
   clear hq
   go_wp2
   have HE := Lib.hid (Zn.put_below (q := q) HB0.out (by rw [HQ.out]; exact Nat.le_refl _) Zn.z0)
   (try simp only [Exit.inBlock, Exit.then])
   refine bodyPost_ret (v := .agg #[.bool false, .bool false, .bool false, .int .i64 0, .string ⟨#[]⟩, .bool false, .int .i64 0, .string ⟨#[]⟩]) ?_ rfl ⟨rfl, HE.out⟩
   rw [Zn.results_cell rfl]
   go_simp
  ·go_enter Tryz.func27, Tryz.ntmps27
   obtain ⟨q, hq⟩ : ∃ q, q = w.heap.size := ⟨_, rfl⟩
   go_upto_region 2 with (fail)
   rw [← hq] at HB ⊢
   have HQ := Lib.hid hq
   generalize w.alloc _ = w1 at HB HB0 ⊢
   obtain ⟨r0, r1, r2, r3, r4, r5, r6, r7⟩ := HB.out.cells
   obtain ⟨f0, f1, f2, f3, f4, f5, f6, f7⟩ := HB.out.frozens
   simp only at r0 r1 r2 r3 r4 r5 r6 r7
   have cb := CB.out w1 HB0.out
   clear hq
   go_wp2_with (go_at_call 26; (with_reducible refine cb.mono ?_); rintro e w2 ⟨rfl, hw2⟩; subst hw2)
   have HE := Lib.hid (Zn.put_below (q := q) HB0.out (by rw [HQ.out]; exact Nat.le_refl _) Zn.z0)
   (try simp only [Exit.inBlock, Exit.then])
   refine bodyPost_ret (v := .agg #[.bool false, .bool false, .bool false, .int .i64 0, .string ⟨#[]⟩, .bool false, .int .i64 0, .string ⟨#[]⟩]) ?_ rfl ⟨rfl, HE.out⟩
   rw [Zn.results_cell rfl]
   go_simp
  ·go_enter Tryz.func27, Tryz.ntmps27
   obtain ⟨q, hq⟩ : ∃ q, q = w.heap.size := ⟨_, rfl⟩
   go_upto_region 2 with (fail)
   rw [← hq] at HB ⊢
   have HQ := Lib.hid hq
   generalize w.alloc _ = w1 at HB HB0 ⊢
   obtain ⟨r0, r1, r2, r3, r4, r5, r6, r7⟩ := HB.out.cells
   obtain ⟨f0, f1, f2, f3, f4, f5, f6, f7⟩ := HB.out.frozens
   simp only at r0 r1 r2 r3 r4 r5 r6 r7
   have cb := CB.out w1 HB0.out
   clear hq
   go_wp2_with (go_at_call 26; (with_reducible refine cb.mono ?_); rintro e w2 ⟨rfl, hw2⟩; subst hw2)
   have HE := Lib.hid (Zn.put_below (q := q) HB0.out (by rw [HQ.out]; exact Nat.le_refl _) Zn.z0)
   (try simp only [Exit.inBlock, Exit.then])
   refine bodyPost_ret (v := .agg #[.bool false, .bool false, .bool false, .int .i64 0, .string ⟨#[]⟩, .bool false, .int .i64 0, .string ⟨#[]⟩]) ?_ rfl ⟨rfl, HE.out⟩
   rw [Zn.results_cell rfl]
   go_simp
  ·obtain ⟨i, rfl⟩ := Int.eq_ofNat_of_zero_le (show 0 ≤ b by omega)
   obtain ⟨g, hg, -⟩ := HZ4.out i (by omega)
   have hi1 : (i : Int) < (Rn.nb L.length : Int) := by omega
   have hi2 : (0 : Int) ≤ (i : Int) := by omega
   have HG := Lib.hid hg
   clear hg
   go_enter Tryz.func27, Tryz.ntmps27
   obtain ⟨q, hq⟩ : ∃ q, q = w.heap.size := ⟨_, rfl⟩
   go_upto_region 2 with (fail)
   rw [← hq] at HB ⊢
   have HQ := Lib.hid hq
   generalize w.alloc _ = w1 at HB HB0 ⊢
   obtain ⟨r0, r1, r2, r3, r4, r5, r6, r7⟩ := HB.out.cells
   obtain ⟨f0, f1, f2, f3, f4, f5, f6, f7⟩ := HB.out.frozens
   simp only at r0 r1 r2 r3 r4 r5 r6 r7
   have d1 := C1.out w1 HB0.out
   have d2 := C2.out w1 i _ HB0.out HG.out
   have cb := CB.out w1 HB0.out
   clear hq
   go_wp2_with (go_at_call 26; (with_reducible refine cb.mono ?_); rintro e w2 ⟨rfl, hw2⟩; subst hw2)
   have HE := Lib.hid (Zn.put_below (q := q) HB0.out (by rw [HQ.out]; exact Nat.le_refl _) Zn.z0)
   (try simp only [Exit.inBlock, Exit.then])
   refine bodyPost_ret (v := .agg #[.bool false, .bool false, .bool false, .int .i64 0, .string ⟨#[]⟩, .bool false, .int .i64 0, .string ⟨#[]⟩]) ?_ rfl ⟨rfl, HE.out⟩
   rw [Zn.results_cell rfl]
   go_simp
end
section
open Go.RowKit
theorem Rn.may1 (col : Int) (v l h : Kn.V) (zn : Bool) (hv : v.null = false) : Zn.may ⟨1, col, v⟩ ⟨zn, true, l, h⟩ = (!decide (Kn.cmp v (Zn.bare l) < 0) && !decide (Kn.cmp (Zn.bare h) v < 0)) := by
 rw [Zn.may1 _ _ _ _ _ hv]
 have e := Zn.anti v (Zn.bare l)
 congr 1
 ·rw [← decide_not]; congr 1; apply propext; omega
 ·rw [← decide_not]; congr 1; apply propext; omega
theorem Rn.may3 (col : Int) (v l h : Kn.V) (zn : Bool) (hv : v.null = false) : Zn.may ⟨3, col, v⟩ ⟨zn, true, l, h⟩ = !decide (Kn.cmp (Zn.bare h) v < 0) := by
 rw [Zn.may3 _ _ _ _ _ hv, ← decide_not]
 congr 1
 apply propext
 omega
set_option maxHeartbeats 8000000 in
set_option maxRecDepth 100000 in
theorem Rn.rmay_plain (a : Zn.As) (z : Zn.Zo) (hp : z.values = false ∨ a.v.null = true) (w : World) : Calls Tryz.prog 56 #[a.val, z.val] w fun e w' => e = .returned (.bool (Zn.may a z)) ∧ Below w.heap.size w w' := by
 obtain ⟨⟨a0, a1, a2, a3, a4⟩, hZ, hb⟩ := Zn.boxedZ w a z 54
 obtain ⟨x0, x1, x2, x3, x4, x5, x6, x7⟩ := hZ.cells
 have C1 := Rn.bare_x z.lo
 have C2 := Rn.bare_x z.hi
 have hl1 : w.heap.size < ((w.alloc (.cells #[.int .i64 a.op, .int .i64 a.col, .bool a.v.null, .int .i64 a.v.n, .string a.v.s] 54)).alloc (.cells (Zn.cs z) 68)).heap.size := by simp; omega
 have hl2 : w.heap.size + 1 < ((w.alloc (.cells #[.int .i64 a.op, .int .i64 a.col, .bool a.v.null, .int .i64 a.v.n, .string a.v.s] 54)).alloc (.cells (Zn.cs z) 68)).heap.size := by simp
 clear hZ
 obtain ⟨op, col, ⟨an, ai, sa⟩⟩ := a
 obtain ⟨zn, zw, ⟨ln, li, ls⟩, ⟨hn, hi, hs⟩⟩ := z
 unfold Kn.V.val at C1 C2
 simp only [Zn.bare, Zn.cs] at a0 a1 a2 a3 a4 x0 x1 x2 x3 x4 x5 x6 x7 hb C1 C2 hl1 hl2 hp
 have HB := Lib.hid hb
 generalize hM : Zn.may ⟨op, col, ⟨an, ai, sa⟩⟩ ⟨zn, zw, ⟨ln, li, ls⟩, ⟨hn, hi, hs⟩⟩ = M
 have HM := Lib.hid hM
 have hw : zw = false ∨ (zw = true ∧ an = true) := by
  rcases hp with h | h
  ·exact .inl h
  ·cases zw
   ·exact .inl rfl
   ·exact .inr ⟨rfl, h⟩
 clear hb hM hp
 rcases hw with rfl | ⟨rfl, rfl⟩
 ·go_enter Tryz.func56, Tryz.ntmps56
  go_upto_region 2 with (fail)
  generalize (World.alloc _ _).alloc _ = wo at HB a0 a1 a2 a3 a4 x0 x1 x2 x3 x4 x5 x6 x7 hl1 hl2 ⊢
  have HS : Hid (∀ W, Below wo.heap.size wo W → W.cell? ⟨w.heap.size + 1, 2, none⟩ = some (.bool ln) ∧ W.cell? ⟨w.heap.size + 1, 3, none⟩ = some (.int .i64 li) ∧ W.cell? ⟨w.heap.size + 1, 4, none⟩ = some (.string ls) ∧ W.cell? ⟨w.heap.size + 1, 5, none⟩ = some (.bool hn) ∧ W.cell? ⟨w.heap.size + 1, 6, none⟩ = some (.int .i64 hi) ∧ W.cell? ⟨w.heap.size + 1, 7, none⟩ = some (.string hs)) := Lib.hid fun W g =>
   ⟨(g.cell (p := ⟨w.heap.size + 1, 2, none⟩) hl2).trans x2, (g.cell (p := ⟨w.heap.size + 1, 3, none⟩) hl2).trans x3, (g.cell (p := ⟨w.heap.size + 1, 4, none⟩) hl2).trans x4, (g.cell (p := ⟨w.heap.size + 1, 5, none⟩) hl2).trans x5, (g.cell (p := ⟨w.heap.size + 1, 6, none⟩) hl2).trans x6, (g.cell (p := ⟨w.heap.size + 1, 7, none⟩) hl2).trans x7⟩
  have HA : Hid (∀ W, Below wo.heap.size wo W → W.cell? ⟨w.heap.size, 0, none⟩ = some (.int .i64 op) ∧ W.cell? ⟨w.heap.size, 2, none⟩ = some (.bool an) ∧ W.cell? ⟨w.heap.size, 3, none⟩ = some (.int .i64 ai) ∧ W.cell? ⟨w.heap.size, 4, none⟩ = some (.string sa) ∧ W.cell? ⟨w.heap.size + 1, 0, none⟩ = some (.bool zn) ∧ W.cell? ⟨w.heap.size + 1, 1, none⟩ = some (.bool false)) := Lib.hid fun W g =>
   ⟨(g.cell (p := ⟨w.heap.size, 0, none⟩) hl1).trans a0, (g.cell (p := ⟨w.heap.size, 2, none⟩) hl1).trans a2, (g.cell (p := ⟨w.heap.size, 3, none⟩) hl1).trans a3, (g.cell (p := ⟨w.heap.size, 4, none⟩) hl1).trans a4, (g.cell (p := ⟨w.heap.size + 1, 0, none⟩) hl2).trans x0, (g.cell (p := ⟨w.heap.size + 1, 1, none⟩) hl2).trans x1⟩
  have HO := Lib.hid (Below.refl wo.heap.size wo)
  have HD : Hid (Below wo.heap.size wo wo.drew) := Lib.hid (Kn.drewN_below wo 1)
  clear a0 a1 a2 a3 a4 x0 x1 x2 x3 x4 x5 x6 x7 hl1 hl2
  go_cut [6, 7] (fun s6 s7 wx => ∃ p q : Nat, s6 = .pointer (some ⟨p, 0, none⟩) ∧ s7 = .pointer (some ⟨q, 0, none⟩) ∧ Below wo.heap.size wo wx ∧ Kn.At wx p 0 ⟨false, li, ls⟩ ∧ Kn.At wx q 0 ⟨false, hi, hs⟩)
  case first =>
   go_region_held3 (fun W => W.cell? ⟨w.heap.size + 1, 2, none⟩ = some (.bool ln) ∧ W.cell? ⟨w.heap.size + 1, 3, none⟩ = some (.int .i64 li) ∧ W.cell? ⟨w.heap.size + 1, 4, none⟩ = some (.string ls) ∧ W.cell? ⟨w.heap.size + 1, 5, none⟩ = some (.bool hn) ∧ W.cell? ⟨w.heap.size + 1, 6, none⟩ = some (.int .i64 hi) ∧ W.cell? ⟨w.heap.size + 1, 7, none⟩ = some (.string hs))
    ((refine HS.out _ ?_; repeat' (first | exact HD.out | exact HO.out | refine Below.drew ?_ | refine Zn.below_alloc ?_ _ | (refine Zn.below_set ?_ ?_ _ _))))
    (first
     | (go_at_call 85; (with_reducible refine (C1 _).mono ?_); rintro e w1 ⟨rfl, rfl⟩)
     | (go_at_call 85; (with_reducible refine (C2 _).mono ?_); rintro e w2 ⟨rfl, rfl⟩))
   all_goals (go_wp2_with fail; go_meet; exact ⟨_, _, rfl, rfl, by repeat' (first | exact HD.out | exact HO.out | refine Below.drew ?_ | refine Zn.below_alloc ?_ _), ⟨by go_simp, by go_simp, by go_simp⟩, ⟨by go_simp, by go_simp, by go_simp⟩⟩)
  case rest =>
   obtain ⟨p, q, rfl, rfl, hE, -, -⟩ := hcut
   obtain ⟨c0, c2, c3, c4, y0, y1⟩ := HA.out _ hE
   have HE := Lib.hid (HB.out.trans (hE.mono HB.out.size))
   clear hE C1 C2 HS HO HD
   rcases Zn.ops op with rfl | rfl | rfl | rfl | rfl | rfl | ⟨n0, n1, n2, n3, n4, n5, m0, m1, m2, m3, m4, m5⟩
   ·obtain rfl : (zn || false) = M := by rw [← HM.out]; simp [Zn.may]
    clear HM
    cases zn
    all_goals
     go_wp2
     go_ret
     exact ⟨rfl, HE.out⟩
   ·obtain rfl : zn = M := by rw [← HM.out]; simp [Zn.may]
    clear HM
    go_wp2
    go_ret
    exact ⟨rfl, HE.out⟩
   ·obtain rfl : false = M := by rw [← HM.out]; simp [Zn.may]
    clear HM
    go_wp2
    go_ret
    exact ⟨rfl, HE.out⟩
   ·obtain rfl : false = M := by rw [← HM.out]; simp [Zn.may]
    clear HM
    go_wp2
    go_ret
    exact ⟨rfl, HE.out⟩
   ·obtain rfl : false = M := by rw [← HM.out]; simp [Zn.may]
    clear HM
    go_wp2
    go_ret
    exact ⟨rfl, HE.out⟩
   ·obtain rfl : false = M := by rw [← HM.out]; simp [Zn.may]
    clear HM
    go_wp2
    go_ret
    exact ⟨rfl, HE.out⟩
   ·obtain rfl : false = M := by rw [← HM.out]; simp [Zn.may, m0, m4, m5]
    clear HM m0 m1 m2 m3 m4 m5
    go_wp2
    go_ret
    exact ⟨rfl, HE.out⟩
 ·go_enter Tryz.func56, Tryz.ntmps56
  go_upto_region 2 with (fail)
  generalize (World.alloc _ _).alloc _ = wo at HB a0 a1 a2 a3 a4 x0 x1 x2 x3 x4 x5 x6 x7 hl1 hl2 ⊢
  have HS : Hid (∀ W, Below wo.heap.size wo W → W.cell? ⟨w.heap.size + 1, 2, none⟩ = some (.bool ln) ∧ W.cell? ⟨w.heap.size + 1, 3, none⟩ = some (.int .i64 li) ∧ W.cell? ⟨w.heap.size + 1, 4, none⟩ = some (.string ls) ∧ W.cell? ⟨w.heap.size + 1, 5, none⟩ = some (.bool hn) ∧ W.cell? ⟨w.heap.size + 1, 6, none⟩ = some (.int .i64 hi) ∧ W.cell? ⟨w.heap.size + 1, 7, none⟩ = some (.string hs)) := Lib.hid fun W g =>
   ⟨(g.cell (p := ⟨w.heap.size + 1, 2, none⟩) hl2).trans x2, (g.cell (p := ⟨w.heap.size + 1, 3, none⟩) hl2).trans x3, (g.cell (p := ⟨w.heap.size + 1, 4, none⟩) hl2).trans x4, (g.cell (p := ⟨w.heap.size + 1, 5, none⟩) hl2).trans x5, (g.cell (p := ⟨w.heap.size + 1, 6, none⟩) hl2).trans x6, (g.cell (p := ⟨w.heap.size + 1, 7, none⟩) hl2).trans x7⟩
  have HA : Hid (∀ W, Below wo.heap.size wo W → W.cell? ⟨w.heap.size, 0, none⟩ = some (.int .i64 op) ∧ W.cell? ⟨w.heap.size, 2, none⟩ = some (.bool true) ∧ W.cell? ⟨w.heap.size, 3, none⟩ = some (.int .i64 ai) ∧ W.cell? ⟨w.heap.size, 4, none⟩ = some (.string sa) ∧ W.cell? ⟨w.heap.size + 1, 0, none⟩ = some (.bool zn) ∧ W.cell? ⟨w.heap.size + 1, 1, none⟩ = some (.bool true)) := Lib.hid fun W g =>
   ⟨(g.cell (p := ⟨w.heap.size, 0, none⟩) hl1).trans a0, (g.cell (p := ⟨w.heap.size, 2, none⟩) hl1).trans a2, (g.cell (p := ⟨w.heap.size, 3, none⟩) hl1).trans a3, (g.cell (p := ⟨w.heap.size, 4, none⟩) hl1).trans a4, (g.cell (p := ⟨w.heap.size + 1, 0, none⟩) hl2).trans x0, (g.cell (p := ⟨w.heap.size + 1, 1, none⟩) hl2).trans x1⟩
  have HO := Lib.hid (Below.refl wo.heap.size wo)
  have HD : Hid (Below wo.heap.size wo wo.drew) := Lib.hid (Kn.drewN_below wo 1)
  clear a0 a1 a2 a3 a4 x0 x1 x2 x3 x4 x5 x6 x7 hl1 hl2
  go_cut [6, 7] (fun s6 s7 wx => ∃ p q : Nat, s6 = .pointer (some ⟨p, 0, none⟩) ∧ s7 = .pointer (some ⟨q, 0, none⟩) ∧ Below wo.heap.size wo wx ∧ Kn.At wx p 0 ⟨false, li, ls⟩ ∧ Kn.At wx q 0 ⟨false, hi, hs⟩)
  case first =>
   go_region_held3 (fun W => W.cell? ⟨w.heap.size + 1, 2, none⟩ = some (.bool ln) ∧ W.cell? ⟨w.heap.size + 1, 3, none⟩ = some (.int .i64 li) ∧ W.cell? ⟨w.heap.size + 1, 4, none⟩ = some (.string ls) ∧ W.cell? ⟨w.heap.size + 1, 5, none⟩ = some (.bool hn) ∧ W.cell? ⟨w.heap.size + 1, 6, none⟩ = some (.int .i64 hi) ∧ W.cell? ⟨w.heap.size + 1, 7, none⟩ = some (.string hs))
    ((refine HS.out _ ?_; repeat' (first | exact HD.out | exact HO.out | refine Below.drew ?_ | refine Zn.below_alloc ?_ _ | (refine Zn.below_set ?_ ?_ _ _))))
    (first
     | (go_at_call 85; (with_reducible refine (C1 _).mono ?_); rintro e w1 ⟨rfl, rfl⟩)
     | (go_at_call 85; (with_reducible refine (C2 _).mono ?_); rintro e w2 ⟨rfl, rfl⟩))
   all_goals (go_wp2_with fail; go_meet; exact ⟨_, _, rfl, rfl, by repeat' (first | exact HD.out | exact HO.out | refine Below.drew ?_ | refine Zn.below_alloc ?_ _), ⟨by go_simp, by go_simp, by go_simp⟩, ⟨by go_simp, by go_simp, by go_simp⟩⟩)
  case rest =>
   obtain ⟨p, q, rfl, rfl, hE, -, -⟩ := hcut
   obtain ⟨c0, c2, c3, c4, y0, y1⟩ := HA.out _ hE
   have HE := Lib.hid (HB.out.trans (hE.mono HB.out.size))
   clear hE C1 C2 HS HO HD
   rcases Zn.ops op with rfl | rfl | rfl | rfl | rfl | rfl | ⟨n0, n1, n2, n3, n4, n5, m0, m1, m2, m3, m4, m5⟩
   ·obtain rfl : (zn || true) = M := by rw [← HM.out]; simp [Zn.may]
    clear HM
    cases zn
    all_goals
     go_wp2
     go_ret
     exact ⟨rfl, HE.out⟩
   ·obtain rfl : zn = M := by rw [← HM.out]; simp [Zn.may]
    clear HM
    go_wp2
    go_ret
    exact ⟨rfl, HE.out⟩
   ·obtain rfl : true = M := by rw [← HM.out]; simp [Zn.may]
    clear HM
    go_wp2
    go_ret
    exact ⟨rfl, HE.out⟩
   ·obtain rfl : false = M := by rw [← HM.out]; simp [Zn.may]
    clear HM
    go_wp2
    go_ret
    exact ⟨rfl, HE.out⟩
   ·obtain rfl : false = M := by rw [← HM.out]; simp [Zn.may]
    clear HM
    go_wp2
    go_ret
    exact ⟨rfl, HE.out⟩
   ·obtain rfl : false = M := by rw [← HM.out]; simp [Zn.may]
    clear HM
    go_wp2
    go_ret
    exact ⟨rfl, HE.out⟩
   ·obtain rfl : false = M := by rw [← HM.out]; simp [Zn.may, m0, m4, m5]
    clear HM m0 m1 m2 m3 m4 m5
    go_wp2
    go_ret
    exact ⟨rfl, HE.out⟩
set_option maxHeartbeats 8000000 in
set_option maxRecDepth 100000 in
theorem Rn.rmay_c (a : Zn.As) (z : Zn.Zo) (ha : Kn.Z a.v) (hl : Kn.Z z.lo) (hh : Kn.Z z.hi) (w : World) : Calls Tryz.prog 56 #[a.val, z.val] w fun e w' => e = .returned (.bool (Zn.may a z)) ∧ Below w.heap.size w w' := by
 by_cases hp : z.values = false ∨ a.v.null = true
 ·exact Rn.rmay_plain a z hp w
 obtain ⟨⟨a0, a1, a2, a3, a4⟩, hZ, hb⟩ := Zn.boxedZ w a z 54
 obtain ⟨x0, x1, x2, x3, x4, x5, x6, x7⟩ := hZ.cells
 have C1 := Rn.bare_x z.lo
 have C2 := Rn.bare_x z.hi
 have hl1 : w.heap.size < ((w.alloc (.cells #[.int .i64 a.op, .int .i64 a.col, .bool a.v.null, .int .i64 a.v.n, .string a.v.s] 54)).alloc (.cells (Zn.cs z) 68)).heap.size := by simp; omega
 have hl2 : w.heap.size + 1 < ((w.alloc (.cells #[.int .i64 a.op, .int .i64 a.col, .bool a.v.null, .int .i64 a.v.n, .string a.v.s] 54)).alloc (.cells (Zn.cs z) 68)).heap.size := by simp
 clear hZ
 obtain ⟨op, col, ⟨an, ai, sa⟩⟩ := a
 obtain ⟨zn, zw, ⟨ln, li, ls⟩, ⟨hn, hi, hs⟩⟩ := z
 unfold Kn.V.val at C1 C2
 simp only [Zn.bare, Zn.cs] at a0 a1 a2 a3 a4 x0 x1 x2 x3 x4 x5 x6 x7 hb C1 C2 hl1 hl2 hp
 obtain rfl : zw = true := by
  cases zw
  ·exact absurd (.inl rfl) hp
  ·rfl
 obtain rfl : an = false := by
  cases an
  ·rfl
  ·exact absurd (.inr rfl) hp
 have CA := Kn.rAhead_c ⟨false, ai, sa⟩ ⟨false, li, ls⟩ ha hl
 have CB := Kn.rAhead_c ⟨false, hi, hs⟩ ⟨false, ai, sa⟩ hh ha
 have CC := Kn.rAhead_c ⟨false, li, ls⟩ ⟨false, ai, sa⟩ hl ha
 unfold Kn.V.val at CA CB CC
 simp only at CA CB CC
 have HB := Lib.hid hb
 have HCA : Hid (∀ w, _) := Lib.hid CA
 have HCB : Hid (∀ w, _) := Lib.hid CB
 have HCC : Hid (∀ w, _) := Lib.hid CC
 generalize hM : Zn.may ⟨op, col, ⟨false, ai, sa⟩⟩ ⟨zn, true, ⟨ln, li, ls⟩, ⟨hn, hi, hs⟩⟩ = M
 have HM := Lib.hid hM
 clear hb hM hp ha hl hh CA CB CC
 go_enter Tryz.func56, Tryz.ntmps56
 go_upto_region 2 with (fail)
 generalize (World.alloc _ _).alloc _ = wo at HB a0 a1 a2 a3 a4 x0 x1 x2 x3 x4 x5 x6 x7 hl1 hl2 ⊢
 have HS : Hid (∀ W, Below wo.heap.size wo W → W.cell? ⟨w.heap.size + 1, 2, none⟩ = some (.bool ln) ∧ W.cell? ⟨w.heap.size + 1, 3, none⟩ = some (.int .i64 li) ∧ W.cell? ⟨w.heap.size + 1, 4, none⟩ = some (.string ls) ∧ W.cell? ⟨w.heap.size + 1, 5, none⟩ = some (.bool hn) ∧ W.cell? ⟨w.heap.size + 1, 6, none⟩ = some (.int .i64 hi) ∧ W.cell? ⟨w.heap.size + 1, 7, none⟩ = some (.string hs)) := Lib.hid fun W g =>
  ⟨(g.cell (p := ⟨w.heap.size + 1, 2, none⟩) hl2).trans x2, (g.cell (p := ⟨w.heap.size + 1, 3, none⟩) hl2).trans x3, (g.cell (p := ⟨w.heap.size + 1, 4, none⟩) hl2).trans x4, (g.cell (p := ⟨w.heap.size + 1, 5, none⟩) hl2).trans x5, (g.cell (p := ⟨w.heap.size + 1, 6, none⟩) hl2).trans x6, (g.cell (p := ⟨w.heap.size + 1, 7, none⟩) hl2).trans x7⟩
 have HA : Hid (∀ W, Below wo.heap.size wo W → W.cell? ⟨w.heap.size, 0, none⟩ = some (.int .i64 op) ∧ W.cell? ⟨w.heap.size, 2, none⟩ = some (.bool false) ∧ W.cell? ⟨w.heap.size, 3, none⟩ = some (.int .i64 ai) ∧ W.cell? ⟨w.heap.size, 4, none⟩ = some (.string sa) ∧ W.cell? ⟨w.heap.size + 1, 0, none⟩ = some (.bool zn) ∧ W.cell? ⟨w.heap.size + 1, 1, none⟩ = some (.bool true)) := Lib.hid fun W g =>
  ⟨(g.cell (p := ⟨w.heap.size, 0, none⟩) hl1).trans a0, (g.cell (p := ⟨w.heap.size, 2, none⟩) hl1).trans a2, (g.cell (p := ⟨w.heap.size, 3, none⟩) hl1).trans a3, (g.cell (p := ⟨w.heap.size, 4, none⟩) hl1).trans a4, (g.cell (p := ⟨w.heap.size + 1, 0, none⟩) hl2).trans x0, (g.cell (p := ⟨w.heap.size + 1, 1, none⟩) hl2).trans x1⟩
 have HO := Lib.hid (Below.refl wo.heap.size wo)
 have HD : Hid (Below wo.heap.size wo wo.drew) := Lib.hid (Kn.drewN_below wo 1)
 clear a0 a1 a2 a3 a4 x0 x1 x2 x3 x4 x5 x6 x7 hl1 hl2
 go_cut [6, 7] (fun s6 s7 wx => ∃ p q : Nat, s6 = .pointer (some ⟨p, 0, none⟩) ∧ s7 = .pointer (some ⟨q, 0, none⟩) ∧ Below wo.heap.size wo wx ∧ Kn.At wx p 0 ⟨false, li, ls⟩ ∧ Kn.At wx q 0 ⟨false, hi, hs⟩)
 case first =>
  go_region_held3 (fun W => W.cell? ⟨w.heap.size + 1, 2, none⟩ = some (.bool ln) ∧ W.cell? ⟨w.heap.size + 1, 3, none⟩ = some (.int .i64 li) ∧ W.cell? ⟨w.heap.size + 1, 4, none⟩ = some (.string ls) ∧ W.cell? ⟨w.heap.size + 1, 5, none⟩ = some (.bool hn) ∧ W.cell? ⟨w.heap.size + 1, 6, none⟩ = some (.int .i64 hi) ∧ W.cell? ⟨w.heap.size + 1, 7, none⟩ = some (.string hs))
   ((refine HS.out _ ?_; repeat' (first | exact HD.out | exact HO.out | refine Below.drew ?_ | refine Zn.below_alloc ?_ _ | (refine Zn.below_set ?_ ?_ _ _))))
   (first
    | (go_at_call 85; (with_reducible refine (C1 _).mono ?_); rintro e w1 ⟨rfl, rfl⟩)
    | (go_at_call 85; (with_reducible refine (C2 _).mono ?_); rintro e w2 ⟨rfl, rfl⟩))
  all_goals (go_wp2_with fail; go_meet; exact ⟨_, _, rfl, rfl, by repeat' (first | exact HD.out | exact HO.out | refine Below.drew ?_ | refine Zn.below_alloc ?_ _), ⟨by go_simp, by go_simp, by go_simp⟩, ⟨by go_simp, by go_simp, by go_simp⟩⟩)
 case rest =>
  obtain ⟨p, q, rfl, rfl, hE, hP, hQ⟩ := hcut
  obtain ⟨c0, c2, c3, c4, y0, y1⟩ := HA.out _ hE
  have HE := Lib.hid (HB.out.trans (hE.mono HB.out.size))
  have HF := Lib.hid hE
  have HQ := Lib.hid hQ
  obtain ⟨p0, p1, p2⟩ := hP
  simp only at p0 p1 p2
  clear hE hQ C1 C2 HS HO HD
  rcases Zn.ops op with rfl | rfl | rfl | rfl | rfl | rfl | ⟨n0, n1, n2, n3, n4, n5, m0, m1, m2, m3, m4, m5⟩
  ·obtain rfl : (zn || true) = M := by rw [← HM.out]; simp [Zn.may]
   clear HM
   cases zn
   all_goals
    go_wp2
    go_ret
    exact ⟨rfl, HE.out⟩
  ·obtain rfl : zn = M := by rw [← HM.out]; simp [Zn.may]
   clear HM
   go_wp2
   go_ret
   exact ⟨rfl, HE.out⟩
  ·obtain rfl : true = M := by rw [← HM.out]; simp [Zn.may]
   clear HM
   go_wp2
   go_ret
   exact ⟨rfl, HE.out⟩
  ·have HM1 : Hid ((!decide (Kn.cmp ⟨false, ai, sa⟩ ⟨false, li, ls⟩ < 0) && !decide (Kn.cmp ⟨false, hi, hs⟩ ⟨false, ai, sa⟩ < 0)) = M) := Lib.hid ((Rn.may1 col ⟨false, ai, sa⟩ ⟨ln, li, ls⟩ ⟨hn, hi, hs⟩ zn rfl).symm.trans HM.out)
   by_cases h1 : Kn.cmp ⟨false, ai, sa⟩ ⟨false, li, ls⟩ < 0
   ·obtain rfl : false = M := by rw [← HM1.out, decide_eq_true h1]; rfl
    have hd : decide (Kn.cmp ⟨false, ai, sa⟩ ⟨false, li, ls⟩ < 0) = true := decide_eq_true h1
    rw [hd] at HCA
    clear HM HM1 hd h1
    go_wp2_with fail
    with_reducible refine (HCA.out _).mono ?_
    rintro e w1 ⟨rfl, g1⟩
    go_wp2
    go_ret
    exact ⟨rfl, HE.out.trans (g1.mono HE.out.size)⟩
   ·have hd : decide (Kn.cmp ⟨false, ai, sa⟩ ⟨false, li, ls⟩ < 0) = false := decide_eq_false h1
    have hMY : (!decide (Kn.cmp ⟨false, hi, hs⟩ ⟨false, ai, sa⟩ < 0)) = M := by rw [← HM1.out, hd]; rfl
    rw [hd] at HCA
    generalize decide (Kn.cmp ⟨false, hi, hs⟩ ⟨false, ai, sa⟩ < 0) = Y at HCB hMY
    have HMY := Lib.hid hMY
    clear HM HM1 hd h1 hMY
    go_wp2_with fail
    with_reducible refine (HCA.out _).mono ?_
    rintro e w1 ⟨rfl, g1⟩
    obtain ⟨q0, q1, q2⟩ := HQ.out.later g1
    obtain ⟨d0, d2, d3, d4, _, _⟩ := HA.out _ (HF.out.trans (g1.mono HF.out.size))
    simp only at q0 q1 q2
    have HE1 := Lib.hid (HE.out.trans (g1.mono HE.out.size))
    clear g1
    go_wp2_with fail
    with_reducible refine (HCB.out _).mono ?_
    rintro e w2 ⟨rfl, g2⟩
    go_wp2
    go_ret
    exact ⟨by rw [← HMY.out]; rfl, HE1.out.trans (g2.mono HE1.out.size)⟩
  ·have hMY : decide (Kn.cmp ⟨false, li, ls⟩ ⟨false, ai, sa⟩ < 0) = M := by rw [← HM.out, Zn.may2 _ _ _ _ _ rfl]; rfl
   generalize decide (Kn.cmp ⟨false, li, ls⟩ ⟨false, ai, sa⟩ < 0) = Y at HCC hMY
   have HMY := Lib.hid hMY
   clear HM hMY
   go_wp2_with fail
   with_reducible refine (HCC.out _).mono ?_
   rintro e w1 ⟨rfl, g1⟩
   go_wp2
   go_ret
   exact ⟨by rw [← HMY.out]; rfl, HE.out.trans (g1.mono HE.out.size)⟩
  ·have HM3 : Hid ((!decide (Kn.cmp ⟨false, hi, hs⟩ ⟨false, ai, sa⟩ < 0)) = M) := Lib.hid ((Rn.may3 col ⟨false, ai, sa⟩ ⟨ln, li, ls⟩ ⟨hn, hi, hs⟩ zn rfl).symm.trans HM.out)
   have hMY := HM3.out
   obtain ⟨q0, q1, q2⟩ := HQ.out
   simp only at q0 q1 q2
   generalize decide (Kn.cmp ⟨false, hi, hs⟩ ⟨false, ai, sa⟩ < 0) = Y at HCB hMY
   have HMY := Lib.hid hMY
   clear HM HM3 hMY
   go_wp2_with fail
   with_reducible refine (HCB.out _).mono ?_
   rintro e w1 ⟨rfl, g1⟩
   go_wp2
   go_ret
   exact ⟨by rw [← HMY.out]; rfl, HE.out.trans (g1.mono HE.out.size)⟩
  ·obtain rfl : false = M := by rw [← HM.out]; simp [Zn.may, m0, m1, m2, m3, m4, m5]
   clear HM m0 m1 m2 m3 m4 m5
   go_wp2
   go_ret
   exact ⟨rfl, HE.out⟩
end
section
open Go.RowKit
theorem Rn.zone_z {s : List Kn.C} {L : List Dd.D} (hz : Bk.Zs L) (b c : Int) : Kn.Z (Rn.zone s L b c).lo ∧ Kn.Z (Rn.zone s L b c).hi := by
 unfold Rn.zone
 split
 ·exact Zn.of_z (Rn.col_z hz)
 ·exact ⟨Nat.zero_le _, Nat.zero_le _⟩
theorem Rn.look_next (s : List Kn.C) (L : List Dd.D) (r : Kn.R) (a : Zn.As) (k : Nat) : ((List.range (k + 1)).filter (Rn.look s L r a)).length = ((List.range k).filter (Rn.look s L r a)).length + if Rn.look s L r a k = true then 1 else 0 := by
 rw [List.range_succ, List.filter_append, List.length_append]
 congr 1
 by_cases h : Rn.look s L r a k = true
 ·rw [if_pos h, List.filter_cons, if_pos h]; rfl
 ·rw [if_neg h, List.filter_cons, if_neg h]; rfl
theorem Rn.look_ways (s : List Kn.C) (L : List Dd.D) (r : Kn.R) (a : Zn.As) (k : Nat) :
 (¬ 0 ≤ a.col ∧ Rn.look s L r a k = false) ∨ (0 ≤ a.col ∧ ¬ a.col < (s.length : Int) ∧ Rn.look s L r a k = false) ∨ (0 ≤ a.col ∧ a.col < (s.length : Int) ∧ Rn.meets (Rn.zone s L k 0) r = false ∧ Rn.look s L r a k = false) ∨
 (0 ≤ a.col ∧ a.col < (s.length : Int) ∧ Rn.meets (Rn.zone s L k 0) r = true ∧ Rn.look s L r a k = Zn.may a (Rn.zone s L k a.col)) := by
 unfold Rn.look
 by_cases h1 : 0 ≤ a.col
 ·by_cases h2 : a.col < (s.length : Int)
  ·cases h3 : Rn.meets (Rn.zone s L k 0) r
   ·exact .inr (.inr (.inl ⟨h1, h2, rfl, by simp⟩))
   ·exact .inr (.inr (.inr ⟨h1, h2, rfl, by simp [h1, h2]⟩))
  ·exact .inr (.inl ⟨h1, h2, by simp [h2]⟩)
 ·exact .inl ⟨h1, by simp [h1]⟩
theorem Rn.boxedL (w : World) (r : Kn.R) (a : Zn.As) (t t' : TypeId) : Kn.RAt ((w.alloc (.cells #[.bool r.from_, .bool r.til, .bool r.lo.null, .int .i64 r.lo.n, .string r.lo.s, .bool r.hi.null, .int .i64 r.hi.n, .string r.hi.s] t)).alloc (.cells #[.int .i64 a.op, .int .i64 a.col, .bool a.v.null, .int .i64 a.v.n, .string a.v.s] t')) w.heap.size r ∧
 Zn.ABlk ((w.alloc (.cells #[.bool r.from_, .bool r.til, .bool r.lo.null, .int .i64 r.lo.n, .string r.lo.s, .bool r.hi.null, .int .i64 r.hi.n, .string r.hi.s] t)).alloc (.cells #[.int .i64 a.op, .int .i64 a.col, .bool a.v.null, .int .i64 a.v.n, .string a.v.s] t')) (w.heap.size + 1) a := by
 refine ⟨(Kn.RAt.new w r t).alloc _, ?_⟩
 have := Zn.ABlk.new (w.alloc (.cells #[.bool r.from_, .bool r.til, .bool r.lo.null, .int .i64 r.lo.n, .string r.lo.s, .bool r.hi.null, .int .i64 r.hi.n, .string r.hi.s] t)) a t'
 rwa [World.size_alloc] at this
set_option maxHeartbeats 8000000 in
set_option maxRecDepth 100000 in
theorem Rn.rlooked_c (vs v : Value) (s : List Kn.C) (L : List Dd.D) (r : Kn.R) (a : Zn.As) (w : World) (hs : Kn.Cols w vs s) (hv : Bk.Ds w v L) (hz : Bk.Zs L) (hr : Kn.right s = true) (hf : ∀ d ∈ L, Dd.fitE s d = 0) (hl : 0 < L.length) (h200 : L.length ≤ 1048576) (hlo : Kn.Z r.lo) (hhi : Kn.Z r.hi) (ha : Kn.Z a.v) :
 Calls Tryz.prog 25 #[vs, v, r.val, a.val] w fun e w' => e = .returned (.int .i64 (Rn.looked s L r a : Nat)) ∧ Below w.heap.size w w' := by
 have HV := Lib.hid hv
 have HS := Lib.hid hs
 obtain ⟨va, vc, rfl, hlc, hcm, h⟩ := hv
 obtain ⟨sa, sc, rfl, -⟩ := hs
 rcases h with hn | ⟨b9, o9, rfl, hbl, -⟩
 ·rw [hn] at hl; simp at hl
 have CB := Lib.hid fun (wz : World) => Rn.rblocks_c b9 o9 L.length vc wz hl hlc h200
 have CZ := Lib.hid fun (i c : Int) (wz : World) (h1 : Kn.Cols wz (.slice sa s.length sc) s) (h2 : Bk.Ds wz (.slice (some ⟨b9, o9, none⟩) L.length vc) L) => Rn.rzone_c _ _ s L i c wz h1 h2 hz hr hf hl h200
 have CM := Lib.hid fun (i c : Int) => Rn.rmeets_c (Rn.zone s L i c) r (Rn.zone_z hz i c).1 (Rn.zone_z hz i c).2 hlo hhi
 have CY := Lib.hid fun (i c : Int) => Rn.rmay_c a (Rn.zone s L i c) ha (Rn.zone_z hz i c).1 (Rn.zone_z hz i c).2
 have HW := Lib.hid (Rn.look_ways s L r a)
 have HN := Lib.hid (Rn.look_next s L r a)
 have HNB : Hid (Rn.nb L.length ≤ 131073) := Lib.hid (by unfold Rn.nb; omega)
 obtain ⟨hR, hA⟩ := Rn.boxedL w r a 43 54
 have HR := Lib.hid hR
 have HA := Lib.hid hA
 have HB0 := Lib.hid (Kn.box2 w (.cells #[.bool r.from_, .bool r.til, .bool r.lo.null, .int .i64 r.lo.n, .string r.lo.s, .bool r.hi.null, .int .i64 r.hi.n, .string r.hi.s] 43) (.cells #[.int .i64 a.op, .int .i64 a.col, .bool a.v.null, .int .i64 a.v.n, .string a.v.s] 54))
 unfold Rn.looked
 have HP0 := Lib.hid (Rn.parts_len b9 o9 L.length vc (Rn.nb L.length))
 generalize Rn.parts b9 o9 L.length vc (Rn.nb L.length) = P at CB HP0
 generalize Rn.look s L r a = lk at HW HN ⊢
 generalize Rn.nb L.length = nb at CB HNB HP0 ⊢
 have HLC : Hid (∃ x, x = nb) := Lib.hid ⟨_, rfl⟩
 clear hR hA hz hr hf hl h200 hlo hhi ha hlc hcm hbl
 go_enter Tryz.func25, Tryz.ntmps25
 go_wp2_with fail
 generalize (World.alloc _ _).alloc _ = w1 at HR HA HB0 ⊢
 with_reducible refine (CB.out w1).mono ?_
 rintro e w2 ⟨u2, rfl, hO2, g2⟩
 have hf2 := hO2.form
 rw [HP0.out] at hf2
 obtain ⟨ua, uc, rfl⟩ : ∃ ua uc, u2 = .slice ua nb uc := by
  rcases hf2 with ⟨h1, h0⟩ | ⟨g, cc, h1, _⟩
  ·have := HP0.out
   rw [h0] at this
   simp at this
   exact ⟨none, 0, by rw [h1, ← this]⟩
  ·exact ⟨_, cc, h1⟩
 have HR2 := Lib.hid (HR.out.later g2)
 have HA2 := Lib.hid (HA.out.kept g2)
 have HB2 := Lib.hid (HB0.out.trans (g2.mono HB0.out.size))
 clear hO2 hf2 g2 HR HA CB
 go_wp2_with fail
 go_loopw [9, 11] (fun n i wr => ∃ k : Nat, k ≤ nb ∧ i = .int .i64 k ∧ n = .int .i64 (((List.range k).filter lk).length : Nat) ∧ Below w2.heap.size w2 wr) (fun _ i _ => nb - (intOf i).toNat)
 case atStart => exact ⟨0, Nat.zero_le _, rfl, rfl, Below.refl _ _⟩
 case round =>
  obtain ⟨k, hk, rfl, rfl, hB⟩ := hrel
  have HB := Lib.hid hB
  have hn0 : ((List.range k).filter lk).length ≤ k := Nat.le_trans (List.length_filter_le ..) (by rw [List.length_range]; exact Nat.le_refl _)
  have HNK := Lib.hid (HN.out k)
  have hnb := HNB.out
  generalize hne : ((List.range k).filter lk).length = n at hn0 HNK ⊢
  have HNE := Lib.hid hne
  have hk0 : (0 : Int) ≤ (k : Int) := by omega
  have hn1 : (0 : Int) ≤ (n : Int) := by omega
  have hk7 : (k : Int) ≤ 131073 := by omega
  have hn7 : (n : Int) ≤ 131073 := by omega
  clear hB hne
  by_cases hl : k < nb
  ·have hkl : (k : Int) < (nb : Int) := by omega
   have HK := Lib.hid hl
   have HBW := Lib.hid (HB2.out.trans (HB.out.mono HB2.out.size))
   have hRt := HR2.out.later HB.out
   have hAt := HA2.out.kept HB.out
   have x0 := hRt.c0
   have x1 := hRt.c1
   have x2 := hRt.lo.c0
   have x3 := hRt.lo.c1
   have x4 := hRt.lo.c2
   have x5 := hRt.hi.c0
   have x6 := hRt.hi.c1
   have x7 := hRt.hi.c2
   simp only [Nat.reduceAdd] at x3 x4 x6 x7
   have y0 := hAt.c0
   have y1 := hAt.c1
   have y2 := hAt.c2
   have y3 := hAt.c3
   have y4 := hAt.c4
   have cz0 := fun (wz : World) (g : Below wr.heap.size wr wz) => CZ.out k 0 wz (HS.out.later (HBW.out.trans (g.mono HBW.out.size))) (HV.out.later (HBW.out.trans (g.mono HBW.out.size)))
   have cz1 := fun (wz : World) (g : Below wr.heap.size wr wz) => CZ.out k a.col wz (HS.out.later (HBW.out.trans (g.mono HBW.out.size))) (HV.out.later (HBW.out.trans (g.mono HBW.out.size)))
   have cm := CM.out k 0
   have cy := CY.out k a.col
   have hw := HW.out k
   generalize Rn.zone s L k 0 = z0 at cz0 cm hw
   generalize Rn.zone s L k a.col = z1 at cz1 cy hw
   generalize Rn.meets z0 r = bm at cm hw
   generalize Zn.may a z1 = by_ at cy hw
   obtain ⟨rf, rt, ⟨r1, r2, r3⟩, ⟨r4, r5, r6⟩⟩ := r
   obtain ⟨op, col, ⟨an, ai, sa9⟩⟩ := a
   obtain ⟨zn, zw, ⟨ln, li, ls⟩, ⟨hn, hi, hs⟩⟩ := z0
   obtain ⟨vn, vw, ⟨mn, mi, ms⟩, ⟨kn, ki, ks⟩⟩ := z1
   simp only at x0 x1 x2 x3 x4 x5 x6 x7 y0 y1 y2 y3 y4 hw
   unfold Kn.R.val Zn.Zo.val at cm
   unfold Zn.As.val Zn.Zo.val at cy
   unfold Zn.Zo.val at cz0 cz1
   simp only at cm cy cz0 cz1
   have X0 := fun d os => cell_regrown x0 d os
   have X1 := fun d os => cell_regrown x1 d os
   have X2 := fun d os => cell_regrown x2 d os
   have X3 := fun d os => cell_regrown x3 d os
   have X4 := fun d os => cell_regrown x4 d os
   have X5 := fun d os => cell_regrown x5 d os
   have X6 := fun d os => cell_regrown x6 d os
   have X7 := fun d os => cell_regrown x7 d os
   have Y0 := fun d os => cell_regrown y0 d os
   have Y1 := fun d os => cell_regrown y1 d os
   have Y2 := fun d os => cell_regrown y2 d os
   have Y3 := fun d os => cell_regrown y3 d os
   have Y4 := fun d os => cell_regrown y4 d os
   have CA0 : Hid (∀ p : Regrown, _) := Lib.hid fun p : Regrown => Calls.regrown_of (d := p.d) (os := p.os) (w := wr) (cz0 _ (below_regrown wr p.d p.os))
   have CA1 : Hid (∀ p : Regrown, _) := Lib.hid fun p : Regrown => Calls.regrown_of (d := p.d) (os := p.os) (w := wr) (cz1 _ (below_regrown wr p.d p.os))
   have CA2 : Hid (∀ p : Regrown, _) := Lib.hid fun p : Regrown => Calls.regrown_of (d := p.d) (os := p.os) (w := wr) (cm _)
   have CA3 : Hid (∀ p : Regrown, _) := Lib.hid fun p : Regrown => Calls.regrown_of (d := p.d) (os := p.os) (w := wr) (cy _)
   have HW9 := Lib.hid hw
   clear x0 x1 x2 x3 x4 x5 x6 x7 y0 y1 y2 y3 y4 cz0 cz1 cm cy hRt hAt hw hl hk hn0 hnb
   go_upto_region 6 with (fail)
   rcases HW9.out with ⟨h1, h2⟩ | ⟨h1, h3, h2⟩ | ⟨h1, h3, h4, h2⟩ | ⟨h1, h3, h4, h2⟩
   ·have HT := Lib.hid (HNK.out.trans (by rw [h2]))
    have hd : decide ((0 : Int) ≤ col) = false := decide_eq_false (by omega)
    clear h2 h1 HW9
    refine wp_region_quiet_below (by kernel_rfl) (by kernel_rfl) ?_
    repeat (go_big_quiet_step (fail))
    refine wpQuiet_nil ?_
    intro w5 hw'
    have HB5 := Lib.hid (HB.out.trans ((Bk.below_reg hw').mono HB.out.size))
    clear hw'
    go_wp2
    go_roundw
    case rel => exact ⟨k + 1, HK.out, by simp, by rw [HT.out]; simp, HB5.out⟩
    case measure => (have := HK.out; simp [intOf]; omega)
   ·have HT := Lib.hid (HNK.out.trans (by rw [h2]))
    have hd : decide ((0 : Int) ≤ col) = true := decide_eq_true h1
    have hd2 : decide (col < (s.length : Int)) = false := decide_eq_false (by omega)
    clear h2 h3 HW9
    refine wp_region_quiet_below (by kernel_rfl) (by kernel_rfl) ?_
    repeat (go_big_quiet_step (fail))
    refine wpQuiet_nil ?_
    intro w5 hw'
    have HB5 := Lib.hid (HB.out.trans ((Bk.below_reg hw').mono HB.out.size))
    clear hw'
    go_wp2
    go_roundw
    case rel => exact ⟨k + 1, HK.out, by simp, by rw [HT.out]; simp, HB5.out⟩
    case measure => (have := HK.out; simp [intOf]; omega)
   ·have HT := Lib.hid (HNK.out.trans (by rw [h2]))
    have hd : decide ((0 : Int) ≤ col) = true := decide_eq_true h1
    have hd2 : decide (col < (s.length : Int)) = true := decide_eq_true h3
    subst h4
    clear h2 HW9
    refine wp_region_quiet_below (by kernel_rfl) (by kernel_rfl) ?_
    repeat (go_big_quiet_step (first | with_reducible exact CA0.out _ | with_reducible exact CA2.out _))
    refine wpQuiet_nil ?_
    intro w5 hw'
    have HB5 := Lib.hid (HB.out.trans ((Bk.below_reg hw').mono HB.out.size))
    clear hw'
    go_wp2
    go_roundw
    case rel => exact ⟨k + 1, HK.out, by simp, by rw [HT.out]; simp, HB5.out⟩
    case measure => (have := HK.out; simp [intOf]; omega)
   ·have hd : decide ((0 : Int) ≤ col) = true := decide_eq_true h1
    have hd2 : decide (col < (s.length : Int)) = true := decide_eq_true h3
    subst h4
    cases by_
    all_goals
     have HT := Lib.hid (HNK.out.trans (by rw [h2]))
     clear h2 HW9
     refine wp_region_quiet_below (by kernel_rfl) (by kernel_rfl) ?_
     repeat (go_big_quiet_step (first | with_reducible exact CA0.out _ | with_reducible exact CA1.out _ | with_reducible exact CA2.out _ | with_reducible exact CA3.out _))
     refine wpQuiet_nil ?_
     intro w5 hw'
     have HB5 := Lib.hid (HB.out.trans ((Bk.below_reg hw').mono HB.out.size))
     clear hw'
     go_wp2
     go_roundw
     case rel => exact ⟨k + 1, HK.out, by simp, by rw [HT.out]; simp, HB5.out⟩
     case measure => (have := HK.out; simp [intOf]; omega)
  ·obtain rfl : k = nb := by omega
   have hkl : ¬ (k : Int) < (k : Int) := by omega
   clear hk hl
   go_wp2
   go_ret
   exact ⟨by show Ending.returned (.int .i64 (n : Int)) = Ending.returned (.int .i64 ((((List.range k).filter lk).length : Nat) : Int)); rw [HNE.out], HB2.out.trans (HB.out.mono HB2.out.size)⟩
end
section
open Go Go.RowKit
set_option maxHeartbeats 2000000 in
set_option maxRecDepth 100000 in
theorem Rn.pmeets_c (z : Zn.Zo) (r : Kn.R) (w : World) :
 Calls Tryz.prog 108 #[z.val, r.val] w fun e w' => e = .returned (.bool (Rn.meets z r)) ∧ Below w.heap.size w w' := by
 have cL := Kn.compare_c z.hi r.lo
 have cH := Kn.compare_c z.lo r.hi
 have hb := Rn.boxedM w z r 43
 have hw := Rn.meet_ways z r
 obtain ⟨rf, rt, rl, rh⟩ := r
 obtain ⟨zn, zv, zl, zh⟩ := z
 simp only [Zn.cs] at hb hw cL cH
 obtain ⟨hZ, hR⟩ := hb
 have HZ := Lib.hid hZ
 have HR := Lib.hid hR
 have hx := hZ.cells
 obtain ⟨y0, y1, y2, y3, y4, y5, y6, y7⟩ := hx
 obtain ⟨c0, c1, ⟨c2, c3, c4⟩, ⟨c5, c6, c7⟩⟩ := hR
 simp only [Nat.reduceAdd] at c3 c4 c6 c7
 unfold Kn.R.val Zn.Zo.val
 unfold Kn.V.val at cL cH
 simp only at y0 y1 y2 y3 y4 y5 y6 y7 c0 c1 c2 c3 c4 c5 c6 c7 ⊢
 clear hZ
 generalize Kn.cmp zh rl = x at cL hw
 generalize Kn.cmp zl rh = y at cH hw
 rcases hw with ⟨rfl, rfl, hv⟩ | ⟨rfl, rfl, hv⟩ | ⟨rfl, h1, hv⟩ | ⟨rfl, h1, rfl, hv⟩ | ⟨rfl, h1, rfl, hv⟩
 ·rw [hv]
  clear hv cL cH
  go_enter Tryz.func108, Tryz.ntmps108
  go_wp2
  go_ret
  exact ⟨rfl, Kn.box2 _ _ _⟩
 ·rw [hv]
  clear hv cL
  go_enter Tryz.func108, Tryz.ntmps108
  go_wp2_with fail
  refine (cH _).mono ?_
  rintro e w1 ⟨rfl, g1⟩
  go_wp2
  go_ret
  exact ⟨rfl, (Kn.box2 _ _ _).trans (g1.mono (by simp; omega))⟩
 ·rw [hv]
  clear hv cH
  go_enter Tryz.func108, Tryz.ntmps108
  go_wp2_with fail
  refine (cL _).mono ?_
  rintro e w1 ⟨rfl, g1⟩
  go_wp2
  go_ret
  exact ⟨rfl, (Kn.box2 _ _ _).trans (g1.mono (by simp; omega))⟩
 ·rw [hv]
  clear hv cH
  go_enter Tryz.func108, Tryz.ntmps108
  go_wp2_with fail
  refine (cL _).mono ?_
  rintro e w1 ⟨rfl, g1⟩
  obtain ⟨d0, d1, _, _⟩ := HR.out.later g1
  go_wp2
  go_ret
  exact ⟨rfl, (Kn.box2 _ _ _).trans (g1.mono (by simp; omega))⟩
 ·rw [hv]
  clear hv
  go_enter Tryz.func108, Tryz.ntmps108
  go_wp2_with fail
  refine (cL _).mono ?_
  rintro e w1 ⟨rfl, g1⟩
  obtain ⟨d0, d1, _, ⟨d5, d6, d7⟩⟩ := HR.out.later g1
  simp only [Nat.reduceAdd] at d6 d7
  have hz1 := (HZ.out.kept g1).cells
  obtain ⟨e0, e1, e2, e3, e4, e5, e6, e7⟩ := hz1
  simp only at e0 e1 e2 e3 e4 e5 e6 e7 d0 d1 d5 d6 d7
  go_wp2_with fail
  refine (cH _).mono ?_
  rintro e w2 ⟨rfl, g2⟩
  go_wp2
  go_ret
  exact ⟨rfl, (Kn.box2 _ _ _).trans ((g1.trans (g2.mono g1.size)).mono (by simp; omega))⟩
set_option maxHeartbeats 4000000 in
set_option maxRecDepth 100000 in
theorem Rn.examines_c {w : World} {p : Nat} {s : List Kn.C} {L : List Dd.D} (h : Rn.P w p s L) (i : Nat) (r : Kn.R) (a : Zn.As) :
 Calls Tryz.prog 83 #[.pointer (some ⟨p, 0, none⟩), .int .i64 (i : Int), r.val, a.val] w fun e w' => e = .returned (.bool (Rn.look s L r a i)) ∧ Below w.heap.size w w' := by
 have CZ := Lib.hid fun (c : Int) (wz : World) (g : Below w.heap.size w wz) => Rn.zone_c (h.later g) (i : Int) c
 have CM := Lib.hid (Rn.pmeets_c (Rn.zone s L i 0) r)
 have CY := Lib.hid (Zn.may_c a (Rn.zone s L i a.col))
 obtain ⟨hR, hA⟩ := Rn.boxedL w r a 43 54
 have HR := Lib.hid hR
 have HA := Lib.hid hA
 have HB0 := Lib.hid (Kn.box2 w (.cells #[.bool r.from_, .bool r.til, .bool r.lo.null, .int .i64 r.lo.n, .string r.lo.s, .bool r.hi.null, .int .i64 r.hi.n, .string r.hi.s] 43) (.cells #[.int .i64 a.op, .int .i64 a.col, .bool a.v.null, .int .i64 a.v.n, .string a.v.s] 54))
 rw [Rn.look_is]
 have cz0 := CZ.out 0
 have cz1 := CZ.out a.col
 generalize Rn.zone s L i 0 = z0 at CM cz0 ⊢
 generalize Rn.zone s L i a.col = z1 at CY cz1 ⊢
 generalize Rn.meets z0 r = bm at CM ⊢
 generalize Zn.may a z1 = by_ at CY ⊢
 have CZ0 := Lib.hid cz0
 have CZ1 := Lib.hid cz1
 clear h CZ hR hA cz0 cz1
 go_enter Tryz.func83, Tryz.ntmps83
 go_upto_region 1 with (fail)
 generalize (World.alloc _ _).alloc _ = w1 at HR HA HB0 ⊢
 have x0 := HR.out.c0
 have x1 := HR.out.c1
 have x2 := HR.out.lo.c0
 have x3 := HR.out.lo.c1
 have x4 := HR.out.lo.c2
 have x5 := HR.out.hi.c0
 have x6 := HR.out.hi.c1
 have x7 := HR.out.hi.c2
 simp only [Nat.reduceAdd] at x3 x4 x6 x7
 have y0 := HA.out.c0
 have y1 := HA.out.c1
 have y2 := HA.out.c2
 have y3 := HA.out.c3
 have y4 := HA.out.c4
 have cz0 := fun (wz : World) (g : Below w1.heap.size w1 wz) => CZ0.out wz (HB0.out.trans (g.mono HB0.out.size))
 have cz1 := fun (wz : World) (g : Below w1.heap.size w1 wz) => CZ1.out wz (HB0.out.trans (g.mono HB0.out.size))
 have cm := CM.out
 have cy := CY.out
 obtain ⟨rf, rt, ⟨r1, r2, r3⟩, ⟨r4, r5, r6⟩⟩ := r
 obtain ⟨op, col, ⟨an, ai, sa9⟩⟩ := a
 obtain ⟨zn, zw, ⟨ln, li, ls⟩, ⟨hn, hi, hs⟩⟩ := z0
 obtain ⟨vn, vw, ⟨mn, mi, ms⟩, ⟨kn, ki, ks⟩⟩ := z1
 simp only at x0 x1 x2 x3 x4 x5 x6 x7 y0 y1 y2 y3 y4
 unfold Kn.R.val Zn.Zo.val at cm
 unfold Zn.As.val Zn.Zo.val at cy
 unfold Zn.Zo.val at cz0 cz1
 simp only at cm cy cz0 cz1
 have X0 := fun d os => cell_regrown x0 d os
 have X1 := fun d os => cell_regrown x1 d os
 have X2 := fun d os => cell_regrown x2 d os
 have X3 := fun d os => cell_regrown x3 d os
 have X4 := fun d os => cell_regrown x4 d os
 have X5 := fun d os => cell_regrown x5 d os
 have X6 := fun d os => cell_regrown x6 d os
 have X7 := fun d os => cell_regrown x7 d os
 have Y0 := fun d os => cell_regrown y0 d os
 have Y1 := fun d os => cell_regrown y1 d os
 have Y2 := fun d os => cell_regrown y2 d os
 have Y3 := fun d os => cell_regrown y3 d os
 have Y4 := fun d os => cell_regrown y4 d os
 have CA0 : Hid (∀ p : Regrown, _) := Lib.hid fun p : Regrown => Calls.regrown_of (d := p.d) (os := p.os) (w := w1) (cz0 _ (below_regrown w1 p.d p.os))
 have CA1 : Hid (∀ p : Regrown, _) := Lib.hid fun p : Regrown => Calls.regrown_of (d := p.d) (os := p.os) (w := w1) (cz1 _ (below_regrown w1 p.d p.os))
 have CA2 : Hid (∀ p : Regrown, _) := Lib.hid fun p : Regrown => Calls.regrown_of (d := p.d) (os := p.os) (w := w1) (cm _)
 have CA3 : Hid (∀ p : Regrown, _) := Lib.hid fun p : Regrown => Calls.regrown_of (d := p.d) (os := p.os) (w := w1) (cy _)
 clear x0 x1 x2 x3 x4 x5 x6 x7 y0 y1 y2 y3 y4 cz0 cz1 cm cy
 cases bm
 all_goals
  refine wp_region_quiet_below (by kernel_rfl) (by kernel_rfl) ?_
  repeat (go_big_quiet_step (first | with_reducible exact CA0.out _ | with_reducible exact CA2.out _ | with_reducible exact CA1.out _ | with_reducible exact CA3.out _))
  refine wpQuiet_nil ?_
  intro w5 hw'
  have HB5 := Lib.hid (HB0.out.trans ((Bk.below_reg hw').mono HB0.out.size))
  clear hw'
  go_wp2
  go_ret
  exact ⟨by simp, HB5.out⟩
def Rn.PartOf (wo w : World) (L : List Dd.D) (i : Nat) (e : Ending) (w' : World) : Prop := ∃ x, e = .returned (Bk.sv x) ∧ Bk.Ds wo (Bk.sv x) (Rn.bk L i) ∧ Below w.heap.size w w'
set_option maxHeartbeats 2000000 in
set_option maxRecDepth 100000 in
theorem Rn.part_c {wo w : World} {p : Nat} {s : List Kn.C} {L : List Dd.D} (h : Rn.P wo p s L) (hbo : Below wo.heap.size wo w) {i : Nat} (hi : i < Rn.nb L.length) (hl : L.length ≤ 1048576) :
 Calls Tryz.prog 84 #[.pointer (some ⟨p, 0, none⟩), .int .i64 (i : Int)] w (Rn.PartOf wo w L i) := by
 obtain ⟨hpl, d, z, c0, _, hd, -⟩ := h
 have c0 := (hbo.cell (p := ⟨p, 0, none⟩) hpl).trans c0
 have hd2 := hd
 obtain ⟨a, c, rfl, hlc, hcm, h⟩ := hd2
 have hn := Rn.nb_le hi
 rcases h with h | ⟨b, o, rfl, hb, -⟩
 ·rw [h] at hn; simp at hn
 have HD := Lib.hid (Rn.ds_part hd hi)
 have d0 : w.drew.cell? ⟨p, 0, none⟩ = some (.slice (some ⟨b, o, none⟩) L.length c) := c0
 have hi0 : (0 : Int) ≤ (i : Int) := by omega
 have hi7 : (i : Int) ≤ 1048576 := by omega
 have HPD : Hid (Rn.part b o L.length c i = (some ⟨b, o + i * 8 * 2, none⟩, (min ((i : Int) * 8 + 8) (L.length : Int)).toNat - i * 8, c - i * 8)) := Lib.hid (by
  unfold Rn.part
  rw [show 8 * i = i * 8 by omega, show min 8 (L.length - i * 8) = (min ((i : Int) * 8 + 8) (L.length : Int)).toNat - i * 8 by omega])
 have hln : (L.length : Int) ≤ 1048576 := by omega
 have hm1 : (i : Int) * 8 ≤ min ((i : Int) * 8 + 8) (L.length : Int) := by omega
 have hm2 : min ((i : Int) * 8 + 8) (L.length : Int) ≤ (c : Int) := by omega
 have hm3 : (0 : Int) ≤ min ((i : Int) * 8 + 8) (L.length : Int) := by omega
 have h8i : (i : Int) * 8 < (L.length : Int) := by omega
 clear hd hn hi hl hb hlc hcm hbo hpl
 go_enter Tryz.func84, Tryz.ntmps84
 go_upto_region 2 with (fail)
 go_quiet (fail)
 have HB : Hid (Below w.heap.size w (w.drewN nq)) := Lib.hid (Bt.drewN_below _ _)
 have HD2 := Lib.hid HD.out
 rw [HPD.out] at HD2
 go_wp2
 go_ret
 exact ⟨_, rfl, HD2.out, HB.out⟩
end
section
open Go
section
variable {P : Program} {ops : Array Oper} {Q : Exit → Act → World → Prop} {md : Region.Mode} {S S' : World → Prop}
def Sk.Calm (Q : Exit → Act → World → Prop) : Exit → Act → World → Prop
 | .panic _, _, _ => False
 | .outgrown, _, _ => False
 | e, a, w => Q e a w
theorem Sk.Calm.imp {Q : Exit → Act → World → Prop} : ∀ (e : Exit) (a : Act) (w : World), Sk.Calm Q e a w → Q e a w := fun e a w h => by
 cases e <;> first | exact h | exact (h : False).elim
theorem Sk.Calm.normal {Q : Exit → Act → World → Prop} {a : Act} {w : World} (h : Q .normal a w) : Sk.Calm Q .normal a w := h
theorem Sk.Calm.shut {Q : Exit → Act → World → Prop} : ¬ LetsOut (Sk.Calm Q) := fun ⟨_, _, h⟩ => h
def Sk.noDefer (ops : Array Oper) : Bool := ops.all fun o => match o.op with | .defer _ => false | _ => true
theorem Sk.noDefer_spec (h : Sk.noDefer ops = true) {i : Nat} {o : Oper} (hi : ops[i]? = some o) : ∀ c, o.op ≠ .defer c := fun c e => by
 obtain ⟨hl, rfl⟩ := Array.getElem?_eq_some_iff.1 hi
 unfold Sk.noDefer at h
 have := Array.all_eq_true.1 h i hl
 rw [e] at this
 cases this
theorem Sk.op_round {l n i : Nat} {K : Act → World → Prop} {a : Act} {w : World} (hL : ¬ LetsOut Q) (hd : Sk.noDefer ops = true) (h : wpOp P ops Q i K a w) : wpOpIn (Fence.wide.inRound l) n P ops Q i K a w := by
 unfold wpOp at h
 unfold wpOpIn
 cases ho : ops[i]? with
 | none => simpa [ho] using h
 | some o =>
   simp only [ho] at h ⊢
   split
   ·rename_i hw
    simp only [hw, if_true] at h
    rcases h with h | ⟨_, h⟩
    case inr => exact absurd h hL
    refine ⟨fun _ _ => trivial, ?_⟩
    rw [Oper.semAt_eq _ _ _ (Sk.noDefer_spec hd ho)]
    unfold Oper.wp at h
    generalize (execOp a.eval o).run P w = r at h ⊢
    cases r with
    | ok x w' =>
      cases x with
      | value v => exact h
      | skip => exact h
      | defer d => exact h
      | enter f args =>
        refine ⟨fun e => (by cases e), CallsIn.inRound l (callsIn_wide.2 ?_)⟩
        exact h
      | row row args =>
        refine ⟨fun e => (by cases e), fun c cs _ => ?_⟩
        obtain ⟨v, w'', hr, hs⟩ := h c cs
        exact ⟨v, w'', hr, stepsIn_wide.2 hs⟩
      | _ => exact (h : False).elim
    | halt x w' =>
      cases x with
      | panic v => exact h
      | _ => exact (h : False).elim
   ·rename_i hw
    simp only [hw] at h
    exact ⟨fun _ _ => trivial, h⟩
end
end
end Go.Proofs.YtbelkhkllneifaaGreatDoor
