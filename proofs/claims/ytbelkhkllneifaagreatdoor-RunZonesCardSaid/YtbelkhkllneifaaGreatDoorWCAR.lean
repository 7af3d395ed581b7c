/-
  
  
  
  
  
  
-/
import Derived.Test.YtbelkhkllneifaaGreatDoorWCAQ
import Derived.Lib.QuietBelow
import Derived.BigQuiet
import Derived.Test.YtbelkhkllneifaaGreatDoorWCAK
import Derived.Test.YtbelkhkllneifaaGreatDoorWCAL
import Derived.Test.YtbelkhkllneifaaGreatDoorWCAJ
namespace Go.Proofs.YtbelkhkllneifaaGreatDoor
open Go.RowKit
theorem Rn.out_ways {s : List Kn.C} {L : List Dd.D} {b c : Int} (h : ¬ (0 ≤ b ∧ b < (Rn.nb L.length : Int) ∧ 0 ≤ c ∧ c < (s.length : Int))) :
 b < 0 ∨ (¬ b < 0 ∧ (Rn.nb L.length : Int) ≤ b) ∨ (¬ b < 0 ∧ ¬ (Rn.nb L.length : Int) ≤ b ∧ c < 0) ∨ (¬ b < 0 ∧ ¬ (Rn.nb L.length : Int) ≤ b ∧ ¬ c < 0 ∧ (s.length : Int) ≤ c) := by omega
set_option maxHeartbeats 4000000 in
set_option maxRecDepth 100000 in
theorem Rn.rzone_c (vs v : Value) (s : List Kn.C) (L : List Dd.D) (b c : Int) (w : World) (hs : Kn.Cols w vs s) (hv : Bk.Ds w v L) (hz : Bk.Zs L) (hr : Kn.right s = true) (hf : ∀ d ∈ L, Dd.fitE s d = 0) (hl : 0 < L.length) (h200 : L.length ≤ 1048576) :
 Calls Tryz.prog 28 #[vs, v, .int .i64 b, .int .i64 c] w fun e w' => e = .returned (Rn.zone s L b c).val ∧ Below w.heap.size w w' := by
 have HV := Lib.hid hv
 obtain ⟨va, vc, rfl, hlc, hcm, h⟩ := hv
 obtain ⟨sa, sc, rfl, -⟩ := hs
 rcases h with hn | ⟨b9, o9, rfl, hbl, -⟩
 ·rw [hn] at hl; simp at hl
 have HBK := Zn.Blk.new w Zn.z0
 have HB0 : Hid (Below w.heap.size w (w.alloc (.cells (Zn.cs Zn.z0) 68))) := Lib.hid ((Below.refl _ _).alloc (Nat.le_refl _) _)
 have CB := Lib.hid fun (wz : World) => Rn.rblocks_c b9 o9 L.length vc wz hl hlc h200
 have H6 := Lib.hid (Kn.right_len hr)
 unfold Zn.cs Zn.z0 Zn.zv at HBK HB0
 simp only at HBK HB0
 have HSZ : Hid ((w.alloc (.cells #[.bool false, .bool false, .bool false, .int .i64 0, .string ⟨#[]⟩, .bool false, .int .i64 0, .string ⟨#[]⟩] 68)).heap.size = w.heap.size + 1) := Lib.hid (World.size_alloc ..)
 have HB := Lib.hid HBK
 clear HBK hlc hcm hbl
 by_cases hin : 0 ≤ b ∧ b < (Rn.nb L.length : Int) ∧ 0 ≤ c ∧ c < (s.length : Int)
 ·obtain ⟨i, rfl⟩ := Int.eq_ofNat_of_zero_le hin.1
  obtain ⟨j, rfl⟩ := Int.eq_ofNat_of_zero_le hin.2.2.1
  have hi : i < Rn.nb L.length := by omega
  have hj : j < s.length := by omega
  rw [Rn.zone_in ⟨hi, hj⟩]
  have hcx := List.getElem?_eq_getElem hj
  have CC := Lib.hid fun (u : Value) (wz : World) (h : Bk.Ds wz u (Rn.bk L i)) => Bk.rcolumn_c u (Rn.bk L i) j (Rn.bk_some hi).2 (by have := H6.out.2; omega) (fun d hd => Bk.col_has hf hcx d (Rn.bk_mem hd)) wz h
  have CO := Lib.hid fun (u : Value) (wz : World) (h : Kn.Vals wz u (Bk.col (Rn.bk L i) j)) => Zn.rof_c u _ wz h (Rn.col_z hz)
  have HPT := Lib.hid fun (wz : World) (h : Bk.Ds wz (.slice (some ⟨b9, o9, none⟩) L.length vc) L) => Rn.ds_part h hi
  have hi0 : ¬ ((i : Nat) : Int) < 0 := by omega
  have hj0 : ¬ ((j : Nat) : Int) < 0 := by omega
  have hib : ¬ (Rn.nb L.length : Int) ≤ (i : Int) := by omega
  have hjb : ¬ (s.length : Int) ≤ (j : Int) := by omega
  have hi1 : (i : Int) < (Rn.nb L.length : Int) := by omega
  have hi2 : (0 : Int) ≤ (i : Int) := by omega
  generalize Zn.of (Bk.col (Rn.bk L i) j) = z at CO ⊢
  generalize Bk.col (Rn.bk L i) j = K at CC CO
  have HI := Lib.hid hi
  clear hin hcx hi hj hz hf hr hl h200
  go_enter Tryz.func28, Tryz.ntmps28
  go_wp2_with fail
  obtain ⟨q, hq⟩ : ∃ q, q = w.heap.size := ⟨_, rfl⟩
  rw [← hq] at HB ⊢
  have HQ := Lib.hid hq
  generalize w.alloc _ = w1 at HB HB0 HSZ ⊢
  have HQ1 : Hid (q < w1.heap.size) := Lib.hid (by have := HSZ.out; omega)
  clear hq HSZ
  with_reducible refine (CB.out w1).mono ?_
  rintro e w2 ⟨u2, rfl, hO2, g2⟩
  have HO2 := Lib.hid hO2
  have hf2 := hO2.form
  have hpl := Rn.parts_len b9 o9 L.length vc (Rn.nb L.length)
  have hpa := Rn.parts_at (b := b9) (o := o9) (n := L.length) (c := vc) HI.out
  generalize Rn.parts b9 o9 L.length vc (Rn.nb L.length) = P at hf2 hpl hpa HO2 hO2
  rw [hpl] at hf2
  have HB2 := Lib.hid (HB0.out.trans (g2.mono HB0.out.size))
  have HK2 := Lib.hid (Zn.Blk.kept HB.out g2)
  generalize Rn.nb L.length = nb at hf2 hib hi1 HI hpl ⊢
  obtain ⟨ub, uc, rfl⟩ : ∃ ub uc, u2 = .slice (some ⟨ub, 0, none⟩) nb uc := by
   rcases hf2 with ⟨_, h0⟩ | ⟨g, cc, h1, _⟩
   ·rw [h0] at hpl; simp at hpl; have := HI.out; omega
   ·exact ⟨g, cc, h1⟩
  have c0 := HO2.out.cell Bk.e1_len rfl hpa (j := 0) (by decide)
  rw [Nat.mul_one, Nat.add_zero] at c0
  simp only [Bk.e1, List.getElem?_cons_zero] at c0
  have hDP := HPT.out w2 (HV.out.later HB2.out)
  generalize Rn.part b9 o9 L.length vc i = pt at c0 hDP
  obtain ⟨p1, p2, p3⟩ := pt
  simp only [Bk.sv] at c0 hDP
  have cc := CC.out _ w2 hDP
  clear hO2 g2 hf2 hpl hpa hDP
  go_wp2_with fail
  with_reducible refine cc.mono ?_
  rintro e w3 ⟨u3, rfl, hu3, g3⟩
  have HB3 := Lib.hid (HB2.out.trans (g3.mono HB2.out.size))
  have HK3 := Lib.hid (Zn.Blk.kept HK2.out g3)
  have co := CO.out u3 w3 hu3
  obtain ⟨ua3, uc3, rfl, -⟩ := hu3
  clear cc g3 c0
  go_wp2_with fail
  with_reducible refine co.mono ?_
  rintro e w4 ⟨rfl, g4⟩
  have HB4 := Lib.hid (HB3.out.trans (g4.mono HB3.out.size))
  have HK4 := Lib.hid (Zn.Blk.kept HK3.out g4)
  obtain ⟨r0, r1, r2, r3, r4, r5, r6, r7⟩ := HK4.out.cells
  obtain ⟨f0, f1, f2, f3, f4, f5, f6, f7⟩ := HK4.out.frozens
  clear co g4
  obtain ⟨zn, zw, ⟨ln, li, ls⟩, ⟨hn, hi, hs⟩⟩ := z
  simp only at r0 r1 r2 r3 r4 r5 r6 r7
  go_wp2
  have HP := Lib.hid (Zn.put_below (q := q) HB4.out (by rw [HQ.out]; exact Nat.le_refl _) ⟨zn, zw, ⟨ln, li, ls⟩, ⟨hn, hi, hs⟩⟩)
  (try simp only [Exit.inBlock, Exit.then])
  refine bodyPost_ret (v := .agg #[.bool zn, .bool zw, .bool ln, .int .i64 li, .string ls, .bool hn, .int .i64 hi, .string hs]) ?_ rfl ⟨rfl, HP.out⟩
  rw [Zn.results_cell rfl]
  go_simp
 ·rw [Rn.zone_out hin]
  have hw := Rn.out_ways hin
  have hnl := Rn.parts_len b9 o9 L.length vc (Rn.nb L.length)
  clear hin hz hf hr h200
  have HNL := Lib.hid hnl
  have HLP : Hid (0 < Rn.nb L.length) := Lib.hid (by unfold Rn.nb; omega)
  clear hnl hl
  generalize Rn.parts b9 o9 L.length vc (Rn.nb L.length) = P at CB HNL
  generalize Rn.nb L.length = nb at hw HNL HLP
  unfold Zn.z0 Zn.zv
  rcases hw with h1 | ⟨h1, h2⟩ | ⟨h1, h2, h3⟩ | ⟨h1, h2, h3, h4⟩
  all_goals
   go_enter Tryz.func28, Tryz.ntmps28
   go_wp2_with fail
   obtain ⟨q, hq⟩ : ∃ q, q = w.heap.size := ⟨_, rfl⟩
   rw [← hq] at HB ⊢
   have HQ := Lib.hid hq
   generalize w.alloc _ = w1 at HB HB0 HSZ ⊢
   clear hq HSZ
   with_reducible refine (CB.out w1).mono ?_
   rintro e w2 ⟨u2, rfl, hO2, g2⟩
   have hf2 := hO2.form
   rw [HNL.out] at hf2
   have HB2 := Lib.hid (HB0.out.trans (g2.mono HB0.out.size))
   have HK2 := Lib.hid (Zn.Blk.kept HB.out g2)
   obtain ⟨ub, uc, rfl⟩ : ∃ ub uc, u2 = .slice (some ⟨ub, 0, none⟩) nb uc := by
    rcases hf2 with ⟨_, h0⟩ | ⟨g, cc, h1, _⟩
    ·have := HNL.out; rw [h0] at this; simp at this; have := HLP.out; omega
    ·exact ⟨g, cc, h1⟩
   obtain ⟨r0, r1, r2, r3, r4, r5, r6, r7⟩ := HK2.out.cells
   obtain ⟨f0, f1, f2, f3, f4, f5, f6, f7⟩ := HK2.out.frozens
   simp only at r0 r1 r2 r3 r4 r5 r6 r7
   clear hO2 g2 hf2
   go_wp2
   have HP := Lib.hid (Zn.put_below (q := q) HB2.out (by rw [HQ.out]; exact Nat.le_refl _) Zn.z0)
   (try simp only [Exit.inBlock, Exit.then])
   refine bodyPost_ret (v := .agg #[.bool false, .bool false, .bool false, .int .i64 0, .string ⟨#[]⟩, .bool false, .int .i64 0, .string ⟨#[]⟩]) ?_ rfl ⟨rfl, HP.out⟩
   rw [Zn.results_cell rfl]
   go_simp
end Go.Proofs.YtbelkhkllneifaaGreatDoor

namespace Go.Proofs.YtbelkhkllneifaaGreatDoor
open Go Go.RowKit
set_option maxHeartbeats 4000000 in
set_option maxRecDepth 100000 in
theorem Rn.zone_c {w : World} {p : Nat} {s : List Kn.C} {L : List Dd.D} (h : Rn.P w p s L) (b c : Int) :
 Calls Tryz.prog 27 #[.pointer (some ⟨p, 0, none⟩), .int .i64 b, .int .i64 c] w fun e w' => e = .returned (Rn.zone s L b c).val ∧ Below w.heap.size w w' := by
 have HP := Lib.hid h
 have HBK := Zn.Blk.new w Zn.z0
 have HB0 : Hid (Below w.heap.size w (w.alloc (.cells (Zn.cs Zn.z0) 68))) := Lib.hid ((Below.refl _ _).alloc (Nat.le_refl _) _)
 have CB := Lib.hid fun (wz : World) (g : Below w.heap.size w wz) => Rn.blocks_c (h.later g)
 unfold Zn.cs Zn.z0 Zn.zv at HBK HB0
 simp only at HBK HB0
 have HB := Lib.hid HBK
 clear HBK h
 obtain ⟨_, d, z, _, c1, _, zb, zc, rfl, hzb, hzz⟩ := HP.out
 have HZZ := Lib.hid hzz
 have C1 : Hid (∀ wz, Below w.heap.size w wz → wz.cell? ⟨p, 1, none⟩ = some (.slice (some ⟨zb, 0, none⟩) (Rn.nb L.length) zc)) := Lib.hid fun wz g => (g.cell (p := ⟨p, 1, none⟩) HP.out.lt).trans c1
 have C2 : Hid (∀ wz (k : Nat) u, Below w.heap.size w wz → w.cell? ⟨zb, k, none⟩ = some u → wz.cell? ⟨zb, k, none⟩ = some u) := Lib.hid fun wz k u g h => (g.cell (p := ⟨zb, k, none⟩) hzb).trans h
 clear hzz c1 hzb
 by_cases hin : 0 ≤ b ∧ b < (Rn.nb L.length : Int) ∧ 0 ≤ c ∧ c < (s.length : Int)
 ·obtain ⟨i, rfl⟩ := Int.eq_ofNat_of_zero_le hin.1
  obtain ⟨j, rfl⟩ := Int.eq_ofNat_of_zero_le hin.2.2.1
  have hi : i < Rn.nb L.length := by omega
  have hj : j < s.length := by omega
  obtain ⟨g, hg, hzr⟩ := HZZ.out i hi
  have C3 : Hid (∀ wz, Below w.heap.size w wz → Rn.ZR wz g s.length (fun j => Rn.zone s L i j)) := Lib.hid fun wz gb => hzr.kept (gb.block g hzr.lt)
  have HC := Lib.hid fun wz gb => (C3.out wz gb).cells hj
  have hi0 : ¬ ((i : Nat) : Int) < 0 := by omega
  have hj0 : ¬ ((j : Nat) : Int) < 0 := by omega
  have hib : ¬ (Rn.nb L.length : Int) ≤ (i : Int) := by omega
  have hjb : ¬ (s.length : Int) ≤ (j : Int) := by omega
  have hi1 : (i : Int) < (Rn.nb L.length : Int) := by omega
  have hi2 : (0 : Int) ≤ (i : Int) := by omega
  have hj1 : (j : Int) < (s.length : Int) := by omega
  have hj2 : (0 : Int) ≤ (j : Int) := by omega
  have HG := Lib.hid hg
  generalize Rn.zone s L (i : Int) (j : Int) = z at HC ⊢
  clear hin hi hj hzr hg C3
  go_enter Tryz.func27, Tryz.ntmps27
  go_upto_region 2 with (fail)
  obtain ⟨q, hq⟩ : ∃ q, q = w.heap.size := ⟨_, rfl⟩
  rw [← hq] at HB ⊢
  have HQ := Lib.hid hq
  generalize w.alloc _ = w1 at HB HB0 ⊢
  have d1 := C1.out w1 HB0.out
  have d2 := C2.out w1 i _ HB0.out HG.out
  have cb := CB.out w1 HB0.out
  clear hq
  obtain ⟨x0, x1, x2, x3, x4, x5, x6, x7⟩ := HC.out _ HB0.out
  obtain ⟨r0, r1, r2, r3, r4, r5, r6, r7⟩ := HB.out.cells
  obtain ⟨f0, f1, f2, f3, f4, f5, f6, f7⟩ := HB.out.frozens
  simp only at r0 r1 r2 r3 r4 r5 r6 r7
  obtain ⟨zn, zw, ⟨ln, li, ls⟩, ⟨hn, hi, hs⟩⟩ := z
  simp only at x0 x1 x2 x3 x4 x5 x6 x7
  go_wp2_with (go_at_call 26; (with_reducible refine cb.mono ?_); rintro e w2 ⟨rfl, hw2⟩; subst hw2)
  have HE := Lib.hid (Zn.put_below (q := q) HB0.out (by rw [HQ.out]; exact Nat.le_refl _) ⟨zn, zw, ⟨ln, li, ls⟩, ⟨hn, hi, hs⟩⟩)
  (try simp only [Exit.inBlock, Exit.then])
  refine bodyPost_ret (v := .agg #[.bool zn, .bool zw, .bool ln, .int .i64 li, .string ls, .bool hn, .int .i64 hi, .string hs]) ?_ rfl ⟨rfl, HE.out⟩
  rw [Zn.results_cell rfl]
  go_simp
 ·rw [Rn.zone_out hin]
  have hw := Rn.out_ways hin
  have HZ4 := Lib.hid fun (i : Nat) (h : i < Rn.nb L.length) => HZZ.out i h
  clear hin
  unfold Zn.z0 Zn.zv
  rcases hw with h1 | ⟨h1, h2⟩ | ⟨h1, h2, h3⟩ | ⟨h1, h2, h3, h4⟩
  ·go_enter Tryz.func27, Tryz.ntmps27
   obtain ⟨q, hq⟩ : ∃ q, q = w.heap.size := ⟨_, rfl⟩
   go_upto_region 2 with (fail)
   rw [← hq] at HB ⊢
   have HQ := Lib.hid hq
   generalize w.alloc _ = w1 at HB HB0 ⊢
   obtain ⟨r0, r1, r2, r3, r4, r5, r6, r7⟩ := HB.out.cells
   obtain ⟨f0, f1, f2, f3, f4, f5, f6, f7⟩ := HB.out.frozens
   simp only at r0 r1 r2 r3 r4 r5 r6 r7
   clear hq
   go_wp2
   have HE := Lib.hid (Zn.put_below (q := q) HB0.out (by rw [HQ.out]; exact Nat.le_refl _) Zn.z0)
   (try simp only [Exit.inBlock, Exit.then])
   refine bodyPost_ret (v := .agg #[.bool false, .bool false, .bool false, .int .i64 0, .string ⟨#[]⟩, .bool false, .int .i64 0, .string ⟨#[]⟩]) ?_ rfl ⟨rfl, HE.out⟩
   rw [Zn.results_cell rfl]
   go_simp
  ·go_enter Tryz.func27, Tryz.ntmps27
   obtain ⟨q, hq⟩ : ∃ q, q = w.heap.size := ⟨_, rfl⟩
   go_upto_region 2 with (fail)
   rw [← hq] at HB ⊢
   have HQ := Lib.hid hq
   generalize w.alloc _ = w1 at HB HB0 ⊢
   obtain ⟨r0, r1, r2, r3, r4, r5, r6, r7⟩ := HB.out.cells
   obtain ⟨f0, f1, f2, f3, f4, f5, f6, f7⟩ := HB.out.frozens
   simp only at r0 r1 r2 r3 r4 r5 r6 r7
   have cb := CB.out w1 HB0.out
   clear hq
   go_wp2_with (go_at_call 26; (with_reducible refine cb.mono ?_); rintro e w2 ⟨rfl, hw2⟩; subst hw2)
   have HE := Lib.hid (Zn.put_below (q := q) HB0.out (by rw [HQ.out]; exact Nat.le_refl _) Zn.z0)
   (try simp only [Exit.inBlock, Exit.then])
   refine bodyPost_ret (v := .agg #[.bool false, .bool false, .bool false, .int .i64 0, .string ⟨#[]⟩, .bool false, .int .i64 0, .string ⟨#[]⟩]) ?_ rfl ⟨rfl, HE.out⟩
   rw [Zn.results_cell rfl]
   go_simp
  ·go_enter Tryz.func27, Tryz.ntmps27
   obtain ⟨q, hq⟩ : ∃ q, q = w.heap.size := ⟨_, rfl⟩
   go_upto_region 2 with (fail)
   rw [← hq] at HB ⊢
   have HQ := Lib.hid hq
   generalize w.alloc _ = w1 at HB HB0 ⊢
   obtain ⟨r0, r1, r2, r3, r4, r5, r6, r7⟩ := HB.out.cells
   obtain ⟨f0, f1, f2, f3, f4, f5, f6, f7⟩ := HB.out.frozens
   simp only at r0 r1 r2 r3 r4 r5 r6 r7
   have cb := CB.out w1 HB0.out
   clear hq
   go_wp2_with (go_at_call 26; (with_reducible refine cb.mono ?_); rintro e w2 ⟨rfl, hw2⟩; subst hw2)
   have HE := Lib.hid (Zn.put_below (q := q) HB0.out (by rw [HQ.out]; exact Nat.le_refl _) Zn.z0)
   (try simp only [Exit.inBlock, Exit.then])
   refine bodyPost_ret (v := .agg #[.bool false, .bool false, .bool false, .int .i64 0, .string ⟨#[]⟩, .bool false, .int .i64 0, .string ⟨#[]⟩]) ?_ rfl ⟨rfl, HE.out⟩
   rw [Zn.results_cell rfl]
   go_simp
  ·obtain ⟨i, rfl⟩ := Int.eq_ofNat_of_zero_le (show 0 ≤ b by omega)
   obtain ⟨g, hg, -⟩ := HZ4.out i (by omega)
   have hi1 : (i : Int) < (Rn.nb L.length : Int) := by omega
   have hi2 : (0 : Int) ≤ (i : Int) := by omega
   have HG := Lib.hid hg
   clear hg
   go_enter Tryz.func27, Tryz.ntmps27
   obtain ⟨q, hq⟩ : ∃ q, q = w.heap.size := ⟨_, rfl⟩
   go_upto_region 2 with (fail)
   rw [← hq] at HB ⊢
   have HQ := Lib.hid hq
   generalize w.alloc _ = w1 at HB HB0 ⊢
   obtain ⟨r0, r1, r2, r3, r4, r5, r6, r7⟩ := HB.out.cells
   obtain ⟨f0, f1, f2, f3, f4, f5, f6, f7⟩ := HB.out.frozens
   simp only at r0 r1 r2 r3 r4 r5 r6 r7
   have d1 := C1.out w1 HB0.out
   have d2 := C2.out w1 i _ HB0.out HG.out
   have cb := CB.out w1 HB0.out
   clear hq
   go_wp2_with (go_at_call 26; (with_reducible refine cb.mono ?_); rintro e w2 ⟨rfl, hw2⟩; subst hw2)
   have HE := Lib.hid (Zn.put_below (q := q) HB0.out (by rw [HQ.out]; exact Nat.le_refl _) Zn.z0)
   (try simp only [Exit.inBlock, Exit.then])
   refine bodyPost_ret (v := .agg #[.bool false, .bool false, .bool false, .int .i64 0, .string ⟨#[]⟩, .bool false, .int .i64 0, .string ⟨#[]⟩]) ?_ rfl ⟨rfl, HE.out⟩
   rw [Zn.results_cell rfl]
   go_simp
end Go.Proofs.YtbelkhkllneifaaGreatDoor

namespace Go.Proofs.YtbelkhkllneifaaGreatDoor
open Go.RowKit
end Go.Proofs.YtbelkhkllneifaaGreatDoor

namespace Go.Proofs.YtbelkhkllneifaaGreatDoor
open Go.RowKit
end Go.Proofs.YtbelkhkllneifaaGreatDoor

namespace Go.Proofs.YtbelkhkllneifaaGreatDoor
open Go Go.RowKit
def Rn.PartOf (w : World) (L : List Dd.D) (i : Nat) (e : Ending) (w' : World) : Prop := ∃ x, e = .returned (Bk.sv x) ∧ Bk.Ds w' (Bk.sv x) (Rn.bk L i) ∧ Below w.heap.size w w'
end Go.Proofs.YtbelkhkllneifaaGreatDoor

namespace Go.Proofs.YtbelkhkllneifaaGreatDoor
open Go.RowKit
structure Sk.Off (S : Nat → Prop) (w w' : World) : Prop where
 os : w'.os = w.os
 tape : w'.tape = w.tape
 output : w'.output = w.output
 size : w.heap.size ≤ w'.heap.size
 block : ∀ k, k < w.heap.size → ¬ S k → w'.heap[k]? = w.heap[k]?
def Sk.More (S : Nat → Prop) (w w' : World) (b : Nat) : Prop := S b ∨ (w.heap.size ≤ b ∧ b < w'.heap.size)
theorem Sk.Off.refl (S : Nat → Prop) (w : World) : Sk.Off S w w := ⟨rfl, rfl, rfl, Nat.le_refl _, fun _ _ _ => rfl⟩
theorem Sk.Off.below {S : Nat → Prop} {w w' : World} (h : Sk.Off S w w') {B : Nat} (hB : B ≤ w.heap.size) (hS : ∀ b, S b → B ≤ b) : Below B w w' :=
 ⟨h.os, h.tape, h.output, h.size, fun k hk => h.block k (by omega) (fun hs => by have := hS k hs; omega)⟩
theorem Sk.Off.same {S : Nat → Prop} {w w1 w2 : World} (h : Sk.Off S w w1) (g : Sk.Off S w1 w2) : Sk.Off S w w2 :=
 ⟨g.os.trans h.os, g.tape.trans h.tape, g.output.trans h.output, Nat.le_trans h.size g.size, fun k hk hn => (g.block k (Nat.lt_of_lt_of_le hk h.size) hn).trans (h.block k hk hn)⟩
def Sk.Row (B : Nat) (w : World) (v : Value) (l : List Kn.V) : Prop := ∃ a c, v = .slice a l.length c ∧ l.length ≤ 9223372036854775807 ∧ (∀ x ∈ l, Kn.Z x) ∧ (l = [] ∨ ∃ b o, a = some ⟨b, o, none⟩ ∧ b < B ∧ b < w.heap.size ∧ ∀ i x, l[i]? = some x → Kn.At w b (o + i * 3) x)
theorem Sk.At_below {B : Nat} {w w' : World} {b o : Nat} {v : Kn.V} (h : Kn.At w b o v) (hb : b < B) (g : Below B w w') : Kn.At w' b o v :=
 ⟨(g.cell (p := ⟨b, o, none⟩) hb).trans h.c0, (g.cell (p := ⟨b, o + 1, none⟩) hb).trans h.c1, (g.cell (p := ⟨b, o + 2, none⟩) hb).trans h.c2⟩
theorem Sk.Row.below {B : Nat} {w w' : World} {v : Value} {l : List Kn.V} (h : Sk.Row B w v l) (g : Below B w w') : Sk.Row B w' v l := by
 obtain ⟨a, c, hv, hm, hz, h⟩ := h
 refine ⟨a, c, hv, hm, hz, ?_⟩
 rcases h with h | ⟨b, o, ha, hb, hl, h⟩
 ·exact .inl h
 ·exact .inr ⟨b, o, ha, hb, Nat.lt_of_lt_of_le hl g.size, fun i x hx => Sk.At_below (h i x hx) hb g⟩
theorem Sk.Row.vals {B : Nat} {w : World} {v : Value} {l : List Kn.V} (h : Sk.Row B w v l) : Kn.Vals w v l := by
 obtain ⟨a, c, hv, hm, _, h⟩ := h
 refine ⟨a, c, hv, ?_⟩
 rcases h with h | ⟨b, o, ha, _, hl, h⟩
 ·exact .inl h
 ·exact .inr ⟨b, o, ha, hl, hm, h⟩
structure Sk.E where
 gone : Bool
 rv : Value
 row : List Kn.V
def Sk.E.enc (x : Sk.E) : List Value := [.bool x.gone, x.rv]
def Sk.E.d (x : Sk.E) : Dd.D := ⟨x.gone, x.row⟩
def Sk.kd (d : Dd.D) : Kn.V := d.row.headD ⟨true, 0, ⟨#[]⟩⟩
def Sk.ke (x : Sk.E) : Kn.V := Sk.kd x.d
structure Sk.Cell (w : World) (g i : Nat) (x : Sk.E) (rb ro rn rc : Nat) : Prop where
 c : w.cell? ⟨g, i * 2 + 1, none⟩ = some (.slice (some ⟨rb, ro, none⟩) rn rc)
 c0 : w.cell? ⟨g, i * 2, none⟩ = some (.bool x.gone)
 k : Kn.At w rb ro (Sk.ke x)
 pos : 0 < rn
 rv : x.rv = .slice (some ⟨rb, ro, none⟩) rn rc
end Go.Proofs.YtbelkhkllneifaaGreatDoor
