import Derived.Test.YtodeodndjkkkbaaTAP
import Derived.Lib.QuietBelow
import Derived.Test.YtodeodndjkkkbaaTAO
namespace Go.Proofs.Ytodeodndjkkkbaa
section
open Go Go.RowKit Go.Lib Go.Sort
end
section
open Go Go.RowKit Go.Lib Go.Sort
structure Lv.W3 (w : World) (a b : Mf.P) (W : World) : Prop where
 one : W.heap[w.heap.size]? = some (.cells (Mf.cs a) 38 (0, 0))
 two : W.heap[w.heap.size + 1]? = some (.cells (Mf.cs b) 38 (0, 0))
 res : W.heap[w.heap.size + 1 + 1]? = some (.cells (Mf.cs ⟨0, 0, ⟨false, 0, ⟨#[]⟩⟩, ⟨false, 0, ⟨#[]⟩⟩⟩) 38 (0, 0))
 bel : Below w.heap.size w W
theorem Lv.W3.start (w : World) (a b : Mf.P) : Lv.W3 w a b (((w.alloc (.cells (Mf.cs a) 38)).alloc (.cells (Mf.cs b) 38)).alloc (.cells (Mf.cs ⟨0, 0, ⟨false, 0, ⟨#[]⟩⟩, ⟨false, 0, ⟨#[]⟩⟩⟩) 38)) := by
 have e1 : (w.alloc (.cells (Mf.cs a) 38)).heap.size = w.heap.size + 1 := World.size_alloc _ _
 have e2 : ((w.alloc (.cells (Mf.cs a) 38)).alloc (.cells (Mf.cs b) 38)).heap.size = w.heap.size + 1 + 1 := by rw [World.size_alloc, e1]
 have b2 := heap_alloc_new (w.alloc (.cells (Mf.cs a) 38)) (.cells (Mf.cs b) 38)
 have b3 := heap_alloc_new ((w.alloc (.cells (Mf.cs a) 38)).alloc (.cells (Mf.cs b) 38)) (.cells (Mf.cs ⟨0, 0, ⟨false, 0, ⟨#[]⟩⟩, ⟨false, 0, ⟨#[]⟩⟩⟩) 38)
 rw [e1] at b2
 rw [e2] at b3
 refine ⟨?_, ?_, b3, (((Below.refl _ w).alloc (Nat.le_refl _) _).alloc (by simp) _).alloc (by simp; omega) _⟩
 ·exact (((Below.refl _ _).alloc (Nat.le_refl _) _).block _ (by rw [e2]; omega)).trans ((((Below.refl _ _).alloc (Nat.le_refl _) _).block _ (by rw [e1]; omega)).trans (heap_alloc_new w _))
 ·exact (((Below.refl _ _).alloc (Nat.le_refl _) _).block _ (by rw [e2]; omega)).trans b2
theorem Lv.W3.kept {w W W' : World} {a b : Mf.P} (h : Lv.W3 w a b W) (g : Below W.heap.size W W') : Lv.W3 w a b W' :=
 ⟨(g.block _ (lt_of_block h.one)).trans h.one, (g.block _ (lt_of_block h.two)).trans h.two, (g.block _ (lt_of_block h.res)).trans h.res, h.bel.trans (g.mono h.bel.size)⟩
theorem Lv.heap3 {W : World} {p : Nat} (i j k : Nat) (x y z : Value) {q : Nat} (h : q ≠ p) : (((W.setCell ⟨p, i, none⟩ x).setCell ⟨p, j, none⟩ y).setCell ⟨p, k, none⟩ z).heap[q]? = W.heap[q]? :=
 (Below.heap_setCell _ _ _ _ (by show q ≠ p; exact h)).trans ((Below.heap_setCell _ _ _ _ (by show q ≠ p; exact h)).trans (Below.heap_setCell _ _ _ _ (by show q ≠ p; exact h)))
theorem Lv.below3 {B p : Nat} {w W : World} (h : Below B w W) (hp : B ≤ p) (i j k : Nat) (x y z : Value) : Below B w (((W.setCell ⟨p, i, none⟩ x).setCell ⟨p, j, none⟩ y).setCell ⟨p, k, none⟩ z) :=
 Mf.below1 (Mf.below1 (Mf.below1 h hp _ _) hp _ _) hp _ _
theorem Lv.W3.lo {w W : World} {a b : Mf.P} (h : Lv.W3 w a b W) (u : Kn.V) : Lv.W3 w ⟨a.id, a.lv, u, a.hi⟩ b (((W.setCell ⟨w.heap.size, 2, none⟩ (.bool u.null)).setCell ⟨w.heap.size, 3, none⟩ (.int .i64 u.n)).setCell ⟨w.heap.size, 4, none⟩ (.string u.s)) :=
 ⟨heap_setCell_same _ _ 4 _ _ _ (heap_setCell_same _ _ 3 _ _ _ (heap_setCell_same _ _ 2 _ _ _ h.one)), (Lv.heap3 _ _ _ _ _ _ (by omega)).trans h.two, (Lv.heap3 _ _ _ _ _ _ (by omega)).trans h.res, Lv.below3 h.bel (Nat.le_refl _) _ _ _ _ _ _⟩
theorem Lv.W3.hi {w W : World} {a b : Mf.P} (h : Lv.W3 w a b W) (u : Kn.V) : Lv.W3 w ⟨a.id, a.lv, a.lo, u⟩ b (((W.setCell ⟨w.heap.size, 5, none⟩ (.bool u.null)).setCell ⟨w.heap.size, 6, none⟩ (.int .i64 u.n)).setCell ⟨w.heap.size, 7, none⟩ (.string u.s)) :=
 ⟨heap_setCell_same _ _ 7 _ _ _ (heap_setCell_same _ _ 6 _ _ _ (heap_setCell_same _ _ 5 _ _ _ h.one)), (Lv.heap3 _ _ _ _ _ _ (by omega)).trans h.two, (Lv.heap3 _ _ _ _ _ _ (by omega)).trans h.res, Lv.below3 h.bel (Nat.le_refl _) _ _ _ _ _ _⟩
set_option maxHeartbeats 1000000 in
set_option maxRecDepth 100000 in
theorem Lv.wider_c (a b : Mf.P) (ha : Lv.Zp a) (hb : Lv.Zp b) (w : World) : Calls Try.prog 26 #[.agg (Mf.cs a), .agg (Mf.cs b)] w fun e w' => e = .returned (.agg (Mf.cs (Lv.wr_ a b))) ∧ Below w.heap.size w w' := by
 have HST := Lib.hid (Lv.W3.start w a b)
 have cL := fun W => Kn.rAhead_c b.lo a.lo hb.1 ha.1 W
 have cU := fun W => Kn.rAhead_c a.hi b.hi ha.2 hb.2 W
 clear ha hb
 obtain ⟨ai, al, ⟨aln, ali, als⟩, ⟨ahn, ahi, ahs⟩⟩ := a
 obtain ⟨bi, bl, ⟨bln, bli, bls⟩, ⟨bhn, bhi, bhs⟩⟩ := b
 unfold Kn.V.val at cL cU
 simp only at cL cU
 simp only [Mf.cs] at HST
 have HCL : Hid (∀ w, _) := Lib.hid cL
 have HCU : Hid (∀ w, _) := Lib.hid cU
 clear cL cU
 generalize hX : Kn.cmp ⟨bln, bli, bls⟩ ⟨aln, ali, als⟩ = Xx at HCL
 generalize hY : Kn.cmp ⟨ahn, ahi, ahs⟩ ⟨bhn, bhi, bhs⟩ = Y at HCU
 have HXE := Lib.hid hX
 have HYE := Lib.hid hY
 clear hX hY
 go_enter Try.func26, Try.ntmps26
 go_upto_region 1 with (fail)
 generalize hwo : World.alloc _ _ = wo at HST ⊢
 clear hwo
 obtain ⟨⟨x0, x1, x2, x3, x4, x5, x6, x7⟩, hfx⟩ := Lv.eight HST.out.one
 obtain ⟨⟨y0, y1, y2, y3, y4, y5, y6, y7⟩, hfy⟩ := Lv.eight HST.out.two
 have f0 := hfx 0 (by decide)
 have f1 := hfx 1 (by decide)
 have f2 := hfx 2 (by decide)
 have f3 := hfx 3 (by decide)
 have f4 := hfx 4 (by decide)
 have f5 := hfx 5 (by decide)
 have f6 := hfx 6 (by decide)
 have f7 := hfx 7 (by decide)
 simp only [Nat.zero_add] at x0 x1 x2 x3 x4 x5 x6 x7 y0 y1 y2 y3 y4 y5 y6 y7
 clear hfx hfy
 go_wp2_with fail
 with_reducible refine (HCL.out _).mono ?_
 rintro e w1 ⟨rfl, g1⟩
 have HS1 := Lib.hid (HST.out.kept g1)
 clear x0 x1 x2 x3 x4 x5 x6 x7 y0 y1 y2 y3 y4 y5 y6 y7 f0 f1 f2 f3 f4 f5 f6 f7
 clear g1
 obtain ⟨⟨x0, x1, x2, x3, x4, x5, x6, x7⟩, hfx⟩ := Lv.eight HS1.out.one
 obtain ⟨⟨y0, y1, y2, y3, y4, y5, y6, y7⟩, hfy⟩ := Lv.eight HS1.out.two
 have f0 := hfx 0 (by decide)
 have f1 := hfx 1 (by decide)
 have f2 := hfx 2 (by decide)
 have f3 := hfx 3 (by decide)
 have f4 := hfx 4 (by decide)
 have f5 := hfx 5 (by decide)
 have f6 := hfx 6 (by decide)
 have f7 := hfx 7 (by decide)
 simp only [Nat.zero_add] at x0 x1 x2 x3 x4 x5 x6 x7 y0 y1 y2 y3 y4 y5 y6 y7
 clear hfx hfy
 by_cases hX : Xx < 0
 ·have HXX := Lib.hid hX
  go_upto_region 3 with (fail)
  have HS2 : Hid (Lv.W3 w ⟨ai, al, ⟨bln, bli, bls⟩, ⟨ahn, ahi, ahs⟩⟩ ⟨bi, bl, ⟨bln, bli, bls⟩, ⟨bhn, bhi, bhs⟩⟩ _) := Lib.hid (HS1.out.lo ⟨bln, bli, bls⟩)
  clear x0 x1 x2 x3 x4 x5 x6 x7 y0 y1 y2 y3 y4 y5 y6 y7 f0 f1 f2 f3 f4 f5 f6 f7
  generalize hw2 : World.setCell _ _ _ = w2 at HS2 ⊢
  clear hw2
  clear hX
  obtain ⟨⟨x0, x1, x2, x3, x4, x5, x6, x7⟩, hfx⟩ := Lv.eight HS2.out.one
  obtain ⟨⟨y0, y1, y2, y3, y4, y5, y6, y7⟩, hfy⟩ := Lv.eight HS2.out.two
  have f0 := hfx 0 (by decide)
  have f1 := hfx 1 (by decide)
  have f2 := hfx 2 (by decide)
  have f3 := hfx 3 (by decide)
  have f4 := hfx 4 (by decide)
  have f5 := hfx 5 (by decide)
  have f6 := hfx 6 (by decide)
  have f7 := hfx 7 (by decide)
  simp only [Nat.zero_add] at x0 x1 x2 x3 x4 x5 x6 x7 y0 y1 y2 y3 y4 y5 y6 y7
  clear hfx hfy
  go_wp2_with fail
  with_reducible refine (HCU.out _).mono ?_
  rintro e w4 ⟨rfl, g1⟩
  have HS4 := Lib.hid (HS2.out.kept g1)
  clear x0 x1 x2 x3 x4 x5 x6 x7 y0 y1 y2 y3 y4 y5 y6 y7 f0 f1 f2 f3 f4 f5 f6 f7
  clear g1
  obtain ⟨⟨x0, x1, x2, x3, x4, x5, x6, x7⟩, hfx⟩ := Lv.eight HS4.out.one
  obtain ⟨⟨y0, y1, y2, y3, y4, y5, y6, y7⟩, hfy⟩ := Lv.eight HS4.out.two
  have f0 := hfx 0 (by decide)
  have f1 := hfx 1 (by decide)
  have f2 := hfx 2 (by decide)
  have f3 := hfx 3 (by decide)
  have f4 := hfx 4 (by decide)
  have f5 := hfx 5 (by decide)
  have f6 := hfx 6 (by decide)
  have f7 := hfx 7 (by decide)
  simp only [Nat.zero_add] at x0 x1 x2 x3 x4 x5 x6 x7 y0 y1 y2 y3 y4 y5 y6 y7
  clear hfx hfy
  by_cases hY : Y < 0
  ·have HYY := Lib.hid hY
   go_upto_region 5 with (fail)
   have HS5 : Hid (Lv.W3 w ⟨ai, al, ⟨bln, bli, bls⟩, ⟨bhn, bhi, bhs⟩⟩ ⟨bi, bl, ⟨bln, bli, bls⟩, ⟨bhn, bhi, bhs⟩⟩ _) := Lib.hid (HS4.out.hi ⟨bhn, bhi, bhs⟩)
   clear x0 x1 x2 x3 x4 x5 x6 x7 y0 y1 y2 y3 y4 y5 y6 y7 f0 f1 f2 f3 f4 f5 f6 f7
   generalize hw2 : World.setCell _ _ _ = w5 at HS5 ⊢
   clear hw2
   clear hY
   obtain ⟨⟨x0, x1, x2, x3, x4, x5, x6, x7⟩, hfx⟩ := Lv.eight HS5.out.one
   obtain ⟨⟨y0, y1, y2, y3, y4, y5, y6, y7⟩, hfy⟩ := Lv.eight HS5.out.two
   have f0 := hfx 0 (by decide)
   have f1 := hfx 1 (by decide)
   have f2 := hfx 2 (by decide)
   have f3 := hfx 3 (by decide)
   have f4 := hfx 4 (by decide)
   have f5 := hfx 5 (by decide)
   have f6 := hfx 6 (by decide)
   have f7 := hfx 7 (by decide)
   simp only [Nat.zero_add] at x0 x1 x2 x3 x4 x5 x6 x7 y0 y1 y2 y3 y4 y5 y6 y7
   clear hfx hfy
   obtain ⟨⟨r0, r1, r2, r3, r4, r5, r6, r7⟩, hfr⟩ := Lv.eight HS5.out.res
   have h0 := hfr 0 (by decide)
   have h1 := hfr 1 (by decide)
   have h2 := hfr 2 (by decide)
   have h3 := hfr 3 (by decide)
   have h4 := hfr 4 (by decide)
   have h5 := hfr 5 (by decide)
   have h6 := hfr 6 (by decide)
   have h7 := hfr 7 (by decide)
   simp only [Nat.zero_add] at r0 r1 r2 r3 r4 r5 r6 r7
   clear hfr
   have HP := Lib.hid (Lv.set8_below HS5.out.bel (q := w.heap.size + 1 + 1) (by omega) ⟨ai, al, ⟨bln, bli, bls⟩, ⟨bhn, bhi, bhs⟩⟩)
   go_wp2
   (try simp only [Exit.inBlock, Exit.then])
   refine bodyPost_ret (v := .agg #[.int .i64 ai, .int .i64 al, .bool bln, .int .i64 bli, .string bls, .bool bhn, .int .i64 bhi, .string bhs]) ?_ rfl ⟨by unfold Lv.wr_; simp only [Mf.cs]; rw [if_pos (show Kn.cmp ⟨bln, bli, bls⟩ ⟨aln, ali, als⟩ < 0 by rw [HXE.out]; exact HXX.out), if_pos (show Kn.cmp ⟨ahn, ahi, ahs⟩ ⟨bhn, bhi, bhs⟩ < 0 by rw [HYE.out]; exact HYY.out)], HP.out⟩
   rw [Zn.results_cell rfl]
   go_simp
  ·have HYY := Lib.hid hY
   go_upto_region 5 with (fail)
   clear hY
   have HS5 := HS4
   clear x0 x1 x2 x3 x4 x5 x6 x7 y0 y1 y2 y3 y4 y5 y6 y7 f0 f1 f2 f3 f4 f5 f6 f7
   obtain ⟨⟨x0, x1, x2, x3, x4, x5, x6, x7⟩, hfx⟩ := Lv.eight HS5.out.one
   obtain ⟨⟨y0, y1, y2, y3, y4, y5, y6, y7⟩, hfy⟩ := Lv.eight HS5.out.two
   have f0 := hfx 0 (by decide)
   have f1 := hfx 1 (by decide)
   have f2 := hfx 2 (by decide)
   have f3 := hfx 3 (by decide)
   have f4 := hfx 4 (by decide)
   have f5 := hfx 5 (by decide)
   have f6 := hfx 6 (by decide)
   have f7 := hfx 7 (by decide)
   simp only [Nat.zero_add] at x0 x1 x2 x3 x4 x5 x6 x7 y0 y1 y2 y3 y4 y5 y6 y7
   clear hfx hfy
   obtain ⟨⟨r0, r1, r2, r3, r4, r5, r6, r7⟩, hfr⟩ := Lv.eight HS5.out.res
   have h0 := hfr 0 (by decide)
   have h1 := hfr 1 (by decide)
   have h2 := hfr 2 (by decide)
   have h3 := hfr 3 (by decide)
   have h4 := hfr 4 (by decide)
   have h5 := hfr 5 (by decide)
   have h6 := hfr 6 (by decide)
   have h7 := hfr 7 (by decide)
   simp only [Nat.zero_add] at r0 r1 r2 r3 r4 r5 r6 r7
   clear hfr
   have HP := Lib.hid (Lv.set8_below HS5.out.bel (q := w.heap.size + 1 + 1) (by omega) ⟨ai, al, ⟨bln, bli, bls⟩, ⟨ahn, ahi, ahs⟩⟩)
   go_wp2
   (try simp only [Exit.inBlock, Exit.then])
   refine bodyPost_ret (v := .agg #[.int .i64 ai, .int .i64 al, .bool bln, .int .i64 bli, .string bls, .bool ahn, .int .i64 ahi, .string ahs]) ?_ rfl ⟨by unfold Lv.wr_; simp only [Mf.cs]; rw [if_pos (show Kn.cmp ⟨bln, bli, bls⟩ ⟨aln, ali, als⟩ < 0 by rw [HXE.out]; exact HXX.out), if_neg (show ¬ Kn.cmp ⟨ahn, ahi, ahs⟩ ⟨bhn, bhi, bhs⟩ < 0 by rw [HYE.out]; have := HYY.out; omega)], HP.out⟩
   rw [Zn.results_cell rfl]
   go_simp
 ·have HXX := Lib.hid hX
  go_upto_region 3 with (fail)
  clear hX
  have HS2 := HS1
  clear x0 x1 x2 x3 x4 x5 x6 x7 y0 y1 y2 y3 y4 y5 y6 y7 f0 f1 f2 f3 f4 f5 f6 f7
  obtain ⟨⟨x0, x1, x2, x3, x4, x5, x6, x7⟩, hfx⟩ := Lv.eight HS2.out.one
  obtain ⟨⟨y0, y1, y2, y3, y4, y5, y6, y7⟩, hfy⟩ := Lv.eight HS2.out.two
  have f0 := hfx 0 (by decide)
  have f1 := hfx 1 (by decide)
  have f2 := hfx 2 (by decide)
  have f3 := hfx 3 (by decide)
  have f4 := hfx 4 (by decide)
  have f5 := hfx 5 (by decide)
  have f6 := hfx 6 (by decide)
  have f7 := hfx 7 (by decide)
  simp only [Nat.zero_add] at x0 x1 x2 x3 x4 x5 x6 x7 y0 y1 y2 y3 y4 y5 y6 y7
  clear hfx hfy
  go_wp2_with fail
  with_reducible refine (HCU.out _).mono ?_
  rintro e w4 ⟨rfl, g1⟩
  have HS4 := Lib.hid (HS2.out.kept g1)
  clear x0 x1 x2 x3 x4 x5 x6 x7 y0 y1 y2 y3 y4 y5 y6 y7 f0 f1 f2 f3 f4 f5 f6 f7
  clear g1
  obtain ⟨⟨x0, x1, x2, x3, x4, x5, x6, x7⟩, hfx⟩ := Lv.eight HS4.out.one
  obtain ⟨⟨y0, y1, y2, y3, y4, y5, y6, y7⟩, hfy⟩ := Lv.eight HS4.out.two
  have f0 := hfx 0 (by decide)
  have f1 := hfx 1 (by decide)
  have f2 := hfx 2 (by decide)
  have f3 := hfx 3 (by decide)
  have f4 := hfx 4 (by decide)
  have f5 := hfx 5 (by decide)
  have f6 := hfx 6 (by decide)
  have f7 := hfx 7 (by decide)
  simp only [Nat.zero_add] at x0 x1 x2 x3 x4 x5 x6 x7 y0 y1 y2 y3 y4 y5 y6 y7
  clear hfx hfy
  by_cases hY : Y < 0
  ·have HYY := Lib.hid hY
   go_upto_region 5 with (fail)
   have HS5 : Hid (Lv.W3 w ⟨ai, al, ⟨aln, ali, als⟩, ⟨bhn, bhi, bhs⟩⟩ ⟨bi, bl, ⟨bln, bli, bls⟩, ⟨bhn, bhi, bhs⟩⟩ _) := Lib.hid (HS4.out.hi ⟨bhn, bhi, bhs⟩)
   clear x0 x1 x2 x3 x4 x5 x6 x7 y0 y1 y2 y3 y4 y5 y6 y7 f0 f1 f2 f3 f4 f5 f6 f7
   generalize hw2 : World.setCell _ _ _ = w5 at HS5 ⊢
   clear hw2
   clear hY
   obtain ⟨⟨x0, x1, x2, x3, x4, x5, x6, x7⟩, hfx⟩ := Lv.eight HS5.out.one
   obtain ⟨⟨y0, y1, y2, y3, y4, y5, y6, y7⟩, hfy⟩ := Lv.eight HS5.out.two
   have f0 := hfx 0 (by decide)
   have f1 := hfx 1 (by decide)
   have f2 := hfx 2 (by decide)
   have f3 := hfx 3 (by decide)
   have f4 := hfx 4 (by decide)
   have f5 := hfx 5 (by decide)
   have f6 := hfx 6 (by decide)
   have f7 := hfx 7 (by decide)
   simp only [Nat.zero_add] at x0 x1 x2 x3 x4 x5 x6 x7 y0 y1 y2 y3 y4 y5 y6 y7
   clear hfx hfy
   obtain ⟨⟨r0, r1, r2, r3, r4, r5, r6, r7⟩, hfr⟩ := Lv.eight HS5.out.res
   have h0 := hfr 0 (by decide)
   have h1 := hfr 1 (by decide)
   have h2 := hfr 2 (by decide)
   have h3 := hfr 3 (by decide)
   have h4 := hfr 4 (by decide)
   have h5 := hfr 5 (by decide)
   have h6 := hfr 6 (by decide)
   have h7 := hfr 7 (by decide)
   simp only [Nat.zero_add] at r0 r1 r2 r3 r4 r5 r6 r7
   clear hfr
   have HP := Lib.hid (Lv.set8_below HS5.out.bel (q := w.heap.size + 1 + 1) (by omega) ⟨ai, al, ⟨aln, ali, als⟩, ⟨bhn, bhi, bhs⟩⟩)
   go_wp2
   (try simp only [Exit.inBlock, Exit.then])
   refine bodyPost_ret (v := .agg #[.int .i64 ai, .int .i64 al, .bool aln, .int .i64 ali, .string als, .bool bhn, .int .i64 bhi, .string bhs]) ?_ rfl ⟨by unfold Lv.wr_; simp only [Mf.cs]; rw [if_neg (show ¬ Kn.cmp ⟨bln, bli, bls⟩ ⟨aln, ali, als⟩ < 0 by rw [HXE.out]; have := HXX.out; omega), if_pos (show Kn.cmp ⟨ahn, ahi, ahs⟩ ⟨bhn, bhi, bhs⟩ < 0 by rw [HYE.out]; exact HYY.out)], HP.out⟩
   rw [Zn.results_cell rfl]
   go_simp
  ·have HYY := Lib.hid hY
   go_upto_region 5 with (fail)
   clear hY
   have HS5 := HS4
   clear x0 x1 x2 x3 x4 x5 x6 x7 y0 y1 y2 y3 y4 y5 y6 y7 f0 f1 f2 f3 f4 f5 f6 f7
   obtain ⟨⟨x0, x1, x2, x3, x4, x5, x6, x7⟩, hfx⟩ := Lv.eight HS5.out.one
   obtain ⟨⟨y0, y1, y2, y3, y4, y5, y6, y7⟩, hfy⟩ := Lv.eight HS5.out.two
   have f0 := hfx 0 (by decide)
   have f1 := hfx 1 (by decide)
   have f2 := hfx 2 (by decide)
   have f3 := hfx 3 (by decide)
   have f4 := hfx 4 (by decide)
   have f5 := hfx 5 (by decide)
   have f6 := hfx 6 (by decide)
   have f7 := hfx 7 (by decide)
   simp only [Nat.zero_add] at x0 x1 x2 x3 x4 x5 x6 x7 y0 y1 y2 y3 y4 y5 y6 y7
   clear hfx hfy
   obtain ⟨⟨r0, r1, r2, r3, r4, r5, r6, r7⟩, hfr⟩ := Lv.eight HS5.out.res
   have h0 := hfr 0 (by decide)
   have h1 := hfr 1 (by decide)
   have h2 := hfr 2 (by decide)
   have h3 := hfr 3 (by decide)
   have h4 := hfr 4 (by decide)
   have h5 := hfr 5 (by decide)
   have h6 := hfr 6 (by decide)
   have h7 := hfr 7 (by decide)
   simp only [Nat.zero_add] at r0 r1 r2 r3 r4 r5 r6 r7
   clear hfr
   have HP := Lib.hid (Lv.set8_below HS5.out.bel (q := w.heap.size + 1 + 1) (by omega) ⟨ai, al, ⟨aln, ali, als⟩, ⟨ahn, ahi, ahs⟩⟩)
   go_wp2
   (try simp only [Exit.inBlock, Exit.then])
   refine bodyPost_ret (v := .agg #[.int .i64 ai, .int .i64 al, .bool aln, .int .i64 ali, .string als, .bool ahn, .int .i64 ahi, .string ahs]) ?_ rfl ⟨by unfold Lv.wr_; simp only [Mf.cs]; rw [if_neg (show ¬ Kn.cmp ⟨bln, bli, bls⟩ ⟨aln, ali, als⟩ < 0 by rw [HXE.out]; have := HXX.out; omega), if_neg (show ¬ Kn.cmp ⟨ahn, ahi, ahs⟩ ⟨bhn, bhi, bhs⟩ < 0 by rw [HYE.out]; have := HYY.out; omega)], HP.out⟩
   rw [Zn.results_cell rfl]
   go_simp
end
end Go.Proofs.Ytodeodndjkkkbaa
