/-
  Contracts of the document's answers for zone: the zone of values. Written by gen_z8.py.
-/
import Derived.Test.YtdjnjhlcdcmeaaaZ7
namespace Go.Proofs.Ytdjnjhlcdcmeaaa
open Go.RowKit
/-- The zone's block, the value's, the result's as it was made. -/
structure Zn.SA (w : World) (z : Zn.Zo) (v : Kn.V) (W : World) : Prop where
  blk : Zn.Blk W w.heap.size z
  val : Kn.At W (w.heap.size + 1) 0 v
  res : Zn.Blk W (w.heap.size + 2) Zn.z0
  bel : Below w.heap.size w W
theorem Zn.SA.start (w : World) (z : Zn.Zo) (v : Kn.V) : Zn.SA w z v (((w.alloc (.cells (Zn.cs z) 30)).alloc (.cells #[.bool v.null, .int .i64 v.n, .string v.s] 23)).alloc (.cells (Zn.cs Zn.z0) 30)) := by
  refine ⟨((Zn.Blk.new w z).alloc _).alloc _, ?_, ?_, (((Below.refl _ w).alloc (Nat.le_refl _) _).alloc (by simp) _).alloc (by simp; omega) _⟩
  · have := (Kn.At.new (w.alloc (.cells (Zn.cs z) 30)) v 23).alloc (.cells (Zn.cs Zn.z0) 30)
    rwa [World.size_alloc] at this
  · have := Zn.Blk.new ((w.alloc (.cells (Zn.cs z) 30)).alloc (.cells #[.bool v.null, .int .i64 v.n, .string v.s] 23)) Zn.z0
    rwa [World.size_alloc, World.size_alloc] at this
theorem Zn.SA.kept {w W W' : World} {z : Zn.Zo} {v : Kn.V} (h : Zn.SA w z v W) (g : Below W.heap.size W W') : Zn.SA w z v W' := ⟨h.blk.kept g, h.val.later g, h.res.kept g, Zn.grow h.bel g⟩
theorem Zn.SA.set0 {w W : World} {z : Zn.Zo} {v : Kn.V} (h : Zn.SA w z v W) (b : Bool) : Zn.SA w ⟨b, z.values, z.lo, z.hi⟩ v (W.setCell ⟨w.heap.size, 0, none⟩ (.bool b)) :=
  ⟨h.blk.set0 b, Zn.At_set h.val (by omega) _ _, h.res.other (by omega) _ _, Zn.below_set h.bel (by omega) _ _⟩
theorem Zn.SA.set1 {w W : World} {z : Zn.Zo} {v : Kn.V} (h : Zn.SA w z v W) (b : Bool) : Zn.SA w ⟨z.nulls, b, z.lo, z.hi⟩ v (W.setCell ⟨w.heap.size, 1, none⟩ (.bool b)) :=
  ⟨h.blk.set1 b, Zn.At_set h.val (by omega) _ _, h.res.other (by omega) _ _, Zn.below_set h.bel (by omega) _ _⟩
theorem Zn.SA.setLo {w W : World} {z : Zn.Zo} {v : Kn.V} (h : Zn.SA w z v W) (u : Kn.V) : Zn.SA w ⟨z.nulls, z.values, u, z.hi⟩ v (((W.setCell ⟨w.heap.size, 2, none⟩ (.bool u.null)).setCell ⟨w.heap.size, 3, none⟩ (.int .i64 u.n)).setCell ⟨w.heap.size, 4, none⟩ (.string u.s)) :=
  ⟨h.blk.setLo u, Zn.At_set3 h.val (by omega) _ _ _ _ _ _, ((h.res.other (by omega) _ _).other (by omega) _ _).other (by omega) _ _, Zn.below_set3 h.bel (by omega) _ _ _ _ _ _⟩
theorem Zn.SA.setHi {w W : World} {z : Zn.Zo} {v : Kn.V} (h : Zn.SA w z v W) (u : Kn.V) : Zn.SA w ⟨z.nulls, z.values, z.lo, u⟩ v (((W.setCell ⟨w.heap.size, 5, none⟩ (.bool u.null)).setCell ⟨w.heap.size, 6, none⟩ (.int .i64 u.n)).setCell ⟨w.heap.size, 7, none⟩ (.string u.s)) :=
  ⟨h.blk.setHi u, Zn.At_set3 h.val (by omega) _ _ _ _ _ _, ((h.res.other (by omega) _ _).other (by omega) _ _).other (by omega) _ _, Zn.below_set3 h.bel (by omega) _ _ _ _ _ _⟩
theorem Zn.add_more2 {z : Zn.Zo} {v : Kn.V} (h : v.null = false) (hz : z.values = true) : Zn.add z v = ⟨z.nulls, true, if Kn.cmp v z.lo < 0 then v else z.lo, if Kn.cmp z.hi v < 0 then v else z.hi⟩ := by
  rw [Zn.add_more h hz]
  have := Zn.anti z.hi v
  by_cases hc : Kn.cmp z.hi v < 0
  · rw [if_pos hc, if_pos (show Kn.cmp v z.hi > 0 by omega)]
  · rw [if_neg hc, if_neg (show ¬ Kn.cmp v z.hi > 0 by omega)]
set_option maxHeartbeats 4000000 in
set_option maxRecDepth 100000 in
theorem Zn.radd_c (z : Zn.Zo) (x : Kn.V) (hl : Kn.Z z.lo) (hh : Kn.Z z.hi) (hx : Kn.Z x) (w : World) : Calls Try.prog 20 #[z.val, x.val] w fun e w' => e = .returned (Zn.add z x).val ∧ Below w.heap.size w w' := by
  have HST := Lib.hid (Zn.SA.start w z x)
  have cL := Kn.rAhead_c x z.lo hx hl
  have cU := Kn.rAhead_c z.hi x hh hx
  clear hl hh hx
  obtain ⟨xn, xi, xs⟩ := x
  obtain ⟨zn, zw, ⟨ln, li, ls⟩, ⟨hn, hi, hs⟩⟩ := z
  unfold Kn.V.val at cL cU
  simp only at cL cU
  simp only [Zn.cs, Zn.z0, Zn.zv] at HST
  have HCL : Hid (∀ w, _) := Lib.hid cL
  have HCU : Hid (∀ w, _) := Lib.hid cU
  clear cL cU
  go_enter Try.func20, Try.ntmps20
  go_upto_region 1 with (fail)
  generalize hwo : ((w.alloc _).alloc _).alloc _ = wo at HST ⊢
  clear hwo
  cases xn
  · cases zw
    · have HQ := HST
      obtain ⟨x0, x1, x2⟩ := HST.out.val
      obtain ⟨z0, z1, z2, z3, z4, z5, z6, z7⟩ := HST.out.blk.cells
      obtain ⟨f0, f1, f2, f3, f4, f5, f6, f7⟩ := HST.out.blk.frozens
      obtain ⟨r0, r1, r2, r3, r4, r5, r6, r7⟩ := HST.out.res.cells
      obtain ⟨h0, h1, h2, h3, h4, h5, h6, h7⟩ := HST.out.res.frozens
      simp only at x0 x1 x2 z0 z1 z2 z3 z4 z5 z6 z7
      go_upto_region 6 with (fail)
      have HST2 := Lib.hid (HST.out.setLo ⟨false, xi, xs⟩)
      clear x0 x1 x2 z0 z1 z2 z3 z4 z5 z6 z7 f0 f1 f2 f3 f4 f5 f6 f7 r0 r1 r2 r3 r4 r5 r6 r7 h0 h1 h2 h3 h4 h5 h6 h7
      simp only at HST2
      generalize ((wo.setCell ⟨w.heap.size, 2, none⟩ (.bool false)).setCell ⟨w.heap.size, 3, none⟩ (.int .i64 xi)).setCell ⟨w.heap.size, 4, none⟩ (.string xs) = w2 at HST2 ⊢
      obtain ⟨x0, x1, x2⟩ := HST2.out.val
      obtain ⟨z0, z1, z2, z3, z4, z5, z6, z7⟩ := HST2.out.blk.cells
      obtain ⟨f0, f1, f2, f3, f4, f5, f6, f7⟩ := HST2.out.blk.frozens
      obtain ⟨r0, r1, r2, r3, r4, r5, r6, r7⟩ := HST2.out.res.cells
      obtain ⟨h0, h1, h2, h3, h4, h5, h6, h7⟩ := HST2.out.res.frozens
      simp only at x0 x1 x2 z0 z1 z2 z3 z4 z5 z6 z7
      have HE : Hid (Zn.SA w ⟨zn, true, ⟨false, xi, xs⟩, ⟨false, xi, xs⟩⟩ ⟨false, xi, xs⟩ _) := Lib.hid ((HST2.out.setHi ⟨false, xi, xs⟩).set1 true)
      go_wp2
      have HP := Lib.hid (Zn.put_below (q := w.heap.size + 2) HE.out.bel (by omega) ⟨zn, true, ⟨false, xi, xs⟩, ⟨false, xi, xs⟩⟩)
      (try simp only [Exit.inBlock, Exit.then])
      refine bodyPost_ret (v := .agg #[.bool zn, .bool true, .bool false, .int .i64 xi, .string xs, .bool false, .int .i64 xi, .string xs]) ?_ rfl ⟨by rw [Zn.add_first rfl rfl], HP.out⟩
      rw [Zn.results_cell rfl]
      go_simp
    · generalize hX : Kn.cmp ⟨false, xi, xs⟩ ⟨ln, li, ls⟩ = Xx at HCL
      generalize hY : Kn.cmp ⟨hn, hi, hs⟩ ⟨false, xi, xs⟩ = Y at HCU
      have HXE := Lib.hid hX
      have HYE := Lib.hid hY
      clear hX hY
      obtain ⟨x0, x1, x2⟩ := HST.out.val
      obtain ⟨z0, z1, z2, z3, z4, z5, z6, z7⟩ := HST.out.blk.cells
      obtain ⟨f0, f1, f2, f3, f4, f5, f6, f7⟩ := HST.out.blk.frozens
      obtain ⟨r0, r1, r2, r3, r4, r5, r6, r7⟩ := HST.out.res.cells
      obtain ⟨h0, h1, h2, h3, h4, h5, h6, h7⟩ := HST.out.res.frozens
      simp only at x0 x1 x2 z0 z1 z2 z3 z4 z5 z6 z7
      go_wp2_with fail
      with_reducible refine (HCL.out _).mono ?_
      rintro e w1 ⟨rfl, g1⟩
      have HST3 := Lib.hid (HST.out.kept g1)
      clear x0 x1 x2 z0 z1 z2 z3 z4 z5 z6 z7 f0 f1 f2 f3 f4 f5 f6 f7 r0 r1 r2 r3 r4 r5 r6 r7 h0 h1 h2 h3 h4 h5 h6 h7 g1
      obtain ⟨x0, x1, x2⟩ := HST3.out.val
      obtain ⟨z0, z1, z2, z3, z4, z5, z6, z7⟩ := HST3.out.blk.cells
      obtain ⟨f0, f1, f2, f3, f4, f5, f6, f7⟩ := HST3.out.blk.frozens
      obtain ⟨r0, r1, r2, r3, r4, r5, r6, r7⟩ := HST3.out.res.cells
      obtain ⟨h0, h1, h2, h3, h4, h5, h6, h7⟩ := HST3.out.res.frozens
      simp only at x0 x1 x2 z0 z1 z2 z3 z4 z5 z6 z7
      by_cases hX : Xx < 0
      · have HXX := Lib.hid hX
        go_upto_region 6 with (fail)
        have HST5 := Lib.hid (HST3.out.setLo ⟨false, xi, xs⟩)
        clear x0 x1 x2 z0 z1 z2 z3 z4 z5 z6 z7 f0 f1 f2 f3 f4 f5 f6 f7 r0 r1 r2 r3 r4 r5 r6 r7 h0 h1 h2 h3 h4 h5 h6 h7
        simp only at HST5
        generalize ((w1.setCell ⟨w.heap.size, 2, none⟩ (.bool false)).setCell ⟨w.heap.size, 3, none⟩ (.int .i64 xi)).setCell ⟨w.heap.size, 4, none⟩ (.string xs) = w2 at HST5 ⊢
        obtain ⟨x0, x1, x2⟩ := HST5.out.val
        obtain ⟨z0, z1, z2, z3, z4, z5, z6, z7⟩ := HST5.out.blk.cells
        obtain ⟨f0, f1, f2, f3, f4, f5, f6, f7⟩ := HST5.out.blk.frozens
        obtain ⟨r0, r1, r2, r3, r4, r5, r6, r7⟩ := HST5.out.res.cells
        obtain ⟨h0, h1, h2, h3, h4, h5, h6, h7⟩ := HST5.out.res.frozens
        simp only at x0 x1 x2 z0 z1 z2 z3 z4 z5 z6 z7
        go_wp2_with fail
        with_reducible refine (HCU.out _).mono ?_
        rintro e w3 ⟨rfl, g3⟩
        have HST4 := Lib.hid (HST5.out.kept g3)
        clear x0 x1 x2 z0 z1 z2 z3 z4 z5 z6 z7 f0 f1 f2 f3 f4 f5 f6 f7 r0 r1 r2 r3 r4 r5 r6 r7 h0 h1 h2 h3 h4 h5 h6 h7 g3
        obtain ⟨x0, x1, x2⟩ := HST4.out.val
        obtain ⟨z0, z1, z2, z3, z4, z5, z6, z7⟩ := HST4.out.blk.cells
        obtain ⟨f0, f1, f2, f3, f4, f5, f6, f7⟩ := HST4.out.blk.frozens
        obtain ⟨r0, r1, r2, r3, r4, r5, r6, r7⟩ := HST4.out.res.cells
        obtain ⟨h0, h1, h2, h3, h4, h5, h6, h7⟩ := HST4.out.res.frozens
        simp only at x0 x1 x2 z0 z1 z2 z3 z4 z5 z6 z7
        by_cases hY : Y < 0
        · have HYY := Lib.hid hY
          have HE : Hid (Zn.SA w ⟨zn, true, ⟨false, xi, xs⟩, ⟨false, xi, xs⟩⟩ ⟨false, xi, xs⟩ _) := Lib.hid ((HST4.out.setHi ⟨false, xi, xs⟩).set1 true)
          go_wp2
          have HP := Lib.hid (Zn.put_below (q := w.heap.size + 2) HE.out.bel (by omega) ⟨zn, true, ⟨false, xi, xs⟩, ⟨false, xi, xs⟩⟩)
          (try simp only [Exit.inBlock, Exit.then])
          refine bodyPost_ret (v := .agg #[.bool zn, .bool true, .bool false, .int .i64 xi, .string xs, .bool false, .int .i64 xi, .string xs]) ?_ rfl ⟨by rw [Zn.add_more2 rfl rfl, show (if Kn.cmp ⟨false, xi, xs⟩ ⟨ln, li, ls⟩ < 0 then (⟨false, xi, xs⟩ : Kn.V) else ⟨ln, li, ls⟩) = ⟨false, xi, xs⟩ from if_pos (by rw [HXE.out]; have := HXX.out; omega), if_pos (show Kn.cmp ⟨hn, hi, hs⟩ ⟨false, xi, xs⟩ < 0 by rw [HYE.out]; have := HYY.out; omega)], HP.out⟩
          rw [Zn.results_cell rfl]
          go_simp
        · have HYY := Lib.hid hY
          have HE : Hid (Zn.SA w ⟨zn, true, ⟨false, xi, xs⟩, ⟨hn, hi, hs⟩⟩ ⟨false, xi, xs⟩ _) := Lib.hid (HST4.out.set1 true)
          go_wp2
          have HP := Lib.hid (Zn.put_below (q := w.heap.size + 2) HE.out.bel (by omega) ⟨zn, true, ⟨false, xi, xs⟩, ⟨hn, hi, hs⟩⟩)
          (try simp only [Exit.inBlock, Exit.then])
          refine bodyPost_ret (v := .agg #[.bool zn, .bool true, .bool false, .int .i64 xi, .string xs, .bool hn, .int .i64 hi, .string hs]) ?_ rfl ⟨by rw [Zn.add_more2 rfl rfl, show (if Kn.cmp ⟨false, xi, xs⟩ ⟨ln, li, ls⟩ < 0 then (⟨false, xi, xs⟩ : Kn.V) else ⟨ln, li, ls⟩) = ⟨false, xi, xs⟩ from if_pos (by rw [HXE.out]; have := HXX.out; omega), if_neg (show ¬ Kn.cmp ⟨hn, hi, hs⟩ ⟨false, xi, xs⟩ < 0 by rw [HYE.out]; have := HYY.out; omega)], HP.out⟩
          rw [Zn.results_cell rfl]
          go_simp
      · have HXX := Lib.hid hX
        go_upto_region 6 with (fail)
        clear x0 x1 x2 z0 z1 z2 z3 z4 z5 z6 z7 f0 f1 f2 f3 f4 f5 f6 f7 r0 r1 r2 r3 r4 r5 r6 r7 h0 h1 h2 h3 h4 h5 h6 h7
        obtain ⟨x0, x1, x2⟩ := HST3.out.val
        obtain ⟨z0, z1, z2, z3, z4, z5, z6, z7⟩ := HST3.out.blk.cells
        obtain ⟨f0, f1, f2, f3, f4, f5, f6, f7⟩ := HST3.out.blk.frozens
        obtain ⟨r0, r1, r2, r3, r4, r5, r6, r7⟩ := HST3.out.res.cells
        obtain ⟨h0, h1, h2, h3, h4, h5, h6, h7⟩ := HST3.out.res.frozens
        simp only at x0 x1 x2 z0 z1 z2 z3 z4 z5 z6 z7
        go_wp2_with fail
        with_reducible refine (HCU.out _).mono ?_
        rintro e w3 ⟨rfl, g3⟩
        have HST4 := Lib.hid (HST3.out.kept g3)
        clear x0 x1 x2 z0 z1 z2 z3 z4 z5 z6 z7 f0 f1 f2 f3 f4 f5 f6 f7 r0 r1 r2 r3 r4 r5 r6 r7 h0 h1 h2 h3 h4 h5 h6 h7 g3
        obtain ⟨x0, x1, x2⟩ := HST4.out.val
        obtain ⟨z0, z1, z2, z3, z4, z5, z6, z7⟩ := HST4.out.blk.cells
        obtain ⟨f0, f1, f2, f3, f4, f5, f6, f7⟩ := HST4.out.blk.frozens
        obtain ⟨r0, r1, r2, r3, r4, r5, r6, r7⟩ := HST4.out.res.cells
        obtain ⟨h0, h1, h2, h3, h4, h5, h6, h7⟩ := HST4.out.res.frozens
        simp only at x0 x1 x2 z0 z1 z2 z3 z4 z5 z6 z7
        by_cases hY : Y < 0
        · have HYY := Lib.hid hY
          have HE : Hid (Zn.SA w ⟨zn, true, ⟨ln, li, ls⟩, ⟨false, xi, xs⟩⟩ ⟨false, xi, xs⟩ _) := Lib.hid ((HST4.out.setHi ⟨false, xi, xs⟩).set1 true)
          go_wp2
          have HP := Lib.hid (Zn.put_below (q := w.heap.size + 2) HE.out.bel (by omega) ⟨zn, true, ⟨ln, li, ls⟩, ⟨false, xi, xs⟩⟩)
          (try simp only [Exit.inBlock, Exit.then])
          refine bodyPost_ret (v := .agg #[.bool zn, .bool true, .bool ln, .int .i64 li, .string ls, .bool false, .int .i64 xi, .string xs]) ?_ rfl ⟨by rw [Zn.add_more2 rfl rfl, show (if Kn.cmp ⟨false, xi, xs⟩ ⟨ln, li, ls⟩ < 0 then (⟨false, xi, xs⟩ : Kn.V) else ⟨ln, li, ls⟩) = ⟨ln, li, ls⟩ from if_neg (by rw [HXE.out]; have := HXX.out; omega), if_pos (show Kn.cmp ⟨hn, hi, hs⟩ ⟨false, xi, xs⟩ < 0 by rw [HYE.out]; have := HYY.out; omega)], HP.out⟩
          rw [Zn.results_cell rfl]
          go_simp
        · have HYY := Lib.hid hY
          have HE : Hid (Zn.SA w ⟨zn, true, ⟨ln, li, ls⟩, ⟨hn, hi, hs⟩⟩ ⟨false, xi, xs⟩ _) := Lib.hid (HST4.out.set1 true)
          go_wp2
          have HP := Lib.hid (Zn.put_below (q := w.heap.size + 2) HE.out.bel (by omega) ⟨zn, true, ⟨ln, li, ls⟩, ⟨hn, hi, hs⟩⟩)
          (try simp only [Exit.inBlock, Exit.then])
          refine bodyPost_ret (v := .agg #[.bool zn, .bool true, .bool ln, .int .i64 li, .string ls, .bool hn, .int .i64 hi, .string hs]) ?_ rfl ⟨by rw [Zn.add_more2 rfl rfl, show (if Kn.cmp ⟨false, xi, xs⟩ ⟨ln, li, ls⟩ < 0 then (⟨false, xi, xs⟩ : Kn.V) else ⟨ln, li, ls⟩) = ⟨ln, li, ls⟩ from if_neg (by rw [HXE.out]; have := HXX.out; omega), if_neg (show ¬ Kn.cmp ⟨hn, hi, hs⟩ ⟨false, xi, xs⟩ < 0 by rw [HYE.out]; have := HYY.out; omega)], HP.out⟩
          rw [Zn.results_cell rfl]
          go_simp
  · have HQ := HST
    obtain ⟨x0, x1, x2⟩ := HST.out.val
    obtain ⟨z0, z1, z2, z3, z4, z5, z6, z7⟩ := HST.out.blk.cells
    obtain ⟨f0, f1, f2, f3, f4, f5, f6, f7⟩ := HST.out.blk.frozens
    obtain ⟨r0, r1, r2, r3, r4, r5, r6, r7⟩ := HST.out.res.cells
    obtain ⟨h0, h1, h2, h3, h4, h5, h6, h7⟩ := HST.out.res.frozens
    simp only at x0 x1 x2 z0 z1 z2 z3 z4 z5 z6 z7
    have HE : Hid (Zn.SA w ⟨true, zw, ⟨ln, li, ls⟩, ⟨hn, hi, hs⟩⟩ ⟨true, xi, xs⟩ _) := Lib.hid (HST.out.set0 true)
    go_wp2
    have HP := Lib.hid (Zn.put_below (q := w.heap.size + 2) HE.out.bel (by omega) ⟨true, zw, ⟨ln, li, ls⟩, ⟨hn, hi, hs⟩⟩)
    (try simp only [Exit.inBlock, Exit.then])
    refine bodyPost_ret (v := .agg #[.bool true, .bool zw, .bool ln, .int .i64 li, .string ls, .bool hn, .int .i64 hi, .string hs]) ?_ rfl ⟨by rw [Zn.add_null rfl], HP.out⟩
    rw [Zn.results_cell rfl]
    go_simp
end Go.Proofs.Ytdjnjhlcdcmeaaa
