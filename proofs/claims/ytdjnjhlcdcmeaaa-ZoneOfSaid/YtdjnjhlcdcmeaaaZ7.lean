/-
  Contracts of package zone: the zone of values.
-/
import Derived.Test.YtdjnjhlcdcmeaaaZ5
import Derived.Test.YtdjnjhlcdcmeaaaUC
import Derived.Deep.DeepCutAuto
namespace Go.Proofs.Ytdjnjhlcdcmeaaa
open Go.RowKit
theorem Zn.grow {w w' : World} (h : Below w.heap.size w w') {w'' : World} (g : Below w'.heap.size w' w'') : Below w.heap.size w w'' := h.trans (g.mono h.size)
/-- The result's block as it was made, the zone's block behind it; nothing else written that was there. -/
structure Zn.St (w : World) (z : Zn.Zo) (W : World) : Prop where
  res : Zn.Blk W w.heap.size Zn.z0
  blk : Zn.Blk W (w.heap.size + 1) z
  bel : Below w.heap.size w W
theorem Zn.St.start (w : World) : Zn.St w Zn.z0 ((w.alloc (.cells (Zn.cs Zn.z0) 30)).alloc (.cells (Zn.cs Zn.z0) 30)) := by
  refine ⟨(Zn.Blk.new w _).alloc _, ?_, ((Below.refl _ w).alloc (Nat.le_refl _) _).alloc (by simp) _⟩
  have := Zn.Blk.new (w.alloc (.cells (Zn.cs Zn.z0) 30)) Zn.z0
  rwa [World.size_alloc] at this
theorem Zn.St.kept {w W W' : World} {z : Zn.Zo} (h : Zn.St w z W) (g : Below W.heap.size W W') : Zn.St w z W' := ⟨h.res.kept g, h.blk.kept g, Zn.grow h.bel g⟩
theorem Zn.St.set0 {w W : World} {z : Zn.Zo} (h : Zn.St w z W) (b : Bool) : Zn.St w ⟨b, z.values, z.lo, z.hi⟩ (W.setCell ⟨w.heap.size + 1, 0, none⟩ (.bool b)) :=
  ⟨h.res.other (by omega) _ _, h.blk.set0 b, Zn.below_set h.bel (by omega) _ _⟩
theorem Zn.St.set1 {w W : World} {z : Zn.Zo} (h : Zn.St w z W) (b : Bool) : Zn.St w ⟨z.nulls, b, z.lo, z.hi⟩ (W.setCell ⟨w.heap.size + 1, 1, none⟩ (.bool b)) :=
  ⟨h.res.other (by omega) _ _, h.blk.set1 b, Zn.below_set h.bel (by omega) _ _⟩
theorem Zn.St.s4 {w W : World} {z : Zn.Zo} (h : Zn.St w z W) : Zn.St w z (W.setCell ⟨w.heap.size + 1, 4, none⟩ (.string z.lo.s)) :=
  ⟨h.res.other (by omega) _ _, h.blk.set4 z.lo.s, Zn.below_set h.bel (by omega) _ _⟩
theorem Zn.St.s7 {w W : World} {z : Zn.Zo} (h : Zn.St w z W) : Zn.St w z (W.setCell ⟨w.heap.size + 1, 7, none⟩ (.string z.hi.s)) :=
  ⟨h.res.other (by omega) _ _, h.blk.set7 z.hi.s, Zn.below_set h.bel (by omega) _ _⟩
theorem Zn.St.setLo {w W : World} {z : Zn.Zo} (h : Zn.St w z W) (v : Kn.V) : Zn.St w ⟨z.nulls, z.values, v, z.hi⟩ (((W.setCell ⟨w.heap.size + 1, 2, none⟩ (.bool v.null)).setCell ⟨w.heap.size + 1, 3, none⟩ (.int .i64 v.n)).setCell ⟨w.heap.size + 1, 4, none⟩ (.string v.s)) :=
  ⟨((h.res.other (by omega) _ _).other (by omega) _ _).other (by omega) _ _, h.blk.setLo v, Zn.below_set3 h.bel (by omega) _ _ _ _ _ _⟩
theorem Zn.St.setHi {w W : World} {z : Zn.Zo} (h : Zn.St w z W) (v : Kn.V) : Zn.St w ⟨z.nulls, z.values, z.lo, v⟩ (((W.setCell ⟨w.heap.size + 1, 5, none⟩ (.bool v.null)).setCell ⟨w.heap.size + 1, 6, none⟩ (.int .i64 v.n)).setCell ⟨w.heap.size + 1, 7, none⟩ (.string v.s)) :=
  ⟨((h.res.other (by omega) _ _).other (by omega) _ _).other (by omega) _ _, h.blk.setHi v, Zn.below_set3 h.bel (by omega) _ _ _ _ _ _⟩
theorem Zn.At_set {W : World} {b q o : Nat} {v : Kn.V} (h : Kn.At W b o v) (hne : b ≠ q) (i : Nat) (u : Value) : Kn.At (W.setCell ⟨q, i, none⟩ u) b o v := by
  have e : (W.setCell ⟨q, i, none⟩ u).heap[b]? = W.heap[b]? := heap_setCell_other W ⟨q, i, none⟩ b u hne
  exact ⟨(World.cell?_of_block e).trans h.c0, (World.cell?_of_block e).trans h.c1, (World.cell?_of_block e).trans h.c2⟩
theorem Zn.At_set3 {W : World} {b q o : Nat} {v : Kn.V} (h : Kn.At W b o v) (hne : b ≠ q) (i j k : Nat) (x y z : Value) : Kn.At (((W.setCell ⟨q, i, none⟩ x).setCell ⟨q, j, none⟩ y).setCell ⟨q, k, none⟩ z) b o v :=
  Zn.At_set (Zn.At_set (Zn.At_set h hne i x) hne j y) hne k z
/-- A zone with a value more, way by way. -/
theorem Zn.add_null {z : Zn.Zo} {v : Kn.V} (h : v.null = true) : Zn.add z v = ⟨true, z.values, z.lo, z.hi⟩ := by unfold Zn.add; rw [if_pos h]
theorem Zn.add_first {z : Zn.Zo} {v : Kn.V} (h : v.null = false) (hz : z.values = false) : Zn.add z v = ⟨z.nulls, true, v, v⟩ := by unfold Zn.add; simp [h, hz]
theorem Zn.add_more {z : Zn.Zo} {v : Kn.V} (h : v.null = false) (hz : z.values = true) : Zn.add z v = ⟨z.nulls, true, if Kn.cmp v z.lo < 0 then v else z.lo, if Kn.cmp v z.hi > 0 then v else z.hi⟩ := by unfold Zn.add; simp [h, hz]
theorem Zn.of_size {l : List Kn.V} (h : ∀ x ∈ l, Kn.Z x) : (Zn.of l).lo.s.size ≤ 140737488355328 ∧ (Zn.of l).hi.s.size ≤ 140737488355328 := by
  have hz : ∀ v : Kn.V, v = Zn.zv ∨ v ∈ l → v.s.size ≤ 140737488355328 := fun v hv => by
    rcases hv with rfl | hv
    · decide
    · have := h v hv
      unfold Kn.Z at this
      omega
  exact ⟨hz _ (Zn.of_mem l).1, hz _ (Zn.of_mem l).2⟩
set_option maxHeartbeats 4000000 in
set_option maxRecDepth 100000 in
theorem Zn.of_c (v : Value) (l : List Kn.V) (w : World) (hv : Kn.Vals w v l) (hz : ∀ x ∈ l, Kn.Z x) : Calls Try.prog 11 #[v] w fun e w' => e = .returned (Zn.of l).val ∧ Below w.heap.size w w' := by
  obtain ⟨a, c, rfl, h⟩ := hv
  have HH := Lib.hid h
  have HZ := Lib.hid hz
  have CC := Lib.hid Kn.compare_c
  have HST := Lib.hid (Zn.St.start w)
  clear h hz
  go_enter Try.func11, Try.ntmps11
  go_wp2_with fail
  go_loopw [8] (fun i wr => ∃ k : Nat, k ≤ l.length ∧ i = .int .i64 k ∧ Zn.St w (Zn.of (l.take k)) wr) (fun i _ => l.length - (intOf i).toNat)
  case atStart => exact ⟨0, Nat.zero_le _, rfl, HST.out⟩
  case round =>
    obtain ⟨k, hk, rfl, hst⟩ := hrel
    by_cases hkl : k < l.length
    · rcases HH.out with rfl | ⟨b, o, rfl, hlt, hm, hc⟩
      · simp at hkl
      · have hx := List.getElem?_eq_getElem hkl
        generalize l[k] = x at hx
        have HA := Lib.hid (Zn.of_take hx)
        generalize Zn.of (l.take k) = z at hst HA
        have hx1 := (hc k x hx).later hst.bel
        obtain ⟨e0, e1, e2⟩ := hx1
        have dk : (k : Int) < (l.length : Int) := by omega
        have dk0 : (0 : Int) ≤ (k : Int) := by omega
        have HK := Lib.hid hkl
        have HS := Lib.hid hst
        have hsz : wr.heap.size < (wr.alloc (.cells #[.bool x.null, .int .i64 x.n, .string x.s] 23)).heap.size := by simp
        have HST2 := Lib.hid (hst.kept ((Below.refl _ wr).alloc (Nat.le_refl _) (.cells #[.bool x.null, .int .i64 x.n, .string x.s] 23)))
        have HX := Lib.hid (Kn.At.new wr x 23)
        have HNE : Hid (wr.heap.size ≠ w.heap.size + 1 ∧ wr.heap.size ≠ w.heap.size) := Lib.hid (by have := hst.blk.lt; omega)
        clear hx hc hst hkl hk hsz
        obtain ⟨xn, xi, xs⟩ := x
        obtain ⟨zn, zw, ⟨ln, li, ls⟩, ⟨hn, hi, hs⟩⟩ := z
        simp only at e0 e1 e2 HST2 HX
        go_upto_region 5 with (fail)
        generalize wr.alloc (.cells #[.bool xn, .int .i64 xi, .string xs] 23) = wb at HST2 HX ⊢
        clear e0 e1 e2
        cases xn
        · cases zw
          · have HQ := HST2
            obtain ⟨x0, x1, x2⟩ := HX.out
            obtain ⟨z0, z1, z2, z3, z4, z5, z6, z7⟩ := HST2.out.blk.cells
            obtain ⟨f0, f1, f2, f3, f4, f5, f6, f7⟩ := HST2.out.blk.frozens
            simp only at x0 x1 x2 z0 z1 z2 z3 z4 z5 z6 z7
            go_upto_region 9 with (fail)
            have HST5 := Lib.hid (HST2.out.setLo ⟨false, xi, xs⟩)
            have HX5 := Lib.hid (Zn.At_set3 (q := w.heap.size + 1) HX.out HNE.out.1 2 3 4 (.bool false) (.int .i64 xi) (.string xs))
            clear x0 x1 x2 z0 z1 z2 z3 z4 z5 z6 z7 f0 f1 f2 f3 f4 f5 f6 f7
            simp only at HST5
            generalize ((wb.setCell ⟨w.heap.size + 1, 2, none⟩ (.bool false)).setCell ⟨w.heap.size + 1, 3, none⟩ (.int .i64 xi)).setCell ⟨w.heap.size + 1, 4, none⟩ (.string xs) = w2 at HST5 HX5 ⊢
            obtain ⟨x0, x1, x2⟩ := HX5.out
            obtain ⟨z0, z1, z2, z3, z4, z5, z6, z7⟩ := HST5.out.blk.cells
            obtain ⟨f0, f1, f2, f3, f4, f5, f6, f7⟩ := HST5.out.blk.frozens
            simp only at x0 x1 x2 z0 z1 z2 z3 z4 z5 z6 z7
            go_wp2
            go_roundw
            case rel => exact ⟨k + 1, HK.out, by simp, by rw [HA.out]; rw [Zn.add_first rfl rfl]; exact (HST5.out.setHi ⟨false, xi, xs⟩).set1 true⟩
            case measure => (have := HK.out; simp [intOf]; omega)
          · have cL := CC.out ⟨false, xi, xs⟩ ⟨ln, li, ls⟩
            have cU := CC.out ⟨false, xi, xs⟩ ⟨hn, hi, hs⟩
            unfold Kn.V.val at cL cU
            simp only at cL cU
            have HCL : Hid (∀ w, _) := Lib.hid cL
            have HCU : Hid (∀ w, _) := Lib.hid cU
            clear cL cU
            generalize hX : Kn.cmp ⟨false, xi, xs⟩ ⟨ln, li, ls⟩ = X at HCL
            generalize hY : Kn.cmp ⟨false, xi, xs⟩ ⟨hn, hi, hs⟩ = Y at HCU
            have HXE := Lib.hid hX
            have HYE := Lib.hid hY
            clear hX hY
            obtain ⟨x0, x1, x2⟩ := HX.out
            obtain ⟨z0, z1, z2, z3, z4, z5, z6, z7⟩ := HST2.out.blk.cells
            obtain ⟨f0, f1, f2, f3, f4, f5, f6, f7⟩ := HST2.out.blk.frozens
            simp only at x0 x1 x2 z0 z1 z2 z3 z4 z5 z6 z7
            go_wp2_with fail
            with_reducible refine (HCL.out _).mono ?_
            rintro e w1 ⟨rfl, g1⟩
            have HST3 := Lib.hid (HST2.out.kept g1)
            have HX3 := Lib.hid (HX.out.later g1)
            clear x0 x1 x2 z0 z1 z2 z3 z4 z5 z6 z7 f0 f1 f2 f3 f4 f5 f6 f7 g1
            obtain ⟨x0, x1, x2⟩ := HX3.out
            obtain ⟨z0, z1, z2, z3, z4, z5, z6, z7⟩ := HST3.out.blk.cells
            obtain ⟨f0, f1, f2, f3, f4, f5, f6, f7⟩ := HST3.out.blk.frozens
            simp only at x0 x1 x2 z0 z1 z2 z3 z4 z5 z6 z7
            by_cases hX : X < 0
            · have HXX := Lib.hid hX
              go_upto_region 9 with (fail)
              have HST5 := Lib.hid (HST3.out.setLo ⟨false, xi, xs⟩)
              have HX5 := Lib.hid (Zn.At_set3 (q := w.heap.size + 1) HX3.out HNE.out.1 2 3 4 (.bool false) (.int .i64 xi) (.string xs))
              clear x0 x1 x2 z0 z1 z2 z3 z4 z5 z6 z7 f0 f1 f2 f3 f4 f5 f6 f7
              simp only at HST5
              generalize ((w1.setCell ⟨w.heap.size + 1, 2, none⟩ (.bool false)).setCell ⟨w.heap.size + 1, 3, none⟩ (.int .i64 xi)).setCell ⟨w.heap.size + 1, 4, none⟩ (.string xs) = w2 at HST5 HX5 ⊢
              obtain ⟨x0, x1, x2⟩ := HX5.out
              obtain ⟨z0, z1, z2, z3, z4, z5, z6, z7⟩ := HST5.out.blk.cells
              obtain ⟨f0, f1, f2, f3, f4, f5, f6, f7⟩ := HST5.out.blk.frozens
              simp only at x0 x1 x2 z0 z1 z2 z3 z4 z5 z6 z7
              go_wp2_with fail
              with_reducible refine (HCU.out _).mono ?_
              rintro e w3 ⟨rfl, g3⟩
              have HST4 := Lib.hid (HST5.out.kept g3)
              have HX4 := Lib.hid (HX5.out.later g3)
              clear x0 x1 x2 z0 z1 z2 z3 z4 z5 z6 z7 f0 f1 f2 f3 f4 f5 f6 f7 g3
              obtain ⟨x0, x1, x2⟩ := HX4.out
              obtain ⟨z0, z1, z2, z3, z4, z5, z6, z7⟩ := HST4.out.blk.cells
              obtain ⟨f0, f1, f2, f3, f4, f5, f6, f7⟩ := HST4.out.blk.frozens
              simp only at x0 x1 x2 z0 z1 z2 z3 z4 z5 z6 z7
              by_cases hY : Y > 0
              · have HYY := Lib.hid hY
                go_wp2
                go_roundw
                case rel => exact ⟨k + 1, HK.out, by simp, by rw [HA.out]; rw [Zn.add_more rfl rfl, show (if Kn.cmp ⟨false, xi, xs⟩ ⟨ln, li, ls⟩ < 0 then (⟨false, xi, xs⟩ : Kn.V) else ⟨ln, li, ls⟩) = ⟨false, xi, xs⟩ from if_pos (by rw [HXE.out]; have := HXX.out; omega), if_pos (show Kn.cmp ⟨false, xi, xs⟩ ⟨hn, hi, hs⟩ > 0 by rw [HYE.out]; have := HYY.out; omega)]; exact (HST4.out.setHi ⟨false, xi, xs⟩).set1 true⟩
                case measure => (have := HK.out; simp [intOf]; omega)
              · have HYY := Lib.hid hY
                go_wp2
                go_roundw
                case rel => exact ⟨k + 1, HK.out, by simp, by rw [HA.out]; rw [Zn.add_more rfl rfl, show (if Kn.cmp ⟨false, xi, xs⟩ ⟨ln, li, ls⟩ < 0 then (⟨false, xi, xs⟩ : Kn.V) else ⟨ln, li, ls⟩) = ⟨false, xi, xs⟩ from if_pos (by rw [HXE.out]; have := HXX.out; omega), if_neg (show ¬ Kn.cmp ⟨false, xi, xs⟩ ⟨hn, hi, hs⟩ > 0 by rw [HYE.out]; have := HYY.out; omega)]; exact HST4.out.set1 true⟩
                case measure => (have := HK.out; simp [intOf]; omega)
            · have HXX := Lib.hid hX
              go_upto_region 9 with (fail)
              clear x0 x1 x2 z0 z1 z2 z3 z4 z5 z6 z7 f0 f1 f2 f3 f4 f5 f6 f7
              obtain ⟨x0, x1, x2⟩ := HX3.out
              obtain ⟨z0, z1, z2, z3, z4, z5, z6, z7⟩ := HST3.out.blk.cells
              obtain ⟨f0, f1, f2, f3, f4, f5, f6, f7⟩ := HST3.out.blk.frozens
              simp only at x0 x1 x2 z0 z1 z2 z3 z4 z5 z6 z7
              go_wp2_with fail
              with_reducible refine (HCU.out _).mono ?_
              rintro e w3 ⟨rfl, g3⟩
              have HST4 := Lib.hid (HST3.out.kept g3)
              have HX4 := Lib.hid (HX3.out.later g3)
              clear x0 x1 x2 z0 z1 z2 z3 z4 z5 z6 z7 f0 f1 f2 f3 f4 f5 f6 f7 g3
              obtain ⟨x0, x1, x2⟩ := HX4.out
              obtain ⟨z0, z1, z2, z3, z4, z5, z6, z7⟩ := HST4.out.blk.cells
              obtain ⟨f0, f1, f2, f3, f4, f5, f6, f7⟩ := HST4.out.blk.frozens
              simp only at x0 x1 x2 z0 z1 z2 z3 z4 z5 z6 z7
              by_cases hY : Y > 0
              · have HYY := Lib.hid hY
                go_wp2
                go_roundw
                case rel => exact ⟨k + 1, HK.out, by simp, by rw [HA.out]; rw [Zn.add_more rfl rfl, show (if Kn.cmp ⟨false, xi, xs⟩ ⟨ln, li, ls⟩ < 0 then (⟨false, xi, xs⟩ : Kn.V) else ⟨ln, li, ls⟩) = ⟨ln, li, ls⟩ from if_neg (by rw [HXE.out]; have := HXX.out; omega), if_pos (show Kn.cmp ⟨false, xi, xs⟩ ⟨hn, hi, hs⟩ > 0 by rw [HYE.out]; have := HYY.out; omega)]; exact (HST4.out.setHi ⟨false, xi, xs⟩).set1 true⟩
                case measure => (have := HK.out; simp [intOf]; omega)
              · have HYY := Lib.hid hY
                go_wp2
                go_roundw
                case rel => exact ⟨k + 1, HK.out, by simp, by rw [HA.out]; rw [Zn.add_more rfl rfl, show (if Kn.cmp ⟨false, xi, xs⟩ ⟨ln, li, ls⟩ < 0 then (⟨false, xi, xs⟩ : Kn.V) else ⟨ln, li, ls⟩) = ⟨ln, li, ls⟩ from if_neg (by rw [HXE.out]; have := HXX.out; omega), if_neg (show ¬ Kn.cmp ⟨false, xi, xs⟩ ⟨hn, hi, hs⟩ > 0 by rw [HYE.out]; have := HYY.out; omega)]; exact HST4.out.set1 true⟩
                case measure => (have := HK.out; simp [intOf]; omega)
        · have HQ := HST2
          obtain ⟨x0, x1, x2⟩ := HX.out
          obtain ⟨z0, z1, z2, z3, z4, z5, z6, z7⟩ := HST2.out.blk.cells
          obtain ⟨f0, f1, f2, f3, f4, f5, f6, f7⟩ := HST2.out.blk.frozens
          simp only at x0 x1 x2 z0 z1 z2 z3 z4 z5 z6 z7
          go_wp2
          go_roundw
          case rel => exact ⟨k + 1, HK.out, by simp, by rw [HA.out]; rw [Zn.add_null rfl]; exact HST2.out.set0 true⟩
          case measure => (have := HK.out; simp [intOf]; omega)
    · obtain rfl : k = l.length := by omega
      rw [List.take_length] at hst
      have HZL : Hid ((Zn.of l).lo.s.size ≤ 140737488355328 ∧ (Zn.of l).hi.s.size ≤ 140737488355328) := Lib.hid (Zn.of_size HZ.out)
      have dk : ¬ (l.length : Int) < (l.length : Int) := by omega
      generalize hzz : Zn.of l = z at hst HZL
      have HZZ := Lib.hid hzz
      clear hzz
      have HST2 := Lib.hid hst
      clear hst hk hkl
      obtain ⟨zn, zw, ⟨ln, li, ls⟩, ⟨hn, hi, hs⟩⟩ := z
      simp only at HST2 HZL
      have C1 := fun wz => Tx.clone_c ls wz HZL.out.1
      have C2 := fun wz => Tx.clone_c hs wz HZL.out.2
      go_upto_region 13 with (fail)
      clear dk
      have HK : Hid (∀ W, Zn.St w ⟨zn, zw, ⟨ln, li, ls⟩, ⟨hn, hi, hs⟩⟩ W → W.cell? ⟨w.heap.size + 1, 4, none⟩ = some (.string ls) ∧ W.cell? ⟨w.heap.size + 1, 7, none⟩ = some (.string hs) ∧ W.frozen? ⟨w.heap.size + 1, 4, none⟩ = false ∧ W.frozen? ⟨w.heap.size + 1, 7, none⟩ = false ∧ Zn.St w ⟨zn, zw, ⟨ln, li, ls⟩, ⟨hn, hi, hs⟩⟩ W) := Lib.hid fun W h =>
        ⟨h.blk.cells.2.2.2.2.1, h.blk.cells.2.2.2.2.2.2.2, h.blk.frozen 4, h.blk.frozen 7, h⟩
      have HD : Hid (Zn.St w ⟨zn, zw, ⟨ln, li, ls⟩, ⟨hn, hi, hs⟩⟩ wr.drew) := Lib.hid (HST2.out.kept (Kn.drewN_below wr 1))
      go_region_held3 (fun W => W.cell? ⟨w.heap.size + 1, 4, none⟩ = some (.string ls) ∧ W.cell? ⟨w.heap.size + 1, 7, none⟩ = some (.string hs) ∧ W.frozen? ⟨w.heap.size + 1, 4, none⟩ = false ∧ W.frozen? ⟨w.heap.size + 1, 7, none⟩ = false ∧ Zn.St w ⟨zn, zw, ⟨ln, li, ls⟩, ⟨hn, hi, hs⟩⟩ W)
        (first
          | exact HK.out _ HD.out
          | exact HK.out _ ((by assumption : _ ∧ _ ∧ _ ∧ _ ∧ Zn.St w ⟨zn, zw, ⟨ln, li, ls⟩, ⟨hn, hi, hs⟩⟩ _).2.2.2.2.kept g1)
          | exact HK.out _ ((by assumption : _ ∧ _ ∧ _ ∧ _ ∧ Zn.St w ⟨zn, zw, ⟨ln, li, ls⟩, ⟨hn, hi, hs⟩⟩ _).2.2.2.2.kept g2)
          | exact HK.out _ (by assumption : _ ∧ _ ∧ _ ∧ _ ∧ Zn.St w ⟨zn, zw, ⟨ln, li, ls⟩, ⟨hn, hi, hs⟩⟩ _).2.2.2.2.s4
          | exact HK.out _ (by assumption : _ ∧ _ ∧ _ ∧ _ ∧ Zn.St w ⟨zn, zw, ⟨ln, li, ls⟩, ⟨hn, hi, hs⟩⟩ _).2.2.2.2.s7)
        (first
          | (go_at_call 19; (with_reducible refine (C1 _).mono ?_); rintro e w1 ⟨rfl, g1⟩)
          | (go_at_call 19; (with_reducible refine (C2 _).mono ?_); rintro e w2 ⟨rfl, g2⟩))
      have HE := Lib.hid (by assumption : _ ∧ _ ∧ _ ∧ _ ∧ Zn.St w ⟨zn, zw, ⟨ln, li, ls⟩, ⟨hn, hi, hs⟩⟩ _).2.2.2.2
      generalize World.setCell _ _ _ = we at HE ⊢
      obtain ⟨z0, z1, z2, z3, z4, z5, z6, z7⟩ := HE.out.blk.cells
      obtain ⟨r0, r1, r2, r3, r4, r5, r6, r7⟩ := HE.out.res.cells
      obtain ⟨f0, f1, f2, f3, f4, f5, f6, f7⟩ := HE.out.res.frozens
      simp only at z0 z1 z2 z3 z4 z5 z6 z7
      clear HK HD C1 C2
      go_wp2
      have HP := Lib.hid (Zn.put_below (q := w.heap.size) HE.out.bel (Nat.le_refl _) ⟨zn, zw, ⟨ln, li, ls⟩, ⟨hn, hi, hs⟩⟩)
      (try simp only [Exit.inBlock, Exit.then])
      refine bodyPost_ret (v := .agg #[.bool zn, .bool zw, .bool ln, .int .i64 li, .string ls, .bool hn, .int .i64 hi, .string hs]) ?_ rfl ⟨by rw [HZZ.out], HP.out⟩
      rw [Zn.results_cell rfl]
      go_simp
end Go.Proofs.Ytdjnjhlcdcmeaaa
