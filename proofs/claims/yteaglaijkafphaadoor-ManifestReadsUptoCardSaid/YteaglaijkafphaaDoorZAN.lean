import Derived.Test.YteaglaijkafphaaDoorZAK
import Derived.Deep.RegionHeld3
namespace Go.Proofs.YteaglaijkafphaaDoor
open Go Go.RowKit
set_option maxHeartbeats 8000000 in
set_option maxRecDepth 100000 in
theorem Mf.redit_a3 (t : ByteArray) (ht : t.size ≤ 140737488351232) (w : World) (hc1 : ¬ (Mf.dX (Mf.ec t.data.toList)).1.2.2.drop.length < (Mf.dX (Mf.ec t.data.toList)).1.1.toNat) (hc2 : (Mf.dX (Mf.ec t.data.toList)).1.2.2.add.length < (Mf.dX (Mf.ec t.data.toList)).1.2.1.toNat) :
 Calls Tryd.prog 18 #[.string t] w (Mf.GotR w (Mf.dX (Mf.ec t.data.toList))) := by
 obtain ⟨c, hc⟩ : ∃ c, c = Mf.ec t.data.toList := ⟨_, rfl⟩
 rw [← hc] at hc1 hc2 ⊢
 obtain ⟨⟨n, c1⟩, h1⟩ : ∃ x, Mf.dC c = x := ⟨_, rfl⟩
 obtain ⟨⟨D, c2⟩, h2⟩ : ∃ x, Mf.gL Mf.go Mf.dC n.toNat c1 = x := ⟨_, rfl⟩
 obtain ⟨⟨m, c3⟩, h3⟩ : ∃ x, Mf.dC c2 = x := ⟨_, rfl⟩
 obtain ⟨⟨A, c4⟩, h4⟩ : ∃ x, Mf.gL Mf.go Mf.dP m.toNat c3 = x := ⟨_, rfl⟩
 obtain ⟨⟨fl, c5⟩, h5⟩ : ∃ x, Mf.dC c4 = x := ⟨_, rfl⟩
 obtain ⟨⟨nx, c6⟩, h6⟩ : ∃ x, Mf.dC c5 = x := ⟨_, rfl⟩
 have hn9 : n ≤ 999999999 := by have := Mf.dC_le c; rw [h1] at this; exact this
 have hm9 : m ≤ 999999999 := by have := Mf.dC_le c2; rw [h3] at this; exact this
 have HN9 := Lib.hid (And.intro hn9 hm9)
 clear hn9 hm9
 have HX : Mf.dX c = ((n, m, ⟨D, A, fl, nx⟩), c6) := by
  unfold Mf.dX Mf.sb Mf.sp
  simp only [h1, h2, h3, h4, h5, h6]
 rw [HX] at hc1 hc2 ⊢
 simp only at hc1 hc2
 have HC1 := Lib.hid hc1
 have HC2 := Lib.hid hc2
 clear hc1 hc2
 have K1 := Lib.hid fun (W : World) (h : Ty.RS (w.heap.size + 1) t W c.1 c.2) => Mf.rcount_c (w.heap.size + 1) t ht c W h
 have K3 := Lib.hid fun (W : World) (h : Ty.RS (w.heap.size + 1) t W c2.1 c2.2) => Mf.rcount_c (w.heap.size + 1) t ht c2 W h
 have K5 := Lib.hid fun (W : World) (h : Ty.RS (w.heap.size + 1) t W c4.1 c4.2) => Mf.rcount_c (w.heap.size + 1) t ht c4 W h
 have K6 := Lib.hid fun (W : World) (h : Ty.RS (w.heap.size + 1) t W c5.1 c5.2) => Mf.rcount_c (w.heap.size + 1) t ht c5 W h
 rw [h1] at K1
 rw [h3] at K3
 rw [h5] at K5
 rw [h6] at K6
 have H2 := Lib.hid h2
 have H4 := Lib.hid h4
 obtain ⟨w0, hw0⟩ : ∃ w0, w0 = ((w.alloc (.cells Mf.z4 37)).alloc (.cells #[.string t, .int .i64 0, .int .i64 0] 82)).alloc (.cells Mf.z4 37) := ⟨_, rfl⟩
 have X0 : Hid (Mf.XR (w.heap.size + 1) w.heap.size (w.heap.size + 2) t w w0 (.slice none 0 0) (.slice none 0 0) 0 0 [] [] c) := Lib.hid (by
  have sa : (w.alloc (.cells Mf.z4 37)).heap.size = w.heap.size + 1 := World.size_alloc ..
  have sb : ((w.alloc (.cells Mf.z4 37)).alloc (.cells #[.string t, .int .i64 0, .int .i64 0] 82)).heap.size = w.heap.size + 2 := by rw [World.size_alloc, sa]
  have ga : Below w.heap.size w (w.alloc (.cells Mf.z4 37)) := (Below.refl _ _).alloc (Nat.le_refl _) _
  have gb := (Below.refl (w.alloc (.cells Mf.z4 37)).heap.size (w.alloc (.cells Mf.z4 37))).alloc (Nat.le_refl _) (.cells #[.string t, .int .i64 0, .int .i64 0] 82)
  have gc := (Below.refl ((w.alloc (.cells Mf.z4 37)).alloc (.cells #[.string t, .int .i64 0, .int .i64 0] 82)).heap.size ((w.alloc (.cells Mf.z4 37)).alloc (.cells #[.string t, .int .i64 0, .int .i64 0] 82))).alloc (Nat.le_refl _) (.cells Mf.z4 37)
  have b0 := heap_alloc_new w (.cells Mf.z4 37)
  have b1 := heap_alloc_new (w.alloc (.cells Mf.z4 37)) (.cells #[.string t, .int .i64 0, .int .i64 0] 82)
  have b2 := heap_alloc_new ((w.alloc (.cells Mf.z4 37)).alloc (.cells #[.string t, .int .i64 0, .int .i64 0] 82)) (.cells Mf.z4 37)
  rw [sa] at b1
  rw [sb, ← hw0] at b2
  rw [← hw0] at gc
  refine ⟨?_, ga.trans ((gb.trans (gc.mono gb.size)).mono ga.size), b2, ((gb.trans (gc.mono gb.size)).block w.heap.size (by rw [sa]; omega)).trans b0, Mf.Oi.nil _ _, Mf.Ow.nil _ _, Nat.le_refl _, by omega, by omega, by rw [hw0, World.size_alloc, sb]; omega⟩
  rw [hc]
  exact ⟨0, Nat.zero_le _, rfl, (gc.block (w.heap.size + 1) (by rw [sb]; omega)).trans b1⟩)
 unfold Mf.z4 at hw0
 clear h1 h2 h3 h4 h5 h6 HX hc
 go_enter Tryd.func18, Tryd.ntmps18
 go_wp2_with fail
 rw [← hw0]
 clear hw0
 with_reducible refine (K1.out w0 X0.out.rs).mono ?_
 rintro e w3 hg
 have X3 := Lib.hid (X0.out.went hg)
 obtain ⟨rfl, -, -⟩ := hg
 clear K1 X0
 go_wp2_with fail
 go_loopw [7] (fun i wr => ∃ (k : Nat) (vd : Value) (M : List Int) (ck : Mf.Ct), k ≤ n.toNat ∧ i = .int .i64 k ∧ Mf.XR (w.heap.size + 1) w.heap.size (w.heap.size + 2) t w wr vd (.slice none 0 0) 0 0 M [] ck ∧ (M ++ (Mf.gL Mf.go Mf.dC (n.toNat - k) ck).1, (Mf.gL Mf.go Mf.dC (n.toNat - k) ck).2) = (D, c2) ∧ M.length = k) (fun i _ => n.toNat - (intOf i).toNat)
 case atStart => exact ⟨0, _, [], c1, Nat.zero_le _, rfl, X3.out, H2.out, rfl⟩
 case round =>
  obtain ⟨k, vd, M, ck, hk, rfl, hX, hq, hl⟩ := hrel
  have hk0 : (0 : Int) ≤ (k : Int) := by omega
  have hk9 : (k : Int) ≤ 999999999 := by have := HN9.out.1; omega
  have XK := Lib.hid hX
  have c0 := hX.err
  by_cases hkl : k < n.toNat
  ·have hki : (k : Int) < n := by omega
   by_cases hgo : Mf.go ck = true
   ·have hst := Mf.gL_step (go := Mf.go) Mf.dC hkl ck hgo M
    have he0 : ck.2 = 0 := (Mf.go_iff ck).1 hgo
    rw [he0] at c0
    have C1 := Mf.rcount_c (w.heap.size + 1) t ht ck wr hX.rs
    obtain ⟨⟨x, cx⟩, hx⟩ : ∃ x, Mf.dC ck = x := ⟨_, rfl⟩
    rw [hx] at C1 hst
    have HNX := Lib.hid (hst.symm.trans hq)
    have HLN := Lib.hid hl
    have HKL := Lib.hid hkl
    clear hst hq hX hl hx he0
    go_wp2_with fail
    with_reducible refine C1.mono ?_
    rintro e w4 hg
    have X4 := Lib.hid (XK.out.went hg)
    obtain ⟨rfl, -, -⟩ := hg
    obtain ⟨⟨b0, -⟩, -⟩ := Mf.quad X4.out.box
    have X5 := Lib.hid (X4.out.kept ((Below.refl w4.heap.size w4).alloc (Nat.le_refl _) (.cells #[.int .i64 x] 3)))
    have HSR := Lib.hid (Dk.src_one (enc := Mf.ic) w4 x #[.int .i64 x] rfl 3)
    clear C1 c0
    go_wp2_with (at_builtin; refine Mf.wpList_int [x] X5.out.dr X5.out.size (by have := HLN.out; have := HKL.out; have := HN9.out.1; simp only [List.length_singleton]; omega) HSR.out (.tmp 35) (.tmp 37) (by rfl) (by rfl) (by rfl) (by rfl) ?_; intro v6 w6 o6 g6; obtain ⟨gv, cv, rfl, -, -⟩ := Dk.Own.form1 o6; have X6 := Lib.hid (X5.out.drops g6 o6); have hbx := (g6.by_.block (w.heap.size + 2) (lt_of_block X5.out.box) (fun e => by have := (World.ownsRow.lt X5.out.dr _ e.symm).1; omega)).trans X5.out.box; obtain ⟨⟨y0, -⟩, z0, -⟩ := Mf.quad hbx; clear o6 g6 hbx)
    go_wp2
    go_roundw
    case rel => exact ⟨k + 1, _, _, _, HKL.out, by simp, X6.out, HNX.out, by rw [List.length_append, HLN.out]; rfl⟩
    case measure => (have := HKL.out; simp [intOf]; omega)
   ·have hgf : Mf.go ck = false := by simpa using hgo
    rw [Mf.gL_stop Mf.dC _ _ hgf, List.append_nil] at hq
    simp only [Prod.mk.injEq] at hq
    obtain ⟨rfl, rfl⟩ := hq
    exact absurd (by omega) HC1.out
  ·have hki : ¬ (k : Int) < n := by omega
   rw [show n.toNat - k = 0 by omega, show Mf.gL Mf.go Mf.dC 0 ck = ([], ck) from rfl, List.append_nil] at hq
   simp only [Prod.mk.injEq] at hq
   obtain ⟨rfl, rfl⟩ := hq
   clear hX hl hk hkl HC1
   go_wp2_with fail
   with_reducible refine (K3.out wr XK.out.rs).mono ?_
   rintro e w4 hg
   have Y4 := Lib.hid (XK.out.went hg)
   obtain ⟨rfl, -, -⟩ := hg
   clear K3 XK X3
   go_wp2_with fail
   go_loopw [10] (fun i wr => ∃ (k : Nat) (va : Value) (P : List Mf.P) (ck : Mf.Ct), k ≤ m.toNat ∧ i = .int .i64 k ∧ Mf.XR (w.heap.size + 1) w.heap.size (w.heap.size + 2) t w wr vd va 0 0 M P ck ∧ (P ++ (Mf.gL Mf.go Mf.dP (m.toNat - k) ck).1, (Mf.gL Mf.go Mf.dP (m.toNat - k) ck).2) = (A, c4) ∧ P.length = k) (fun i _ => m.toNat - (intOf i).toNat)
   case atStart => exact ⟨0, _, [], c3, Nat.zero_le _, rfl, Y4.out, H4.out, rfl⟩
   case round =>
    obtain ⟨k2, va, P, ck, hk, rfl, hX, hq, hl⟩ := hrel
    have hk0 : (0 : Int) ≤ (k2 : Int) := by omega
    have hk9 : (k2 : Int) ≤ 999999999 := by have := HN9.out.2; omega
    have XR2 := Lib.hid hX
    have c0 := hX.err
    by_cases hkl : k2 < m.toNat
    ·have hki : (k2 : Int) < m := by omega
     by_cases hgo : Mf.go ck = true
     ·have hst := Mf.gL_step (go := Mf.go) Mf.dP hkl ck hgo P
      have he0 : ck.2 = 0 := (Mf.go_iff ck).1 hgo
      rw [he0] at c0
      obtain ⟨⟨i1, ca⟩, g1⟩ : ∃ x, Mf.dC ck = x := ⟨_, rfl⟩
      obtain ⟨⟨v1', cb⟩, g2⟩ : ∃ x, Mf.dC ca = x := ⟨_, rfl⟩
      obtain ⟨⟨⟨an, ai, sa⟩, cc⟩, g3⟩ : ∃ x, Mf.dV cb = x := ⟨_, rfl⟩
      obtain ⟨⟨⟨bn, bi, sb⟩, cd⟩, g4⟩ : ∃ x, Mf.dV cc = x := ⟨_, rfl⟩
      have hP : Mf.dP ck = (⟨i1, v1', ⟨an, ai, sa⟩, ⟨bn, bi, sb⟩⟩, cd) := by
       unfold Mf.dP Mf.sb Mf.sp
       simp only [g1, g2, g3, g4]
      rw [hP] at hst
      have HNX := Lib.hid (hst.symm.trans hq)
      have HLN := Lib.hid hl
      have C1 := Mf.rcount_c (w.heap.size + 1) t ht ck wr hX.rs
      rw [g1] at C1
      have C2 := Lib.hid fun (W : World) (h : Ty.RS (w.heap.size + 1) t W ca.1 ca.2) => Mf.rcount_c (w.heap.size + 1) t ht ca W h
      have C3 := Lib.hid fun (W : World) (h : Ty.RS (w.heap.size + 1) t W cb.1 cb.2) => Mf.rbound_c (w.heap.size + 1) t ht cb W h
      have C4 := Lib.hid fun (W : World) (h : Ty.RS (w.heap.size + 1) t W cc.1 cc.2) => Mf.rbound_c (w.heap.size + 1) t ht cc W h
      rw [g2] at C2
      rw [g3] at C3
      rw [g4] at C4
      unfold Kn.V.val at C3 C4
      simp only at C3 C4
      clear hst hq hX hl hP g1 g2 g3 g4
      go_wp2_with fail
      with_reducible refine C1.mono ?_
      rintro e w4 hg
      have X4 := Lib.hid (XR2.out.went hg)
      obtain ⟨rfl, -, -⟩ := hg
      clear C1 c0
      go_wp2_with fail
      with_reducible refine (C2.out w4 X4.out.rs).mono ?_
      rintro e w5 hg
      have X5 := Lib.hid (X4.out.went hg)
      obtain ⟨rfl, -, -⟩ := hg
      clear C2
      go_wp2_with fail
      with_reducible refine (C3.out w5 X5.out.rs).mono ?_
      rintro e w6 hg
      have X6 := Lib.hid (X5.out.went hg)
      obtain ⟨rfl, -, -⟩ := hg
      obtain ⟨w7, hw7⟩ : ∃ w7, w7 = w6.alloc (.cells #[.bool an, .int .i64 ai, .string sa] 42) := ⟨_, rfl⟩
      have X7 := Lib.hid (X6.out.kept (show Below w6.heap.size w6 w7 by rw [hw7]; exact (Below.refl _ _).alloc (Nat.le_refl _) _))
      have HV7 : Hid (w7.heap[w6.heap.size]? = some (.cells #[.bool an, .int .i64 ai, .string sa] 42 (0, 0))) := Lib.hid (by rw [hw7]; exact heap_alloc_new w6 _)
      clear C3
      go_wp2_with fail
      rw [← hw7]
      clear hw7
      with_reducible refine (C4.out w7 X7.out.rs).mono ?_
      rintro e w8 hg
      have HV8 := Lib.hid ((hg.2.2.block w6.heap.size (lt_of_block HV7.out) (by have := X6.out.size; omega) (by have := X6.out.size; omega)).trans HV7.out)
      have X8 := Lib.hid (X7.out.went hg)
      obtain ⟨rfl, -, -⟩ := hg
      obtain ⟨w9, hw9⟩ : ∃ w9, w9 = w8.alloc (.cells #[.bool bn, .int .i64 bi, .string sb] 42) := ⟨_, rfl⟩
      have g9 : Below w8.heap.size w8 w9 := by rw [hw9]; exact (Below.refl _ _).alloc (Nat.le_refl _) _
      have X9 := Lib.hid (X8.out.kept g9)
      have hu9 : w9.heap[w8.heap.size]? = some (.cells #[.bool bn, .int .i64 bi, .string sb] 42 (0, 0)) := by rw [hw9]; exact heap_alloc_new w8 _
      obtain ⟨⟨v0, v1, v2⟩, -⟩ := Mf.three ((g9.block w6.heap.size (lt_of_block HV8.out)).trans HV8.out)
      obtain ⟨⟨u0, u1, u2⟩, -⟩ := Mf.three hu9
      obtain ⟨⟨-, d1, -⟩, -⟩ := Mf.quad X9.out.box
      have X10 := Lib.hid (X9.out.kept ((Below.refl w9.heap.size w9).alloc (Nat.le_refl _) (.cells #[.int .i64 i1, .int .i64 v1', .bool an, .int .i64 ai, .string sa, .bool bn, .int .i64 bi, .string sb] 44)))
      have HSR := Lib.hid (Dk.src_one (enc := Mf.pc) w9 ⟨i1, v1', ⟨an, ai, sa⟩, ⟨bn, bi, sb⟩⟩ #[.int .i64 i1, .int .i64 v1', .bool an, .int .i64 ai, .string sa, .bool bn, .int .i64 bi, .string sb] rfl 44)
      have hs9 : w9.heap.size = w8.heap.size + 1 := by rw [hw9]; exact World.size_alloc ..
      rw [hs9] at HSR
      rw [hw9] at v0 v1 v2 u0 u1 u2 d1 X10 HSR
      clear hs9
      clear C4 g9 hu9 hw9
      go_wp2_with (at_builtin; refine Mf.wpList_part [⟨i1, v1', ⟨an, ai, sa⟩, ⟨bn, bi, sb⟩⟩] X10.out.ad X10.out.size (by have := HLN.out; have := HN9.out.2; simp only [List.length_singleton]; omega) HSR.out (.tmp 63) (.tmp 69) (by rfl) (by rfl) (by rfl) (by rfl) ?_; intro v11 w11 o11 g11; obtain ⟨gv, cv, rfl, -, -⟩ := Dk.Own.form1 o11; have X11 := Lib.hid (X10.out.adds g11 o11); have hbx := (g11.by_.block (w.heap.size + 2) (lt_of_block X10.out.box) (fun e => by have := (World.ownsRow.lt X10.out.ad _ e.symm).1; omega)).trans X10.out.box; obtain ⟨⟨-, y0, -⟩, -, z0, -⟩ := Mf.quad hbx; clear o11 g11 hbx)
      go_wp2
      go_roundw
      case rel => exact ⟨k2 + 1, _, _, _, by omega, by simp, X11.out, HNX.out, by rw [List.length_append, HLN.out]; rfl⟩
      case measure => (simp [intOf]; omega)
     ·have hgf : Mf.go ck = false := by simpa using hgo
      rw [Mf.gL_stop Mf.dP _ _ hgf, List.append_nil] at hq
      simp only [Prod.mk.injEq] at hq
      obtain ⟨rfl, rfl⟩ := hq
      have hne : ¬ ((ck.2 : Nat) : Int) = 0 := fun e => hgo ((Mf.go_iff ck).2 (by show ck.2 = 0; omega))
      clear hX hl hk hkl HC2
      go_wp2_with fail
      with_reducible refine (K5.out wr XR2.out.rs).mono ?_
      rintro e w5 hg
      have X5 := Lib.hid (XR2.out.went hg)
      obtain ⟨rfl, -, -⟩ := hg
      obtain ⟨⟨b0, b1, b2, b3⟩, f0, f1, f2, f3⟩ := Mf.quad X5.out.box
      have X6 := Lib.hid (X5.out.num (i := 2) (x := .int .i64 fl) (f' := fl) (n' := 0) (heap_setCell_same _ _ 2 _ _ _ X5.out.box))
      obtain ⟨w6, hw6⟩ : ∃ w6, w6 = w5.setCell ⟨w.heap.size + 2, 2, none⟩ (.int .i64 fl) := ⟨_, rfl⟩
      rw [← hw6] at X6
      go_wp2_with fail
      rw [← hw6]
      clear hw6 b0 b1 b2 b3 f0 f1 f2 f3 X5 XR2
      with_reducible refine (K6.out w6 X6.out.rs).mono ?_
      rintro e w7 hg
      have X7 := Lib.hid (X6.out.went hg)
      obtain ⟨rfl, -, -⟩ := hg
      obtain ⟨⟨b0, b1, b2, b3⟩, f0, f1, f2, f3⟩ := Mf.quad X7.out.box
      have X8 := Lib.hid (X7.out.num (i := 3) (x := .int .i64 nx) (f' := fl) (n' := nx) (heap_setCell_same _ _ 3 _ _ _ X7.out.box))
      obtain ⟨w8, hw8⟩ : ∃ w8, w8 = w7.setCell ⟨w.heap.size + 2, 3, none⟩ (.int .i64 nx) := ⟨_, rfl⟩
      rw [← hw8] at X8
      go_wp2_with fail
      rw [← hw8]
      clear hw8 b0 b1 b2 b3 f0 f1 f2 f3 X6 X7
      obtain ⟨ad, nd, cd, rfl⟩ : ∃ a n c, vd = .slice a n c := by
       obtain ⟨a, c, e, -⟩ := Mf.Oi.is X8.out.dr
       exact ⟨_, _, _, e⟩
      obtain ⟨aa, na, ca, rfl⟩ : ∃ a n c, va = .slice a n c := X8.out.ad.ps.form3
      have X8z := Lib.hid (Mf.XZ.of X8.out)
      have XN := Lib.hid (X8z.out.kept ((Below.refl _ _).drew))
      clear X8
      obtain ⟨⟨p0, p1, p2, p3⟩, -⟩ := Mf.quad X8z.out.box; obtain ⟨⟨y0, y1, y2, y3⟩, z0, z1, z2, z3⟩ := Mf.quad X8z.out.res
      obtain ⟨⟨p0, p1, p2, p3⟩, -⟩ := Mf.quad XN.out.box; obtain ⟨⟨y0, y1, y2, y3⟩, z0, z1, z2, z3⟩ := Mf.quad XN.out.res
      have CD := Lib.hid fun (W : World) (h : Ty.RS (w.heap.size + 1) t W c6.1 c6.2) => Ty.rdone_m (w.heap.size + 1) t ht c6.1 c6.2 W h
      have CR := Lib.hid fun (W : World) (h1 : Mf.Is W (.slice ad nd cd) M) (h2 : Mf.Ps W (.slice aa na ca) P) => Mf.rright_c (.slice ad nd cd) (.slice aa na ca) ⟨M, P, fl, nx⟩ W h1 h2
      generalize hF : Ty.fin c6.1 c6.2 = F at CD
      simp only at CR
      generalize hG : Mf.right ⟨M, P, fl, nx⟩ = G at CR
      by_cases hn0 : 0 ≤ n
      ·by_cases hm0 : 0 ≤ m
       ·by_cases hF0 : F = 0
        ·have HOK : Hid (G = Mf.dok ((n, m, ⟨M, P, fl, nx⟩), c6)) := Lib.hid (by unfold Mf.dok; simp only; rw [hF, hG, hF0, decide_eq_true hn0, decide_eq_true hm0]; rfl)
         subst hF0
         clear hF hG
         go_region_held3 (fun W => W.cell? ⟨w.heap.size + 2, 0, none⟩ = some (.slice ad nd cd) ∧ W.cell? ⟨w.heap.size + 2, 1, none⟩ = some (.slice aa na ca) ∧ W.cell? ⟨w.heap.size + 2, 2, none⟩ = some (.int .i64 fl) ∧ W.cell? ⟨w.heap.size + 2, 3, none⟩ = some (.int .i64 nx))
          (first | exact (Mf.quad XN.out.box).1 | exact (Mf.quad XD.out.box).1 | exact (Mf.quad XE.out.box).1 | exact (Mf.quad XE.out.store.box).1 | exact (Mf.quad XD.out.store.box).1 | exact (Mf.quad XS.out.box).1)
          (first | (go_at_call 39; refine (CD.out _ XN.out.rs).mono ?_; rintro e wd hg; have XD := Lib.hid (XN.out.went hg); obtain ⟨rfl, -, -⟩ := hg; obtain ⟨⟨p0, p1, p2, p3⟩, -⟩ := Mf.quad XD.out.box; obtain ⟨⟨y0, y1, y2, y3⟩, z0, z1, z2, z3⟩ := Mf.quad XD.out.res) | (go_at_call 40; refine (CR.out _ (Mf.Oi.is XD.out.dr) XD.out.ad.ps).mono ?_; rintro e wr9 ⟨rfl, hg⟩; have XE := Lib.hid (XD.out.kept hg); clear hg; obtain ⟨⟨p0, p1, p2, p3⟩, -⟩ := Mf.quad XE.out.box; obtain ⟨⟨y0, y1, y2, y3⟩, z0, z1, z2, z3⟩ := Mf.quad XE.out.res))
         all_goals go_wp2
         all_goals (try simp only [Exit.inBlock, Exit.then])
         all_goals first
          | (refine bodyPost_ret (v := .tuple #[.agg #[.slice ad nd cd, .slice aa na ca, .int .i64 fl, .int .i64 nx], .bool G]) ?_ rfl (Mf.GotR.mk HOK.out (World.ownsRow.mono XE.out.store.dr (by omega)) (World.ownsRow.mono XE.out.store.ad (by omega)) XE.out.store.below); rw [results_cell_tmp rfl]; go_simp; done)
        ·have HOK : Hid (false = Mf.dok ((n, m, ⟨M, P, fl, nx⟩), c6)) := Lib.hid (by unfold Mf.dok; simp only; rw [hF]; simp [hF0])
         have hFI : (((F : Nat) : Int) == 0) = false := beq_eq_false_iff_ne.2 (by omega)
         clear hF hG hF0
         refine wp_region_held_drew (S := (fun W => W.cell? ⟨w.heap.size + 2, 0, none⟩ = some (.slice ad nd cd) ∧ W.cell? ⟨w.heap.size + 2, 1, none⟩ = some (.slice aa na ca) ∧ W.cell? ⟨w.heap.size + 2, 2, none⟩ = some (.int .i64 fl) ∧ W.cell? ⟨w.heap.size + 2, 3, none⟩ = some (.int .i64 nx))) (by kernel_rfl) (Mf.quad XN.out.box).1 (fun hHeld => ?_)
         refine wpAnyH_take (i := 0) (v := ?vx0) rfl (by kernel_rfl) (by kernel_rfl) (by kernel_rfl) (fun _ _ _ h => h) (Or.inl ⟨by rfl, ?hyx0⟩) (by assumption) ?restx0
         case hyx0 =>
          intro W9 hSw
          (try dsimp only at hSw)
          go_simp
          try with_reducible rfl
         (try simp only [List.getElem_toArray])
         (try simp only [List.getElem_cons_succ])
         (try simp only [List.getElem_cons_zero])
         (try simp only [Act.put])
         (try simp only [List.setIfInBounds_toArray])
         (try simp only [List.set_cons_succ])
         (try simp only [List.set_cons_zero])
         refine wpAnyH_take (i := 1) (v := ?vx1) rfl (by kernel_rfl) (by kernel_rfl) (by kernel_rfl) (fun _ _ _ h => h) (Or.inl ⟨by rfl, ?hyx1⟩) (by assumption) ?restx1
         case hyx1 =>
          intro W9 hSw
          (try dsimp only at hSw)
          go_simp
          try with_reducible rfl
         (try simp only [List.getElem_toArray])
         (try simp only [List.getElem_cons_succ])
         (try simp only [List.getElem_cons_zero])
         (try simp only [Act.put])
         (try simp only [List.setIfInBounds_toArray])
         (try simp only [List.set_cons_succ])
         (try simp only [List.set_cons_zero])
         refine wpAnyH_take (i := 2) (v := ?vx2) rfl (by kernel_rfl) (by kernel_rfl) (by kernel_rfl) (fun _ _ _ h => h) (Or.inl ⟨by rfl, ?hyx2⟩) (by assumption) ?restx2
         case hyx2 =>
          intro W9 hSw
          (try dsimp only at hSw)
          go_simp
          try with_reducible rfl
         (try simp only [List.getElem_toArray])
         (try simp only [List.getElem_cons_succ])
         (try simp only [List.getElem_cons_zero])
         (try simp only [Act.put])
         (try simp only [List.setIfInBounds_toArray])
         (try simp only [List.set_cons_succ])
         (try simp only [List.set_cons_zero])
         refine wpAnyH_take (i := 3) (v := ?vx3) rfl (by kernel_rfl) (by kernel_rfl) (by kernel_rfl) (fun _ _ _ h => h) (Or.inl ⟨by rfl, ?hyx3⟩) (by assumption) ?restx3
         case hyx3 =>
          intro W9 hSw
          (try dsimp only at hSw)
          go_simp
          try with_reducible rfl
         (try simp only [List.getElem_toArray])
         (try simp only [List.getElem_cons_succ])
         (try simp only [List.getElem_cons_zero])
         (try simp only [Act.put])
         (try simp only [List.setIfInBounds_toArray])
         (try simp only [List.set_cons_succ])
         (try simp only [List.set_cons_zero])
         refine wpAnyH_take (i := 4) (v := ?vx4) rfl (by kernel_rfl) (by kernel_rfl) (by kernel_rfl) (fun _ _ _ h => h) (Or.inl ⟨by rfl, ?hyx4⟩) (by assumption) ?restx4
         case hyx4 =>
          intro W9 hSw
          (try dsimp only at hSw)
          go_simp
          try with_reducible rfl
         (try simp only [List.getElem_toArray])
         (try simp only [List.getElem_cons_succ])
         (try simp only [List.getElem_cons_zero])
         (try simp only [Act.put])
         (try simp only [List.setIfInBounds_toArray])
         (try simp only [List.set_cons_succ])
         (try simp only [List.set_cons_zero])
         refine wpAnyH_take (i := 5) (v := ?vx5) rfl (by kernel_rfl) (by kernel_rfl) (by kernel_rfl) (fun _ _ _ h => h) (Or.inl ⟨by rfl, ?hyx5⟩) (by assumption) ?restx5
         case hyx5 =>
          intro W9 hSw
          (try dsimp only at hSw)
          go_simp
          try with_reducible rfl
         (try simp only [List.getElem_toArray])
         (try simp only [List.getElem_cons_succ])
         (try simp only [List.getElem_cons_zero])
         (try simp only [Act.put])
         (try simp only [List.setIfInBounds_toArray])
         (try simp only [List.set_cons_succ])
         (try simp only [List.set_cons_zero])
         refine wpAnyH_take (i := 6) (v := ?vx6) rfl (by kernel_rfl) (by kernel_rfl) (by kernel_rfl) (fun _ _ _ h => h) (Or.inl ⟨by rfl, ?hyx6⟩) (by assumption) ?restx6
         case hyx6 =>
          intro W9 hSw
          (try dsimp only at hSw)
          go_simp
          try with_reducible rfl
         (try simp only [List.getElem_toArray])
         (try simp only [List.getElem_cons_succ])
         (try simp only [List.getElem_cons_zero])
         (try simp only [Act.put])
         (try simp only [List.setIfInBounds_toArray])
         (try simp only [List.set_cons_succ])
         (try simp only [List.set_cons_zero])
         refine wpAnyH_take (i := 7) (v := ?vx7) rfl (by kernel_rfl) (by kernel_rfl) (by kernel_rfl) (fun _ _ _ h => h) (Or.inl ⟨by rfl, ?hyx7⟩) (by assumption) ?restx7
         case hyx7 =>
          intro W9 hSw
          (try dsimp only at hSw)
          go_simp
          try with_reducible rfl
         (try simp only [List.getElem_toArray])
         (try simp only [List.getElem_cons_succ])
         (try simp only [List.getElem_cons_zero])
         (try simp only [Act.put])
         (try simp only [List.setIfInBounds_toArray])
         (try simp only [List.set_cons_succ])
         (try simp only [List.set_cons_zero])
         refine wpAnyH_take (i := 8) (v := ?vx8) rfl (by kernel_rfl) (by kernel_rfl) (by kernel_rfl) (fun _ _ _ h => h) (Or.inl ⟨by rfl, ?hyx8⟩) (by assumption) ?restx8
         case hyx8 =>
          intro W9 hSw
          (try dsimp only at hSw)
          go_simp
          try with_reducible rfl
         (try simp only [List.getElem_toArray])
         (try simp only [List.getElem_cons_succ])
         (try simp only [List.getElem_cons_zero])
         (try simp only [Act.put])
         (try simp only [List.setIfInBounds_toArray])
         (try simp only [List.set_cons_succ])
         (try simp only [List.set_cons_zero])
         refine wpAnyH_ready (rs := [9]) (by kernel_rfl) (by simp) ?_
         refine AllReadyH.cons rfl (fun K hK => ?_) AllReadyH.nil
         (go_simp; go_at_call 39; refine (CD.out _ XN.out.rs).mono ?_; rintro e wd hg; have XD := Lib.hid (XN.out.went hg); obtain ⟨rfl, -, -⟩ := hg; obtain ⟨⟨p0, p1, p2, p3⟩, -⟩ := Mf.quad XD.out.box; obtain ⟨⟨y0, y1, y2, y3⟩, z0, z1, z2, z3⟩ := Mf.quad XD.out.res)
         refine hK.out _ _ (Mf.quad XD.out.box).1 (fun hHeld => ?_)
         clear hK K
         (try simp only [List.getElem_toArray])
         (try simp only [List.getElem_cons_succ])
         (try simp only [List.getElem_cons_zero])
         (try simp only [Act.put])
         (try simp only [List.setIfInBounds_toArray])
         (try simp only [List.set_cons_succ])
         (try simp only [List.set_cons_zero])
         refine wpAnyH_take (i := 10) (v := ?vx10) rfl (by kernel_rfl) (by kernel_rfl) (by kernel_rfl) (fun _ _ _ h => h) (Or.inl ⟨by rfl, ?hyx10⟩) (by assumption) ?restx10
         case hyx10 =>
          intro W9 hSw
          (try dsimp only at hSw)
          go_simp
          try with_reducible rfl
         (try simp only [List.getElem_toArray])
         (try simp only [List.getElem_cons_succ])
         (try simp only [List.getElem_cons_zero])
         (try simp only [Act.put])
         (try simp only [List.setIfInBounds_toArray])
         (try simp only [List.set_cons_succ])
         (try simp only [List.set_cons_zero])
         refine wpAnyH_take (i := 11) (v := ?vx11) rfl (by kernel_rfl) (by kernel_rfl) (by kernel_rfl) (fun _ _ _ h => h) (Or.inl ⟨by rfl, ?hyx11⟩) (by assumption) ?restx11
         case hyx11 =>
          intro W9 hSw
          (try dsimp only at hSw)
          go_simp
          try with_reducible rfl
         (try simp only [List.getElem_toArray])
         (try simp only [List.getElem_cons_succ])
         (try simp only [List.getElem_cons_zero])
         (try simp only [Act.put])
         (try simp only [List.setIfInBounds_toArray])
         (try simp only [List.set_cons_succ])
         (try simp only [List.set_cons_zero])
         refine wpAnyH_take (i := 12) (v := ?vx12) rfl (by kernel_rfl) (by kernel_rfl) (by kernel_rfl) (fun _ _ _ h => h) (Or.inl ⟨by rfl, ?hyx12⟩) (by assumption) ?restx12
         case hyx12 =>
          intro W9 hSw
          (try dsimp only at hSw)
          go_simp
          try with_reducible rfl
         (try simp only [List.getElem_toArray])
         (try simp only [List.getElem_cons_succ])
         (try simp only [List.getElem_cons_zero])
         (try simp only [Act.put])
         (try simp only [List.setIfInBounds_toArray])
         (try simp only [List.set_cons_succ])
         (try simp only [List.set_cons_zero])
         refine wpAnyH_take (i := 13) (v := undef) rfl (by kernel_rfl) (by kernel_rfl) (by kernel_rfl) (fun _ _ _ h => h) (Or.inr ⟨by rfl, rfl⟩) (by assumption) ?_
         (try simp only [List.getElem_toArray])
         (try simp only [List.getElem_cons_succ])
         (try simp only [List.getElem_cons_zero])
         (try simp only [Act.put])
         (try simp only [List.setIfInBounds_toArray])
         (try simp only [List.set_cons_succ])
         (try simp only [List.set_cons_zero])
         refine wpAnyH_take (i := 14) (v := undef) rfl (by kernel_rfl) (by kernel_rfl) (by kernel_rfl) (fun _ _ _ h => h) (Or.inr ⟨by rfl, rfl⟩) (by assumption) ?_
         (try simp only [List.getElem_toArray])
         (try simp only [List.getElem_cons_succ])
         (try simp only [List.getElem_cons_zero])
         (try simp only [Act.put])
         (try simp only [List.setIfInBounds_toArray])
         (try simp only [List.set_cons_succ])
         (try simp only [List.set_cons_zero])
         refine wpAnyH_take (i := 15) (v := ?vx15) rfl (by kernel_rfl) (by kernel_rfl) (by kernel_rfl) (fun _ _ _ h => h) (Or.inl ⟨by rfl, ?hyx15⟩) (by assumption) ?restx15
         case hyx15 =>
          intro W9 hSw
          (try dsimp only at hSw)
          go_simp
          try with_reducible rfl
         (try simp only [List.getElem_toArray])
         (try simp only [List.getElem_cons_succ])
         (try simp only [List.getElem_cons_zero])
         (try simp only [Act.put])
         (try simp only [List.setIfInBounds_toArray])
         (try simp only [List.set_cons_succ])
         (try simp only [List.set_cons_zero])
         refine wpAnyH_ready (rs := [16]) (by kernel_rfl) (by simp) ?_
         refine AllReadyH.cons rfl (fun K hK => ?_) AllReadyH.nil
         go_simp
         refine hK.out _ _ (Mf.quad XD.out.store.box).1 (fun hHeld => ?_)
         clear hK K
         (try simp only [List.getElem_toArray])
         (try simp only [List.getElem_cons_succ])
         (try simp only [List.getElem_cons_zero])
         (try simp only [Act.put])
         (try simp only [List.setIfInBounds_toArray])
         (try simp only [List.set_cons_succ])
         (try simp only [List.set_cons_zero])
         refine wpAnyH_take (i := 17) (v := ?vx17) rfl (by kernel_rfl) (by kernel_rfl) (by kernel_rfl) (fun _ _ _ h => h) (Or.inl ⟨by rfl, ?hyx17⟩) (by assumption) ?restx17
         case hyx17 =>
          intro W9 hSw
          (try dsimp only at hSw)
          go_simp
          try with_reducible rfl
         (try simp only [List.getElem_toArray])
         (try simp only [List.getElem_cons_succ])
         (try simp only [List.getElem_cons_zero])
         (try simp only [Act.put])
         (try simp only [List.setIfInBounds_toArray])
         (try simp only [List.set_cons_succ])
         (try simp only [List.set_cons_zero])
         refine wpAnyH_done (by kernel_rfl) ?_ _
         all_goals go_wp2
         all_goals (try simp only [Exit.inBlock, Exit.then])
         all_goals first
          | (refine bodyPost_ret (v := .tuple #[.agg #[.slice ad nd cd, .slice aa na ca, .int .i64 fl, .int .i64 nx], .bool false]) ?_ rfl (Mf.GotR.mk HOK.out (World.ownsRow.mono XD.out.store.dr (by omega)) (World.ownsRow.mono XD.out.store.ad (by omega)) XD.out.store.below); rw [results_cell_tmp rfl]; go_simp; done)
       ·have HOK : Hid (false = Mf.dok ((n, m, ⟨M, P, fl, nx⟩), c6)) := Lib.hid (by unfold Mf.dok; simp [hm0])
        refine wp_region_held_drew (S := (fun W => W.cell? ⟨w.heap.size + 2, 0, none⟩ = some (.slice ad nd cd) ∧ W.cell? ⟨w.heap.size + 2, 1, none⟩ = some (.slice aa na ca) ∧ W.cell? ⟨w.heap.size + 2, 2, none⟩ = some (.int .i64 fl) ∧ W.cell? ⟨w.heap.size + 2, 3, none⟩ = some (.int .i64 nx))) (by kernel_rfl) (Mf.quad XN.out.box).1 (fun hHeld => ?_)
        refine wpAnyH_take (i := 0) (v := ?vy0) rfl (by kernel_rfl) (by kernel_rfl) (by kernel_rfl) (fun _ _ _ h => h) (Or.inl ⟨by rfl, ?hyy0⟩) (by assumption) ?resty0
        case hyy0 =>
         intro W9 hSw
         (try dsimp only at hSw)
         go_simp
         try with_reducible rfl
        (try simp only [List.getElem_toArray])
        (try simp only [List.getElem_cons_succ])
        (try simp only [List.getElem_cons_zero])
        (try simp only [Act.put])
        (try simp only [List.setIfInBounds_toArray])
        (try simp only [List.set_cons_succ])
        (try simp only [List.set_cons_zero])
        refine wpAnyH_take (i := 1) (v := ?vy1) rfl (by kernel_rfl) (by kernel_rfl) (by kernel_rfl) (fun _ _ _ h => h) (Or.inl ⟨by rfl, ?hyy1⟩) (by assumption) ?resty1
        case hyy1 =>
         intro W9 hSw
         (try dsimp only at hSw)
         go_simp
         try with_reducible rfl
        (try simp only [List.getElem_toArray])
        (try simp only [List.getElem_cons_succ])
        (try simp only [List.getElem_cons_zero])
        (try simp only [Act.put])
        (try simp only [List.setIfInBounds_toArray])
        (try simp only [List.set_cons_succ])
        (try simp only [List.set_cons_zero])
        refine wpAnyH_take (i := 2) (v := ?vy2) rfl (by kernel_rfl) (by kernel_rfl) (by kernel_rfl) (fun _ _ _ h => h) (Or.inl ⟨by rfl, ?hyy2⟩) (by assumption) ?resty2
        case hyy2 =>
         intro W9 hSw
         (try dsimp only at hSw)
         go_simp
         try with_reducible rfl
        (try simp only [List.getElem_toArray])
        (try simp only [List.getElem_cons_succ])
        (try simp only [List.getElem_cons_zero])
        (try simp only [Act.put])
        (try simp only [List.setIfInBounds_toArray])
        (try simp only [List.set_cons_succ])
        (try simp only [List.set_cons_zero])
        refine wpAnyH_take (i := 3) (v := ?vy3) rfl (by kernel_rfl) (by kernel_rfl) (by kernel_rfl) (fun _ _ _ h => h) (Or.inl ⟨by rfl, ?hyy3⟩) (by assumption) ?resty3
        case hyy3 =>
         intro W9 hSw
         (try dsimp only at hSw)
         go_simp
         try with_reducible rfl
        (try simp only [List.getElem_toArray])
        (try simp only [List.getElem_cons_succ])
        (try simp only [List.getElem_cons_zero])
        (try simp only [Act.put])
        (try simp only [List.setIfInBounds_toArray])
        (try simp only [List.set_cons_succ])
        (try simp only [List.set_cons_zero])
        refine wpAnyH_take (i := 4) (v := ?vy4) rfl (by kernel_rfl) (by kernel_rfl) (by kernel_rfl) (fun _ _ _ h => h) (Or.inl ⟨by rfl, ?hyy4⟩) (by assumption) ?resty4
        case hyy4 =>
         intro W9 hSw
         (try dsimp only at hSw)
         go_simp
         try with_reducible rfl
        (try simp only [List.getElem_toArray])
        (try simp only [List.getElem_cons_succ])
        (try simp only [List.getElem_cons_zero])
        (try simp only [Act.put])
        (try simp only [List.setIfInBounds_toArray])
        (try simp only [List.set_cons_succ])
        (try simp only [List.set_cons_zero])
        refine wpAnyH_take (i := 5) (v := ?vy5) rfl (by kernel_rfl) (by kernel_rfl) (by kernel_rfl) (fun _ _ _ h => h) (Or.inl ⟨by rfl, ?hyy5⟩) (by assumption) ?resty5
        case hyy5 =>
         intro W9 hSw
         (try dsimp only at hSw)
         go_simp
         try with_reducible rfl
        (try simp only [List.getElem_toArray])
        (try simp only [List.getElem_cons_succ])
        (try simp only [List.getElem_cons_zero])
        (try simp only [Act.put])
        (try simp only [List.setIfInBounds_toArray])
        (try simp only [List.set_cons_succ])
        (try simp only [List.set_cons_zero])
        refine wpAnyH_take (i := 6) (v := ?vy6) rfl (by kernel_rfl) (by kernel_rfl) (by kernel_rfl) (fun _ _ _ h => h) (Or.inl ⟨by rfl, ?hyy6⟩) (by assumption) ?resty6
        case hyy6 =>
         intro W9 hSw
         (try dsimp only at hSw)
         go_simp
         try with_reducible rfl
        (try simp only [List.getElem_toArray])
        (try simp only [List.getElem_cons_succ])
        (try simp only [List.getElem_cons_zero])
        (try simp only [Act.put])
        (try simp only [List.setIfInBounds_toArray])
        (try simp only [List.set_cons_succ])
        (try simp only [List.set_cons_zero])
        refine wpAnyH_take (i := 7) (v := ?vy7) rfl (by kernel_rfl) (by kernel_rfl) (by kernel_rfl) (fun _ _ _ h => h) (Or.inl ⟨by rfl, ?hyy7⟩) (by assumption) ?resty7
        case hyy7 =>
         intro W9 hSw
         (try dsimp only at hSw)
         go_simp
         try with_reducible rfl
        (try simp only [List.getElem_toArray])
        (try simp only [List.getElem_cons_succ])
        (try simp only [List.getElem_cons_zero])
        (try simp only [Act.put])
        (try simp only [List.setIfInBounds_toArray])
        (try simp only [List.set_cons_succ])
        (try simp only [List.set_cons_zero])
        refine wpAnyH_take (i := 8) (v := undef) rfl (by kernel_rfl) (by kernel_rfl) (by kernel_rfl) (fun _ _ _ h => h) (Or.inr ⟨by rfl, rfl⟩) (by assumption) ?_
        (try simp only [List.getElem_toArray])
        (try simp only [List.getElem_cons_succ])
        (try simp only [List.getElem_cons_zero])
        (try simp only [Act.put])
        (try simp only [List.setIfInBounds_toArray])
        (try simp only [List.set_cons_succ])
        (try simp only [List.set_cons_zero])
        refine wpAnyH_take (i := 9) (v := undef) rfl (by kernel_rfl) (by kernel_rfl) (by kernel_rfl) (fun _ _ _ h => h) (Or.inr ⟨by rfl, rfl⟩) (by assumption) ?_
        (try simp only [List.getElem_toArray])
        (try simp only [List.getElem_cons_succ])
        (try simp only [List.getElem_cons_zero])
        (try simp only [Act.put])
        (try simp only [List.setIfInBounds_toArray])
        (try simp only [List.set_cons_succ])
        (try simp only [List.set_cons_zero])
        refine wpAnyH_take (i := 10) (v := undef) rfl (by kernel_rfl) (by kernel_rfl) (by kernel_rfl) (fun _ _ _ h => h) (Or.inr ⟨by rfl, rfl⟩) (by assumption) ?_
        (try simp only [List.getElem_toArray])
        (try simp only [List.getElem_cons_succ])
        (try simp only [List.getElem_cons_zero])
        (try simp only [Act.put])
        (try simp only [List.setIfInBounds_toArray])
        (try simp only [List.set_cons_succ])
        (try simp only [List.set_cons_zero])
        refine wpAnyH_take (i := 11) (v := ?vy11) rfl (by kernel_rfl) (by kernel_rfl) (by kernel_rfl) (fun _ _ _ h => h) (Or.inl ⟨by rfl, ?hyy11⟩) (by assumption) ?resty11
        case hyy11 =>
         intro W9 hSw
         (try dsimp only at hSw)
         go_simp
         try with_reducible rfl
        (try simp only [List.getElem_toArray])
        (try simp only [List.getElem_cons_succ])
        (try simp only [List.getElem_cons_zero])
        (try simp only [Act.put])
        (try simp only [List.setIfInBounds_toArray])
        (try simp only [List.set_cons_succ])
        (try simp only [List.set_cons_zero])
        refine wpAnyH_take (i := 12) (v := ?vy12) rfl (by kernel_rfl) (by kernel_rfl) (by kernel_rfl) (fun _ _ _ h => h) (Or.inl ⟨by rfl, ?hyy12⟩) (by assumption) ?resty12
        case hyy12 =>
         intro W9 hSw
         (try dsimp only at hSw)
         go_simp
         try with_reducible rfl
        (try simp only [List.getElem_toArray])
        (try simp only [List.getElem_cons_succ])
        (try simp only [List.getElem_cons_zero])
        (try simp only [Act.put])
        (try simp only [List.setIfInBounds_toArray])
        (try simp only [List.set_cons_succ])
        (try simp only [List.set_cons_zero])
        refine wpAnyH_take (i := 13) (v := undef) rfl (by kernel_rfl) (by kernel_rfl) (by kernel_rfl) (fun _ _ _ h => h) (Or.inr ⟨by rfl, rfl⟩) (by assumption) ?_
        (try simp only [List.getElem_toArray])
        (try simp only [List.getElem_cons_succ])
        (try simp only [List.getElem_cons_zero])
        (try simp only [Act.put])
        (try simp only [List.setIfInBounds_toArray])
        (try simp only [List.set_cons_succ])
        (try simp only [List.set_cons_zero])
        refine wpAnyH_take (i := 14) (v := undef) rfl (by kernel_rfl) (by kernel_rfl) (by kernel_rfl) (fun _ _ _ h => h) (Or.inr ⟨by rfl, rfl⟩) (by assumption) ?_
        (try simp only [List.getElem_toArray])
        (try simp only [List.getElem_cons_succ])
        (try simp only [List.getElem_cons_zero])
        (try simp only [Act.put])
        (try simp only [List.setIfInBounds_toArray])
        (try simp only [List.set_cons_succ])
        (try simp only [List.set_cons_zero])
        refine wpAnyH_take (i := 15) (v := ?vy15) rfl (by kernel_rfl) (by kernel_rfl) (by kernel_rfl) (fun _ _ _ h => h) (Or.inl ⟨by rfl, ?hyy15⟩) (by assumption) ?resty15
        case hyy15 =>
         intro W9 hSw
         (try dsimp only at hSw)
         go_simp
         try with_reducible rfl
        (try simp only [List.getElem_toArray])
        (try simp only [List.getElem_cons_succ])
        (try simp only [List.getElem_cons_zero])
        (try simp only [Act.put])
        (try simp only [List.setIfInBounds_toArray])
        (try simp only [List.set_cons_succ])
        (try simp only [List.set_cons_zero])
        refine wpAnyH_ready (rs := [16]) (by kernel_rfl) (by simp) ?_
        refine AllReadyH.cons rfl (fun K hK => ?_) AllReadyH.nil
        go_simp
        refine hK.out _ _ (Mf.quad XN.out.store.box).1 (fun hHeld => ?_)
        clear hK K
        (try simp only [List.getElem_toArray])
        (try simp only [List.getElem_cons_succ])
        (try simp only [List.getElem_cons_zero])
        (try simp only [Act.put])
        (try simp only [List.setIfInBounds_toArray])
        (try simp only [List.set_cons_succ])
        (try simp only [List.set_cons_zero])
        refine wpAnyH_take (i := 17) (v := ?vy17) rfl (by kernel_rfl) (by kernel_rfl) (by kernel_rfl) (fun _ _ _ h => h) (Or.inl ⟨by rfl, ?hyy17⟩) (by assumption) ?resty17
        case hyy17 =>
         intro W9 hSw
         (try dsimp only at hSw)
         go_simp
         try with_reducible rfl
        (try simp only [List.getElem_toArray])
        (try simp only [List.getElem_cons_succ])
        (try simp only [List.getElem_cons_zero])
        (try simp only [Act.put])
        (try simp only [List.setIfInBounds_toArray])
        (try simp only [List.set_cons_succ])
        (try simp only [List.set_cons_zero])
        refine wpAnyH_done (by kernel_rfl) ?_ _
        all_goals go_wp2
        all_goals (try simp only [Exit.inBlock, Exit.then])
        all_goals first
         | (refine bodyPost_ret (v := .tuple #[.agg #[.slice ad nd cd, .slice aa na ca, .int .i64 fl, .int .i64 nx], .bool false]) ?_ rfl (Mf.GotR.mk HOK.out (World.ownsRow.mono XN.out.store.dr (by omega)) (World.ownsRow.mono XN.out.store.ad (by omega)) XN.out.store.below); rw [results_cell_tmp rfl]; go_simp; done)
      ·have HOK : Hid (false = Mf.dok ((n, m, ⟨M, P, fl, nx⟩), c6)) := Lib.hid (by unfold Mf.dok; simp [hn0])
       refine wp_region_held_drew (S := (fun W => W.cell? ⟨w.heap.size + 2, 0, none⟩ = some (.slice ad nd cd) ∧ W.cell? ⟨w.heap.size + 2, 1, none⟩ = some (.slice aa na ca) ∧ W.cell? ⟨w.heap.size + 2, 2, none⟩ = some (.int .i64 fl) ∧ W.cell? ⟨w.heap.size + 2, 3, none⟩ = some (.int .i64 nx))) (by kernel_rfl) (Mf.quad XN.out.box).1 (fun hHeld => ?_)
       refine wpAnyH_take (i := 0) (v := ?vz0) rfl (by kernel_rfl) (by kernel_rfl) (by kernel_rfl) (fun _ _ _ h => h) (Or.inl ⟨by rfl, ?hyz0⟩) (by assumption) ?restz0
       case hyz0 =>
        intro W9 hSw
        (try dsimp only at hSw)
        go_simp
        try with_reducible rfl
       (try simp only [List.getElem_toArray])
       (try simp only [List.getElem_cons_succ])
       (try simp only [List.getElem_cons_zero])
       (try simp only [Act.put])
       (try simp only [List.setIfInBounds_toArray])
       (try simp only [List.set_cons_succ])
       (try simp only [List.set_cons_zero])
       refine wpAnyH_take (i := 1) (v := ?vz1) rfl (by kernel_rfl) (by kernel_rfl) (by kernel_rfl) (fun _ _ _ h => h) (Or.inl ⟨by rfl, ?hyz1⟩) (by assumption) ?restz1
       case hyz1 =>
        intro W9 hSw
        (try dsimp only at hSw)
        go_simp
        try with_reducible rfl
       (try simp only [List.getElem_toArray])
       (try simp only [List.getElem_cons_succ])
       (try simp only [List.getElem_cons_zero])
       (try simp only [Act.put])
       (try simp only [List.setIfInBounds_toArray])
       (try simp only [List.set_cons_succ])
       (try simp only [List.set_cons_zero])
       refine wpAnyH_take (i := 2) (v := ?vz2) rfl (by kernel_rfl) (by kernel_rfl) (by kernel_rfl) (fun _ _ _ h => h) (Or.inl ⟨by rfl, ?hyz2⟩) (by assumption) ?restz2
       case hyz2 =>
        intro W9 hSw
        (try dsimp only at hSw)
        go_simp
        try with_reducible rfl
       (try simp only [List.getElem_toArray])
       (try simp only [List.getElem_cons_succ])
       (try simp only [List.getElem_cons_zero])
       (try simp only [Act.put])
       (try simp only [List.setIfInBounds_toArray])
       (try simp only [List.set_cons_succ])
       (try simp only [List.set_cons_zero])
       refine wpAnyH_take (i := 3) (v := ?vz3) rfl (by kernel_rfl) (by kernel_rfl) (by kernel_rfl) (fun _ _ _ h => h) (Or.inl ⟨by rfl, ?hyz3⟩) (by assumption) ?restz3
       case hyz3 =>
        intro W9 hSw
        (try dsimp only at hSw)
        go_simp
        try with_reducible rfl
       (try simp only [List.getElem_toArray])
       (try simp only [List.getElem_cons_succ])
       (try simp only [List.getElem_cons_zero])
       (try simp only [Act.put])
       (try simp only [List.setIfInBounds_toArray])
       (try simp only [List.set_cons_succ])
       (try simp only [List.set_cons_zero])
       refine wpAnyH_take (i := 4) (v := undef) rfl (by kernel_rfl) (by kernel_rfl) (by kernel_rfl) (fun _ _ _ h => h) (Or.inr ⟨by rfl, rfl⟩) (by assumption) ?_
       (try simp only [List.getElem_toArray])
       (try simp only [List.getElem_cons_succ])
       (try simp only [List.getElem_cons_zero])
       (try simp only [Act.put])
       (try simp only [List.setIfInBounds_toArray])
       (try simp only [List.set_cons_succ])
       (try simp only [List.set_cons_zero])
       refine wpAnyH_take (i := 5) (v := undef) rfl (by kernel_rfl) (by kernel_rfl) (by kernel_rfl) (fun _ _ _ h => h) (Or.inr ⟨by rfl, rfl⟩) (by assumption) ?_
       (try simp only [List.getElem_toArray])
       (try simp only [List.getElem_cons_succ])
       (try simp only [List.getElem_cons_zero])
       (try simp only [Act.put])
       (try simp only [List.setIfInBounds_toArray])
       (try simp only [List.set_cons_succ])
       (try simp only [List.set_cons_zero])
       refine wpAnyH_take (i := 6) (v := ?vz6) rfl (by kernel_rfl) (by kernel_rfl) (by kernel_rfl) (fun _ _ _ h => h) (Or.inl ⟨by rfl, ?hyz6⟩) (by assumption) ?restz6
       case hyz6 =>
        intro W9 hSw
        (try dsimp only at hSw)
        go_simp
        try with_reducible rfl
       (try simp only [List.getElem_toArray])
       (try simp only [List.getElem_cons_succ])
       (try simp only [List.getElem_cons_zero])
       (try simp only [Act.put])
       (try simp only [List.setIfInBounds_toArray])
       (try simp only [List.set_cons_succ])
       (try simp only [List.set_cons_zero])
       refine wpAnyH_take (i := 7) (v := ?vz7) rfl (by kernel_rfl) (by kernel_rfl) (by kernel_rfl) (fun _ _ _ h => h) (Or.inl ⟨by rfl, ?hyz7⟩) (by assumption) ?restz7
       case hyz7 =>
        intro W9 hSw
        (try dsimp only at hSw)
        go_simp
        try with_reducible rfl
       (try simp only [List.getElem_toArray])
       (try simp only [List.getElem_cons_succ])
       (try simp only [List.getElem_cons_zero])
       (try simp only [Act.put])
       (try simp only [List.setIfInBounds_toArray])
       (try simp only [List.set_cons_succ])
       (try simp only [List.set_cons_zero])
       refine wpAnyH_take (i := 8) (v := undef) rfl (by kernel_rfl) (by kernel_rfl) (by kernel_rfl) (fun _ _ _ h => h) (Or.inr ⟨by rfl, rfl⟩) (by assumption) ?_
       (try simp only [List.getElem_toArray])
       (try simp only [List.getElem_cons_succ])
       (try simp only [List.getElem_cons_zero])
       (try simp only [Act.put])
       (try simp only [List.setIfInBounds_toArray])
       (try simp only [List.set_cons_succ])
       (try simp only [List.set_cons_zero])
       refine wpAnyH_take (i := 9) (v := undef) rfl (by kernel_rfl) (by kernel_rfl) (by kernel_rfl) (fun _ _ _ h => h) (Or.inr ⟨by rfl, rfl⟩) (by assumption) ?_
       (try simp only [List.getElem_toArray])
       (try simp only [List.getElem_cons_succ])
       (try simp only [List.getElem_cons_zero])
       (try simp only [Act.put])
       (try simp only [List.setIfInBounds_toArray])
       (try simp only [List.set_cons_succ])
       (try simp only [List.set_cons_zero])
       refine wpAnyH_take (i := 10) (v := undef) rfl (by kernel_rfl) (by kernel_rfl) (by kernel_rfl) (fun _ _ _ h => h) (Or.inr ⟨by rfl, rfl⟩) (by assumption) ?_
       (try simp only [List.getElem_toArray])
       (try simp only [List.getElem_cons_succ])
       (try simp only [List.getElem_cons_zero])
       (try simp only [Act.put])
       (try simp only [List.setIfInBounds_toArray])
       (try simp only [List.set_cons_succ])
       (try simp only [List.set_cons_zero])
       refine wpAnyH_take (i := 11) (v := ?vz11) rfl (by kernel_rfl) (by kernel_rfl) (by kernel_rfl) (fun _ _ _ h => h) (Or.inl ⟨by rfl, ?hyz11⟩) (by assumption) ?restz11
       case hyz11 =>
        intro W9 hSw
        (try dsimp only at hSw)
        go_simp
        try with_reducible rfl
       (try simp only [List.getElem_toArray])
       (try simp only [List.getElem_cons_succ])
       (try simp only [List.getElem_cons_zero])
       (try simp only [Act.put])
       (try simp only [List.setIfInBounds_toArray])
       (try simp only [List.set_cons_succ])
       (try simp only [List.set_cons_zero])
       refine wpAnyH_take (i := 12) (v := ?vz12) rfl (by kernel_rfl) (by kernel_rfl) (by kernel_rfl) (fun _ _ _ h => h) (Or.inl ⟨by rfl, ?hyz12⟩) (by assumption) ?restz12
       case hyz12 =>
        intro W9 hSw
        (try dsimp only at hSw)
        go_simp
        try with_reducible rfl
       (try simp only [List.getElem_toArray])
       (try simp only [List.getElem_cons_succ])
       (try simp only [List.getElem_cons_zero])
       (try simp only [Act.put])
       (try simp only [List.setIfInBounds_toArray])
       (try simp only [List.set_cons_succ])
       (try simp only [List.set_cons_zero])
       refine wpAnyH_take (i := 13) (v := undef) rfl (by kernel_rfl) (by kernel_rfl) (by kernel_rfl) (fun _ _ _ h => h) (Or.inr ⟨by rfl, rfl⟩) (by assumption) ?_
       (try simp only [List.getElem_toArray])
       (try simp only [List.getElem_cons_succ])
       (try simp only [List.getElem_cons_zero])
       (try simp only [Act.put])
       (try simp only [List.setIfInBounds_toArray])
       (try simp only [List.set_cons_succ])
       (try simp only [List.set_cons_zero])
       refine wpAnyH_take (i := 14) (v := undef) rfl (by kernel_rfl) (by kernel_rfl) (by kernel_rfl) (fun _ _ _ h => h) (Or.inr ⟨by rfl, rfl⟩) (by assumption) ?_
       (try simp only [List.getElem_toArray])
       (try simp only [List.getElem_cons_succ])
       (try simp only [List.getElem_cons_zero])
       (try simp only [Act.put])
       (try simp only [List.setIfInBounds_toArray])
       (try simp only [List.set_cons_succ])
       (try simp only [List.set_cons_zero])
       refine wpAnyH_take (i := 15) (v := ?vz15) rfl (by kernel_rfl) (by kernel_rfl) (by kernel_rfl) (fun _ _ _ h => h) (Or.inl ⟨by rfl, ?hyz15⟩) (by assumption) ?restz15
       case hyz15 =>
        intro W9 hSw
        (try dsimp only at hSw)
        go_simp
        try with_reducible rfl
       (try simp only [List.getElem_toArray])
       (try simp only [List.getElem_cons_succ])
       (try simp only [List.getElem_cons_zero])
       (try simp only [Act.put])
       (try simp only [List.setIfInBounds_toArray])
       (try simp only [List.set_cons_succ])
       (try simp only [List.set_cons_zero])
       refine wpAnyH_ready (rs := [16]) (by kernel_rfl) (by simp) ?_
       refine AllReadyH.cons rfl (fun K hK => ?_) AllReadyH.nil
       go_simp
       refine hK.out _ _ (Mf.quad XN.out.store.box).1 (fun hHeld => ?_)
       clear hK K
       (try simp only [List.getElem_toArray])
       (try simp only [List.getElem_cons_succ])
       (try simp only [List.getElem_cons_zero])
       (try simp only [Act.put])
       (try simp only [List.setIfInBounds_toArray])
       (try simp only [List.set_cons_succ])
       (try simp only [List.set_cons_zero])
       refine wpAnyH_take (i := 17) (v := ?vz17) rfl (by kernel_rfl) (by kernel_rfl) (by kernel_rfl) (fun _ _ _ h => h) (Or.inl ⟨by rfl, ?hyz17⟩) (by assumption) ?restz17
       case hyz17 =>
        intro W9 hSw
        (try dsimp only at hSw)
        go_simp
        try with_reducible rfl
       (try simp only [List.getElem_toArray])
       (try simp only [List.getElem_cons_succ])
       (try simp only [List.getElem_cons_zero])
       (try simp only [Act.put])
       (try simp only [List.setIfInBounds_toArray])
       (try simp only [List.set_cons_succ])
       (try simp only [List.set_cons_zero])
       refine wpAnyH_done (by kernel_rfl) ?_ _
       all_goals go_wp2
       all_goals (try simp only [Exit.inBlock, Exit.then])
       all_goals first
        | (refine bodyPost_ret (v := .tuple #[.agg #[.slice ad nd cd, .slice aa na ca, .int .i64 fl, .int .i64 nx], .bool false]) ?_ rfl (Mf.GotR.mk HOK.out (World.ownsRow.mono XN.out.store.dr (by omega)) (World.ownsRow.mono XN.out.store.ad (by omega)) XN.out.store.below); rw [results_cell_tmp rfl]; go_simp; done)
    ·have hki : ¬ (k2 : Int) < m := by omega
     rw [show m.toNat - k2 = 0 by omega, show Mf.gL Mf.go Mf.dP 0 ck = ([], ck) from rfl, List.append_nil] at hq
     simp only [Prod.mk.injEq] at hq
     obtain ⟨rfl, rfl⟩ := hq
     exact absurd HC2.out (by omega)
end Go.Proofs.YteaglaijkafphaaDoor
