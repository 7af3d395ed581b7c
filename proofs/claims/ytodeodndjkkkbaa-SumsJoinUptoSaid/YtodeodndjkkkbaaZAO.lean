import Derived.Test.YtodeodndjkkkbaaZAN
namespace Go.Proofs.Ytodeodndjkkkbaa
open Go Go.RowKit
set_option maxHeartbeats 1000000 in
set_option maxRecDepth 100000 in
theorem Su.lawJoin_w (u v : Value) (A B : List (List Kn.V)) (c : Int) (w : World) (hu : Su.Rv w u A) (hv : Su.Rv w v B) (hza : ∀ r ∈ A, ∀ x ∈ r, Kn.Z x) (hzb : ∀ r ∈ B, ∀ x ∈ r, Kn.Z x) (hA : A.length ≤ 1048576) (hB : B.length ≤ 1048576) :
 Calls Try.prog 9 #[u, v, .int .i64 c] w fun e w' => e = .returned (.bool true) ∧ Below w.heap.size w w' := by
 have CL := Lib.hid (Su.lives_c w)
 have ca := fun (w' : World) (g : Below w.heap.size w w') => Su.fold_c u A c w' (hu.rws.later g) hza (by omega)
 have cb := fun (w' : World) (g : Below w.heap.size w w') => Su.fold_c v B c w' (hv.rws.later g) hzb (by omega)
 have hz : ∀ r ∈ A ++ B, ∀ x ∈ r, Kn.Z x := fun r hr => by
  rcases List.mem_append.1 hr with h | h
  ·exact hza r h
  ·exact hzb r h
 have cc := fun (z : Value) (w' : World) (h : Rn.Rws w' z (A ++ B)) => Su.fold_c z (A ++ B) c w' h hz (by rw [List.length_append]; omega)
 obtain ⟨KA, hra, hsa⟩ := hu.src
 obtain ⟨KB, hrb, hsb⟩ := hv.src
 have HLA : Hid (KA.length ≤ 1048576 ∧ KB.length ≤ 1048576) := Lib.hid ⟨by rw [hra.1]; exact hA, by rw [hrb.1]; exact hB⟩
 have HRA := Lib.hid hra
 have HRB := Lib.hid hrb
 have HSA := Lib.hid hsa
 have HSB := Lib.hid hsb
 have hway : (∃ (x y z : Su.S), Su.fold c A = (x, 0) ∧ Su.fold c B = (y, 0) ∧ Su.fold c (A ++ B) = (Su.join x y, 0) ∧ Kn.Z x.lo ∧ Kn.Z x.hi ∧ Kn.Z y.lo ∧ Kn.Z y.hi) ∨ ((((Su.fold c A).2 != 0) = true ∨ (((Su.fold c A).2 != 0) = false ∧ ((Su.fold c B).2 != 0) = true)) ∧ Su.fold c (A ++ B) = (Su.zero, 7)) := by
  cases ha : A.all (Su.hasC c)
  ·exact .inr ⟨.inl (by rw [Su.fold_none ha]; rfl), Su.fold_bad (by rw [ha]; simp)⟩
  ·cases hb : B.all (Su.hasC c)
   ·exact .inr ⟨.inr ⟨by rw [Su.fold_all ha]; rfl, by rw [Su.fold_none hb]; rfl⟩, Su.fold_bad (by rw [hb]; simp)⟩
   ·exact .inl ⟨(Su.fold c A).1, (Su.fold c B).1, Su.zero, by rw [Su.fold_all ha], by rw [Su.fold_all hb], Su.fold_join ha hb (by omega), (Su.fold_z hza).1, (Su.fold_z hza).2, (Su.fold_z hzb).1, (Su.fold_z hzb).2⟩
 obtain ⟨aa, ac, rfl, -⟩ := hu.rws
 obtain ⟨ba, bc, rfl, -⟩ := hv.rws
 clear hu hv hra hrb hsa hsb hza hzb hz hA hB
 have HC0 := Lib.hid cc
 clear cc
 generalize hfa : Su.fold c A = fa at ca hway
 generalize hfb : Su.fold c B = fb at cb hway
 generalize hfc : Su.fold c (A ++ B) = fc at HC0 hway
 clear hfa hfb hfc
 obtain ⟨⟨xc, xq, xv, ⟨xln, xli, xls⟩, ⟨xhn, xhi, xhs⟩⟩, xe⟩ := fa
 obtain ⟨⟨yc, yq, yv, ⟨yln, yli, yls⟩, ⟨yhn, yhi, yhs⟩⟩, ye⟩ := fb
 obtain ⟨⟨zc, zq, zv, ⟨zln, zli, zls⟩, ⟨zhn, zhi, zhs⟩⟩, ze⟩ := fc
 have HW := Lib.hid hway
 simp only [Su.S.val, Su.cs] at ca cb HC0
 have CA := Lib.hid ca
 have CB := Lib.hid cb
 clear hway ca cb
 go_enter Try.func9, Try.ntmps9
 go_wp2_with fail
 refine (CL.out).mono ?_
 rintro e w1 ⟨rfl, g1⟩
 have HG1 := Lib.hid g1
 clear g1
 go_wp2_with fail
 refine (CA.out _ HG1.out).mono ?_
 rintro e w2 ⟨rfl, g2⟩
 have HG2 := Lib.hid (HG1.out.trans (g2.mono HG1.out.size))
 clear g2 HG1
 go_upto_region 4 with (fail)
 obtain ⟨qx, hq⟩ : ∃ b, b = w2.heap.size := ⟨_, rfl⟩
 have HN := Lib.hid (Su.Blk.new w2 ⟨xc, xq, xv, ⟨xln, xli, xls⟩, ⟨xhn, xhi, xhs⟩⟩)
 have gn : Below w2.heap.size w2 (w2.alloc (.cells (Su.cs ⟨xc, xq, xv, ⟨xln, xli, xls⟩, ⟨xhn, xhi, xhs⟩⟩) 52)) := (Below.refl _ _).alloc (Nat.le_refl _) _
 have HG3 := Lib.hid (HG2.out.trans (gn.mono HG2.out.size))
 clear gn HG2
 simp only [Su.cs] at HG3 HN
 rw [← hq] at HN ⊢
 generalize World.alloc _ _ = w3 at HG3 HN ⊢
 clear hq
 have HX3 := HN
 clear HN
 go_wp2_with fail
 refine (CB.out _ HG3.out).mono ?_
 rintro e w4 ⟨rfl, g4⟩
 have HG4 := Lib.hid (HG3.out.trans (g4.mono HG3.out.size))
 have HX4 := Lib.hid (HX3.out.kept g4)
 clear g4 HG3 HX3
 go_upto_region 5 with (fail)
 obtain ⟨qy, hq⟩ : ∃ b, b = w4.heap.size := ⟨_, rfl⟩
 have HN := Lib.hid (Su.Blk.new w4 ⟨yc, yq, yv, ⟨yln, yli, yls⟩, ⟨yhn, yhi, yhs⟩⟩)
 have gn : Below w4.heap.size w4 (w4.alloc (.cells (Su.cs ⟨yc, yq, yv, ⟨yln, yli, yls⟩, ⟨yhn, yhi, yhs⟩⟩) 52)) := (Below.refl _ _).alloc (Nat.le_refl _) _
 have HG5 := Lib.hid (HG4.out.trans (gn.mono HG4.out.size))
 have HX5 := Lib.hid (HX4.out.kept gn)
 clear gn HG4 HX4
 simp only [Su.cs] at HG5 HN HX5
 rw [← hq] at HN ⊢
 generalize World.alloc _ _ = w5 at HG5 HN HX5 ⊢
 clear hq
 have HY5 := HN
 clear HN
 go_wp2_with (first
  | (at_builtin
     refine Su.wpList_rows KA (Dk.Own.nil w5.heap.size w5) (Nat.le_refl _) (by have := HLA.out; simp only [List.length_nil]; omega) (HSA.out w5 HG5.out) _ _ (by rfl) (by rfl) (by rfl) (by rfl) ?_
     intro v6 w6 h6 g6
     rw [List.nil_append] at h6
     have hbl6 : Below w5.heap.size w5 w6 := g6.below (Nat.le_refl _) (fun b hb => by cases hb)
     have HG6 := Lib.hid (HG5.out.trans (hbl6.mono HG5.out.size))
     have HB6 := Lib.hid hbl6
     have H6 := Lib.hid h6
     obtain ⟨pa, pn, pc, rfl⟩ : ∃ a n c, v6 = .slice a n c := by
      rcases h6.form with ⟨e, _⟩ | ⟨g, c, e, _⟩
      ·exact ⟨none, 0, 0, e⟩
      ·exact ⟨_, _, c, e⟩
     clear h6 g6 hbl6)
  | (at_builtin
     refine Su.wpList_rows KB H6.out HB6.out.size (by have := HLA.out; omega) (HSB.out w6 HG6.out) _ _ (by rfl) (by rfl) (by rfl) (by rfl) ?_
     intro v7 w7 h7 g7
     have hbl7 : Below w5.heap.size w5 w7 := Dk.own_below HB6.out H6.out g7
     have HB7 := Lib.hid hbl7
     have H7 := Lib.hid h7
     clear h7 g7 hbl7)
  | fail)
 have HG7 := Lib.hid (HG5.out.trans (HB7.out.mono HG5.out.size))
 have HX7 := Lib.hid (HX5.out.kept HB7.out)
 have HY7 := Lib.hid (HY5.out.kept HB7.out)
 have HRW := Lib.hid (Su.own_rws H7.out ((HRA.out.later HG7.out).app (HRB.out.later HG7.out)))
 clear HX5 HY5 HG5 HG6 HB6 HB7 H6 H7
 refine (HC0.out _ _ HRW.out).mono ?_
 rintro e w8 ⟨rfl, g8⟩
 have HG8 := Lib.hid (HG7.out.trans (g8.mono HG7.out.size))
 have HX8 := Lib.hid (HX7.out.kept g8)
 have HY8 := Lib.hid (HY7.out.kept g8)
 clear g8 HG7 HX7 HY7 HRW
 go_upto_region 6 with (fail)
 obtain ⟨qz, hq⟩ : ∃ b, b = w8.heap.size := ⟨_, rfl⟩
 have HN := Lib.hid (Su.Blk.new w8 ⟨zc, zq, zv, ⟨zln, zli, zls⟩, ⟨zhn, zhi, zhs⟩⟩)
 have gn : Below w8.heap.size w8 (w8.alloc (.cells (Su.cs ⟨zc, zq, zv, ⟨zln, zli, zls⟩, ⟨zhn, zhi, zhs⟩⟩) 52)) := (Below.refl _ _).alloc (Nat.le_refl _) _
 have HG9 := Lib.hid (HG8.out.trans (gn.mono HG8.out.size))
 have HX9 := Lib.hid (HX8.out.kept gn)
 have HY9 := Lib.hid (HY8.out.kept gn)
 clear gn HG8 HX8 HY8
 simp only [Su.cs] at HG9 HN HX9 HY9
 rw [← hq] at HN ⊢
 generalize World.alloc _ _ = w9 at HG9 HN HX9 HY9 ⊢
 clear hq
 have HZ9 := HN
 clear HN
 obtain ⟨x0, x1, x2, x3, x4, x5, x6, x7, x8⟩ := HX9.out.cells
 obtain ⟨y0, y1, y2, y3, y4, y5, y6, y7, y8⟩ := HY9.out.cells
 obtain ⟨z0, z1, z2, z3, z4, z5, z6, z7, z8⟩ := HZ9.out.cells
 simp only at x0 x1 x2 x3 x4 x5 x6 x7 x8 y0 y1 y2 y3 y4 y5 y6 y7 y8 z0 z1 z2 z3 z4 z5 z6 z7 z8
 rcases HW.out with ⟨x, y, z, e1, e2, e3, hz1, hz2, hz3, hz4⟩ | ⟨hne, e3⟩
 ·simp only [Prod.mk.injEq] at e1 e2 e3
  obtain ⟨rfl, rfl⟩ := e1
  obtain ⟨rfl, rfl⟩ := e2
  obtain ⟨e3, rfl⟩ := e3
  have cj := fun w => Su.join_c _ _ hz1 hz2 hz3 hz4 w
  rw [← e3] at cj
  simp only [Su.S.val, Su.cs] at cj
  have CJ : Hid (∀ p : Regrown, _) := Lib.hid fun p : Regrown => Calls.regrown_of (d := p.d) (os := p.os) (w := w9) (cj _)
  clear cj e3 hz1 hz2 hz3 hz4 HW
  go_upto_region 8 with (fail)
  have Rx0 := fun d os => cell_regrown x0 d os
  have Rx1 := fun d os => cell_regrown x1 d os
  have Rx2 := fun d os => cell_regrown x2 d os
  have Rx3 := fun d os => cell_regrown x3 d os
  have Rx4 := fun d os => cell_regrown x4 d os
  have Rx5 := fun d os => cell_regrown x5 d os
  have Rx6 := fun d os => cell_regrown x6 d os
  have Rx7 := fun d os => cell_regrown x7 d os
  have Rx8 := fun d os => cell_regrown x8 d os
  have Ry0 := fun d os => cell_regrown y0 d os
  have Ry1 := fun d os => cell_regrown y1 d os
  have Ry2 := fun d os => cell_regrown y2 d os
  have Ry3 := fun d os => cell_regrown y3 d os
  have Ry4 := fun d os => cell_regrown y4 d os
  have Ry5 := fun d os => cell_regrown y5 d os
  have Ry6 := fun d os => cell_regrown y6 d os
  have Ry7 := fun d os => cell_regrown y7 d os
  have Ry8 := fun d os => cell_regrown y8 d os
  have Rz0 := fun d os => cell_regrown z0 d os
  have Rz1 := fun d os => cell_regrown z1 d os
  have Rz2 := fun d os => cell_regrown z2 d os
  have Rz3 := fun d os => cell_regrown z3 d os
  have Rz4 := fun d os => cell_regrown z4 d os
  have Rz5 := fun d os => cell_regrown z5 d os
  have Rz6 := fun d os => cell_regrown z6 d os
  have Rz7 := fun d os => cell_regrown z7 d os
  have Rz8 := fun d os => cell_regrown z8 d os
  clear x0 x1 x2 x3 x4 x5 x6 x7 x8 y0 y1 y2 y3 y4 y5 y6 y7 y8 z0 z1 z2 z3 z4 z5 z6 z7 z8
  clear HX9 HY9 HZ9
  refine wp_region_quiet_below (by kernel_rfl) (by kernel_rfl) ?_
  repeat (go_big_quiet_step (first | with_reducible exact CJ.out _))
  refine wpQuiet_nil ?_
  intro w10 hw'
  have HB10 := Lib.hid (HG9.out.trans ((Bk.below_reg hw').mono HG9.out.size))
  clear hw'
  go_wp2
  go_ret
  exact ⟨rfl, HB10.out⟩
 ·simp only [Prod.mk.injEq, Su.zero, Su.S.mk.injEq, Zn.zv, Kn.V.mk.injEq] at e3
  obtain ⟨⟨rfl, rfl, rfl, ⟨rfl, rfl, rfl⟩, rfl, rfl, rfl⟩, rfl⟩ := e3
  rcases hne with hx | ⟨hx, hy⟩
  ·go_wp2
   go_ret
   exact ⟨rfl, HG9.out⟩
  ·go_wp2
   go_ret
   exact ⟨rfl, HG9.out⟩
end Go.Proofs.Ytodeodndjkkkbaa
