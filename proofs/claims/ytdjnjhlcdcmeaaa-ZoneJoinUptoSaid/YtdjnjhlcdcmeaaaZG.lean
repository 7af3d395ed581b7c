/-
  The walk of the law ZoneJoin.
-/
import Derived.Test.YtdjnjhlcdcmeaaaZF
import Derived.Test.YtdjnjhlcdcmeaaaZA
import Derived.Test.YtdjnjhlcdcmeaaaZ9
namespace Go.Proofs.Ytdjnjhlcdcmeaaa
open Go.RowKit
set_option maxHeartbeats 2000000 in
set_option maxRecDepth 100000 in
/-- A zone and itself are alike. -/
theorem Zn.alike_c (z : Zn.Zo) (h1 : Kn.Z z.lo) (h2 : Kn.Z z.hi) (w : World) : Calls Try.prog 15 #[z.val, z.val] w fun e w' => e = .returned (.bool true) ∧ Below w.heap.size w w' := by
  have cL := Kn.rCompare_c z.lo z.lo h1 h1
  have cU := Kn.rCompare_c z.hi z.hi h2 h2
  rw [Zn.self] at cL cU
  have hA := (Zn.Blk.new w z).alloc (.cells (Zn.cs z) 30)
  have hB := Zn.Blk.new (w.alloc (.cells (Zn.cs z) 30)) z
  rw [World.size_alloc] at hB
  have hb : Below w.heap.size w ((w.alloc (.cells (Zn.cs z) 30)).alloc (.cells (Zn.cs z) 30)) := ((Below.refl _ w).alloc (Nat.le_refl _) _).alloc (by simp) _
  clear h1 h2
  obtain ⟨zn, zw, ⟨ln, li, ls⟩, ⟨hn, hi, hs⟩⟩ := z
  unfold Kn.V.val at cL cU
  simp only [Zn.cs] at cL cU hA hB hb
  have HA := Lib.hid hA
  have HB := Lib.hid hB
  have HL : Hid (∀ w, _) := Lib.hid cL
  have HU : Hid (∀ w, _) := Lib.hid cU
  have HG := Lib.hid hb
  clear hA hB hb cL cU
  go_enter Try.func15, Try.ntmps15
  go_upto_region 1 with (fail)
  generalize (w.alloc _).alloc _ = wo at HA HB HG ⊢
  obtain ⟨a0, a1, a2, a3, a4, a5, a6, a7⟩ := HA.out.cells
  obtain ⟨b0, b1, b2, b3, b4, b5, b6, b7⟩ := HB.out.cells
  simp only at a0 a1 a2 a3 a4 a5 a6 a7 b0 b1 b2 b3 b4 b5 b6 b7
  go_wp2_with fail
  with_reducible refine (HL.out _).mono ?_
  rintro e w1 ⟨rfl, g1⟩
  have HA1 := Lib.hid (HA.out.kept g1)
  have HB1 := Lib.hid (HB.out.kept g1)
  have HG1 := Lib.hid (Zn.grow HG.out g1)
  clear a0 a1 a2 a3 a4 a5 a6 a7 b0 b1 b2 b3 b4 b5 b6 b7 g1
  obtain ⟨a0, a1, a2, a3, a4, a5, a6, a7⟩ := HA1.out.cells
  obtain ⟨b0, b1, b2, b3, b4, b5, b6, b7⟩ := HB1.out.cells
  simp only at a0 a1 a2 a3 a4 a5 a6 a7 b0 b1 b2 b3 b4 b5 b6 b7
  go_wp2_with fail
  with_reducible refine (HU.out _).mono ?_
  rintro e w2 ⟨rfl, g2⟩
  go_wp2
  go_ret
  exact ⟨rfl, Zn.grow HG1.out g2⟩
set_option maxHeartbeats 4000000 in
set_option maxRecDepth 100000 in
theorem Zn.lawJoin_w (va vb : Value) (La Lb : List Kn.V) (w : World) (ha : Zn.Vs w va La) (hb : Zn.Vs w vb Lb) (za : ∀ x ∈ La, Kn.Z x) (zb : ∀ x ∈ Lb, Kn.Z x) (hl : (La.length + Lb.length) * 32 ≤ 140737488355328) :
    Calls Try.prog 6 #[va, vb] w fun e w' => e = .returned (.bool true) ∧ Below w.heap.size w w' := by
  have zab : ∀ x ∈ La ++ Lb, Kn.Z x := fun x hx => by
    rcases List.mem_append.1 hx with h | h
    · exact za x h
    · exact zb x h
  have CA := Lib.hid fun wz h => Zn.of_c va La wz h za
  have CB := Lib.hid fun wz h => Zn.of_c vb Lb wz h zb
  have CAB := Lib.hid fun v wz h => Zn.of_c v (La ++ Lb) wz h zab
  have zx := Zn.of_z za
  have zy := Zn.of_z zb
  have zz := Zn.of_z zab
  have cJ := fun wz => Zn.join_c (Zn.of La) (Zn.of Lb) zx.1 zx.2 zy.1 zy.2 wz
  have cK := fun wz => Zn.join_c (Zn.of Lb) (Zn.of La) zy.1 zy.2 zx.1 zx.2 wz
  have cS := fun wz => Zn.alike_c (Zn.of (La ++ Lb)) zz.1 zz.2 wz
  rw [Zn.join_of] at cJ
  rw [Zn.join_back] at cK
  clear zab za zb zx zy zz
  generalize Zn.of La = X at CA cJ cK
  generalize Zn.of Lb = Y at CB cJ cK
  generalize Zn.of (La ++ Lb) = Z at CAB cJ cK cS
  obtain ⟨xn, xw, ⟨x3, x4, x5⟩, ⟨x6, x7, x8⟩⟩ := X
  obtain ⟨yn, yw, ⟨y3, y4, y5⟩, ⟨y6, y7, y8⟩⟩ := Y
  obtain ⟨zn, zw, ⟨z3, z4, z5⟩, ⟨z6, z7, z8⟩⟩ := Z
  unfold Zn.Zo.val at CA CB CAB cJ cK cS
  simp only at CA CB CAB cJ cK cS
  have CJ : Hid (∀ w, _) := Lib.hid cJ
  have CK : Hid (∀ w, _) := Lib.hid cK
  have CS : Hid (∀ w, _) := Lib.hid cS
  have HVA := Lib.hid ha
  have HVB := Lib.hid hb
  have HL := Lib.hid hl
  clear cJ cK cS hl
  obtain ⟨⟨aa, ca, ea, -⟩, -⟩ := ha
  obtain ⟨⟨ab, cb, eb, -⟩, -⟩ := hb
  subst ea eb
  go_enter Try.func6, Try.ntmps6
  go_wp2_with fail
  with_reducible refine (Zn.lives_c _).mono ?_
  rintro e w1 ⟨rfl, g1⟩
  have HA1 := Lib.hid (HVA.out.later g1)
  have HB1 := Lib.hid (HVB.out.later g1)
  have HG1 := Lib.hid g1
  clear g1
  have HO1 := Lib.hid (Cl.Own.nil w.heap.size w1)
  go_upto_region 3 with (fail)
  go_wp2_with (at_builtin; (first
    | (refine Zn.wpList_append La HO1.out HG1.out.size (by have := HL.out; simp only [List.length_nil]; omega) HA1.out rfl _ _ rfl rfl rfl ?_
       rintro v2 w2 hO2 hg2
       have HO2 := Lib.hid hO2
       have HG2 := Lib.hid (Cl.own_below HG1.out HO1.out hg2)
       have HB2 := Lib.hid (HVB.out.later HG2.out)
       clear hO2 hg2)
    | (refine Zn.wpList_append Lb HO2.out HG2.out.size (by have := HL.out; simp only [List.nil_append]; omega) HB2.out rfl _ _ rfl rfl rfl ?_
       rintro v3 w3 hO3 hg3
       have HO3 := Lib.hid hO3
       have HG3 := Lib.hid (Cl.own_below HG2.out HO2.out hg3)
       clear hO3 hg3)))
  have HV3 : Hid (Kn.Vals w3 v3 (La ++ Lb)) := Lib.hid HO3.out.vals
  have HA3 := Lib.hid (HVA.out.later HG3.out)
  have HB3 := Lib.hid (HVB.out.later HG3.out)
  clear HO1 HO2 HO3 HB2 HA1 HB1
  with_reducible refine (CA.out _ HA3.out.vals).mono ?_
  rintro e w4 ⟨rfl, g4⟩
  have HV4 := Lib.hid (HV3.out.later g4)
  have HB4 := Lib.hid (HB3.out.later g4)
  have HG4 := Lib.hid (Zn.grow HG3.out g4)
  clear g4
  go_wp2_with fail
  with_reducible refine (CB.out _ HB4.out.vals).mono ?_
  rintro e w5 ⟨rfl, g5⟩
  have HV5 := Lib.hid (HV4.out.later g5)
  have HG5 := Lib.hid (Zn.grow HG4.out g5)
  clear g5
  go_upto_region 5 with (fail)
  have HX := Lib.hid ((Zn.Blk.new w5 ⟨xn, xw, ⟨x3, x4, x5⟩, ⟨x6, x7, x8⟩⟩).alloc (.cells #[.bool yn, .bool yw, .bool y3, .int .i64 y4, .string y5, .bool y6, .int .i64 y7, .string y8] 30))
  have HY : Hid (Zn.Blk ((w5.alloc (.cells #[.bool xn, .bool xw, .bool x3, .int .i64 x4, .string x5, .bool x6, .int .i64 x7, .string x8] 30)).alloc (.cells #[.bool yn, .bool yw, .bool y3, .int .i64 y4, .string y5, .bool y6, .int .i64 y7, .string y8] 30)) (w5.heap.size + 1) ⟨yn, yw, ⟨y3, y4, y5⟩, ⟨y6, y7, y8⟩⟩) := Lib.hid (by
    have := Zn.Blk.new (w5.alloc (.cells #[.bool xn, .bool xw, .bool x3, .int .i64 x4, .string x5, .bool x6, .int .i64 x7, .string x8] 30)) ⟨yn, yw, ⟨y3, y4, y5⟩, ⟨y6, y7, y8⟩⟩
    rwa [World.size_alloc] at this)
  have hb6 : Below w5.heap.size w5 ((w5.alloc (.cells #[.bool xn, .bool xw, .bool x3, .int .i64 x4, .string x5, .bool x6, .int .i64 x7, .string x8] 30)).alloc (.cells #[.bool yn, .bool yw, .bool y3, .int .i64 y4, .string y5, .bool y6, .int .i64 y7, .string y8] 30)) := ((Below.refl _ w5).alloc (Nat.le_refl _) _).alloc (by simp) _
  have HV6 := Lib.hid (HV5.out.later hb6)
  have HG6 := Lib.hid (Zn.grow HG5.out hb6)
  clear hb6
  simp only [Zn.cs] at HX HY HV6 HG6
  generalize (w5.alloc _).alloc _ = w6 at HX HY HV6 HG6 ⊢
  obtain ⟨a0, a1, a2, a3, a4, a5, a6, a7⟩ := HX.out.cells
  obtain ⟨b0, b1, b2, b3, b4, b5, b6, b7⟩ := HY.out.cells
  simp only at a0 a1 a2 a3 a4 a5 a6 a7 b0 b1 b2 b3 b4 b5 b6 b7
  have A0 := fun d os => cell_regrown a0 d os
  have A1 := fun d os => cell_regrown a1 d os
  have A2 := fun d os => cell_regrown a2 d os
  have A3 := fun d os => cell_regrown a3 d os
  have A4 := fun d os => cell_regrown a4 d os
  have A5 := fun d os => cell_regrown a5 d os
  have A6 := fun d os => cell_regrown a6 d os
  have A7 := fun d os => cell_regrown a7 d os
  have B0 := fun d os => cell_regrown b0 d os
  have B1 := fun d os => cell_regrown b1 d os
  have B2 := fun d os => cell_regrown b2 d os
  have B3 := fun d os => cell_regrown b3 d os
  have B4 := fun d os => cell_regrown b4 d os
  have B5 := fun d os => cell_regrown b5 d os
  have B6 := fun d os => cell_regrown b6 d os
  have B7 := fun d os => cell_regrown b7 d os
  have hV := fun (p : Regrown) => HV6.out.later (below_regrown w6 p.d p.os)
  have D1 : Hid (∀ p : Regrown, _) := Lib.hid fun p : Regrown => Calls.regrown_of (d := p.d) (os := p.os) (w := w6) (CAB.out _ _ (hV p))
  have D2 : Hid (∀ p : Regrown, _) := Lib.hid fun p : Regrown => Calls.regrown_of (d := p.d) (os := p.os) (w := w6) (CJ.out _)
  have D3 : Hid (∀ p : Regrown, _) := Lib.hid fun p : Regrown => Calls.regrown_of (d := p.d) (os := p.os) (w := w6) (CK.out _)
  have D4 : Hid (∀ p : Regrown, _) := Lib.hid fun p : Regrown => Calls.regrown_of (d := p.d) (os := p.os) (w := w6) (CS.out _)
  clear a0 a1 a2 a3 a4 a5 a6 a7 b0 b1 b2 b3 b4 b5 b6 b7 hV
  refine wp_region_quiet_below (by kernel_rfl) (by kernel_rfl) ?_
  repeat (go_big_quiet_step (first | with_reducible exact D1.out _ | with_reducible exact D2.out _ | with_reducible exact D3.out _ | with_reducible exact D4.out _))
  refine wpQuiet_nil ?_
  intro _ hw'
  have HE := Lib.hid (Zn.grow HG6.out (Kn.below_reg hw'))
  go_wp2
  go_ret
  exact ⟨rfl, HE.out⟩
end Go.Proofs.Ytdjnjhlcdcmeaaa
