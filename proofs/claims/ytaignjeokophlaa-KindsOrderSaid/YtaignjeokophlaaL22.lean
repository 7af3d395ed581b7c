/-
  The walks of the laws KindsIn and KindsSplit.
-/
import Derived.Test.YtaignjeokophlaaL21
namespace Go.Proofs.Ytaignjeokophlaa
open Go.RowKit
set_option maxHeartbeats 1000000 in
theorem Kn.lawIn_w (r : Kn.R) (k : Kn.V) (hk : Kn.Z k) (hl : Kn.Z r.lo) (hh : Kn.Z r.hi) (w : World) :
    Calls Try.prog 6 #[r.val, k.val] w fun e w' => e = .returned (.bool true) ∧ Below w.heap.size w w' := by
  have c1 := Kn.in_c r k
  have c2 := Kn.rin_c r k hk hl hh
  have c3 := Kn.in_c ⟨false, false, r.lo, r.hi⟩ k
  have c4 := Kn.in_c ⟨true, true, r.lo, r.lo⟩ k
  have e3 : Kn.inR ⟨false, false, r.lo, r.hi⟩ k = true := rfl
  have e4 : Kn.inR ⟨true, true, r.lo, r.lo⟩ k = false := by
    show ((!decide (Kn.cmp k r.lo < 0)) && decide (Kn.cmp k r.lo < 0)) = false
    cases decide (Kn.cmp k r.lo < 0) <;> rfl
  rw [e3] at c3
  rw [e4] at c4
  clear e3 e4
  obtain ⟨hR, hK⟩ := Kn.boxedR w r k 37 26
  have hb := Kn.box2 w (.cells #[.bool r.from_, .bool r.til, .bool r.lo.null, .int .i64 r.lo.n, .string r.lo.s, .bool r.hi.null, .int .i64 r.hi.n, .string r.hi.s] 37) (.cells #[.bool k.null, .int .i64 k.n, .string k.s] 26)
  unfold Kn.R.val Kn.V.val at c1 c2 c3 c4
  unfold Kn.R.val Kn.V.val
  simp only at c3 c4
  go_enter Try.func6, Try.ntmps6
  go_wp2_with fail
  refine (Kn.lives_c _).mono ?_
  rintro e w1 ⟨rfl, g1⟩
  have hR1 := hR.later g1
  have hK1 := hK.later g1
  have hb1 := hb.trans (g1.mono hb.size)
  clear hR hK hb g1
  obtain ⟨r0, r1, ⟨r2, r3, r4⟩, ⟨r5, r6, r7⟩⟩ := hR1
  obtain ⟨k0, k1, k2⟩ := hK1
  go_wp2_with fail
  have gN : Below w1.heap.size w1 (w1.alloc (.cells #[.bool true, .bool true, .bool r.lo.null, .int .i64 r.lo.n, .string r.lo.s, .bool r.lo.null, .int .i64 r.lo.n, .string r.lo.s] 37)) := (Below.refl _ _).alloc (Nat.le_refl _) _
  obtain ⟨n0, n1, ⟨n2, n3, n4⟩, ⟨n5, n6, n7⟩⟩ := Kn.RAt.new w1 ⟨true, true, r.lo, r.lo⟩ 37
  obtain ⟨r0, r1, ⟨r2, r3, r4⟩, ⟨r5, r6, r7⟩⟩ := Kn.RAt.later ⟨r0, r1, ⟨r2, r3, r4⟩, ⟨r5, r6, r7⟩⟩ gN
  obtain ⟨k0, k1, k2⟩ := Kn.At.later ⟨k0, k1, k2⟩ gN
  have hb2 := hb1.trans (gN.mono hb1.size)
  simp only at n0 n1 n2 n3 n4 n5 n6 n7
  generalize w1.alloc (.cells #[.bool true, .bool true, .bool r.lo.null, .int .i64 r.lo.n, .string r.lo.s, .bool r.lo.null, .int .i64 r.lo.n, .string r.lo.s] 37) = wn at *
  have R0 := fun d os => cell_regrown r0 d os
  have R1 := fun d os => cell_regrown r1 d os
  have R2 := fun d os => cell_regrown r2 d os
  have R3 := fun d os => cell_regrown r3 d os
  have R4 := fun d os => cell_regrown r4 d os
  have R5 := fun d os => cell_regrown r5 d os
  have R6 := fun d os => cell_regrown r6 d os
  have R7 := fun d os => cell_regrown r7 d os
  have K0 := fun d os => cell_regrown k0 d os
  have K1 := fun d os => cell_regrown k1 d os
  have K2 := fun d os => cell_regrown k2 d os
  have N0 := fun d os => cell_regrown n0 d os
  have N1 := fun d os => cell_regrown n1 d os
  have N2 := fun d os => cell_regrown n2 d os
  have N3 := fun d os => cell_regrown n3 d os
  have N4 := fun d os => cell_regrown n4 d os
  have N5 := fun d os => cell_regrown n5 d os
  have N6 := fun d os => cell_regrown n6 d os
  have N7 := fun d os => cell_regrown n7 d os
  have C1 : Hid (∀ p : Regrown, _) := Lib.hid fun p : Regrown => Calls.regrown_of (d := p.d) (os := p.os) (w := wn) (c1 _)
  have C2 : Hid (∀ p : Regrown, _) := Lib.hid fun p : Regrown => Calls.regrown_of (d := p.d) (os := p.os) (w := wn) (c2 _)
  have C3 : Hid (∀ p : Regrown, _) := Lib.hid fun p : Regrown => Calls.regrown_of (d := p.d) (os := p.os) (w := wn) (c3 _)
  have C4 : Hid (∀ p : Regrown, _) := Lib.hid fun p : Regrown => Calls.regrown_of (d := p.d) (os := p.os) (w := wn) (c4 _)
  clear c1 c2 c3 c4 r0 r1 r2 r3 r4 r5 r6 r7 k0 k1 k2 n0 n1 n2 n3 n4 n5 n6 n7 gN hb1
  refine wp_region_quiet_below (by kernel_rfl) (by kernel_rfl) ?_
  repeat (go_big_quiet_step (first | with_reducible exact C1.out _ | with_reducible exact C2.out _ | with_reducible exact C3.out _ | with_reducible exact C4.out _))
  refine wpQuiet_nil ?_
  intro _ hw'
  have hg := hb2.trans ((Kn.below_reg hw').mono hb2.size)
  go_wp2
  go_ret
  exact ⟨rfl, hg⟩
/-- A range cut at a key. -/
theorem Kn.split_ways (r : Kn.R) (a k : Kn.V) (h : Kn.inR r a = true) : (Kn.inR r k = true ∧ Kn.inR ⟨r.from_, true, r.lo, a⟩ k = true ∧ Kn.inR ⟨true, r.til, a, r.hi⟩ k = false) ∨ (Kn.inR r k = true ∧ Kn.inR ⟨r.from_, true, r.lo, a⟩ k = false ∧ Kn.inR ⟨true, r.til, a, r.hi⟩ k = true) ∨ (Kn.inR r k = false ∧ Kn.inR ⟨r.from_, true, r.lo, a⟩ k = false ∧ Kn.inR ⟨true, r.til, a, r.hi⟩ k = false) := by
  have f1 := Kn.cmp_fair k a r.lo
  have f2 := Kn.cmp_fair k a r.hi
  unfold Kn.inR at h ⊢
  obtain ⟨rf, rt, rl, rh⟩ := r
  simp only at h f1 f2 ⊢
  have f3 := f1.xr
  have f4 := f1.yr
  have f5 := f1.zr
  have f6 := f1.ge
  have f7 := f1.le
  have f8 := f1.lt
  have f9 := f1.gt
  have g5 := f2.zr
  have g4 := f2.yr
  have g6 := f2.ge
  have g7 := f2.le
  have g8 := f2.lt
  have g9 := f2.gt
  by_cases p1 : Kn.cmp k a < 0 <;> by_cases p2 : Kn.cmp k rl < 0 <;> by_cases p3 : Kn.cmp k rh < 0 <;> by_cases p4 : Kn.cmp a rl < 0 <;> by_cases p5 : Kn.cmp a rh < 0 <;> cases rf <;> cases rt <;> simp [p1, p2, p3, p4, p5] at h ⊢ <;> omega
set_option maxHeartbeats 2000000 in
theorem Kn.lawSplit_w (r : Kn.R) (a k : Kn.V) (w : World) :
    Calls Try.prog 7 #[r.val, a.val, k.val] w fun e w' => e = .returned (.bool true) ∧ Below w.heap.size w w' := by
  have c0 := Kn.in_c r a
  have c1 := Kn.in_c r k
  have c2 := Kn.in_c ⟨r.from_, true, r.lo, a⟩ k
  have c3 := Kn.in_c ⟨true, r.til, a, r.hi⟩ k
  obtain ⟨hR, hA⟩ := Kn.boxedR w r a 37 26
  have hb := Kn.box2 w (.cells #[.bool r.from_, .bool r.til, .bool r.lo.null, .int .i64 r.lo.n, .string r.lo.s, .bool r.hi.null, .int .i64 r.hi.n, .string r.hi.s] 37) (.cells #[.bool a.null, .int .i64 a.n, .string a.s] 26)
  have hR := hR.alloc (.cells #[.bool k.null, .int .i64 k.n, .string k.s] 26)
  have hA := hA.alloc (.cells #[.bool k.null, .int .i64 k.n, .string k.s] 26)
  have hK := Kn.At.new ((w.alloc (.cells #[.bool r.from_, .bool r.til, .bool r.lo.null, .int .i64 r.lo.n, .string r.lo.s, .bool r.hi.null, .int .i64 r.hi.n, .string r.hi.s] 37)).alloc (.cells #[.bool a.null, .int .i64 a.n, .string a.s] 26)) k 26
  rw [World.size_alloc, World.size_alloc] at hK
  have hb := hb.alloc hb.size (.cells #[.bool k.null, .int .i64 k.n, .string k.s] 26)
  unfold Kn.R.val Kn.V.val at c0 c1 c2 c3
  unfold Kn.R.val Kn.V.val
  simp only at c2 c3
  go_enter Try.func7, Try.ntmps7
  go_wp2_with fail
  refine (Kn.lives_c _).mono ?_
  rintro e w1 ⟨rfl, g1⟩
  have hR1 := hR.later g1
  have hA1 := hA.later g1
  have hK1 := hK.later g1
  have hb1 := hb.trans (g1.mono hb.size)
  clear hR hA hK hb g1
  obtain ⟨r0, r1, ⟨r2, r3, r4⟩, ⟨r5, r6, r7⟩⟩ := hR1
  obtain ⟨a0, a1, a2⟩ := hA1
  obtain ⟨k0, k1, k2⟩ := hK1
  go_upto_region 4 with fail
  have gN : Below w1.heap.size w1 (w1.alloc (.cells #[.bool r.from_, .bool true, .bool r.lo.null, .int .i64 r.lo.n, .string r.lo.s, .bool a.null, .int .i64 a.n, .string a.s] 37)) := (Below.refl _ _).alloc (Nat.le_refl _) _
  have hN := Kn.RAt.new w1 ⟨r.from_, true, r.lo, a⟩ 37
  obtain ⟨r0, r1, ⟨r2, r3, r4⟩, ⟨r5, r6, r7⟩⟩ := Kn.RAt.later ⟨r0, r1, ⟨r2, r3, r4⟩, ⟨r5, r6, r7⟩⟩ gN
  obtain ⟨a0, a1, a2⟩ := Kn.At.later ⟨a0, a1, a2⟩ gN
  obtain ⟨k0, k1, k2⟩ := Kn.At.later ⟨k0, k1, k2⟩ gN
  have hb2 := hb1.trans (gN.mono hb1.size)
  generalize w1.alloc (.cells #[.bool r.from_, .bool true, .bool r.lo.null, .int .i64 r.lo.n, .string r.lo.s, .bool a.null, .int .i64 a.n, .string a.s] 37) = w2 at *
  clear gN hb1
  go_upto_region 5 with fail
  have gN : Below w2.heap.size w2 (w2.alloc (.cells #[.bool true, .bool r.til, .bool a.null, .int .i64 a.n, .string a.s, .bool r.hi.null, .int .i64 r.hi.n, .string r.hi.s] 37)) := (Below.refl _ _).alloc (Nat.le_refl _) _
  have hM := Kn.RAt.new w2 ⟨true, r.til, a, r.hi⟩ 37
  have hN := hN.later gN
  obtain ⟨r0, r1, ⟨r2, r3, r4⟩, ⟨r5, r6, r7⟩⟩ := Kn.RAt.later ⟨r0, r1, ⟨r2, r3, r4⟩, ⟨r5, r6, r7⟩⟩ gN
  obtain ⟨a0, a1, a2⟩ := Kn.At.later ⟨a0, a1, a2⟩ gN
  have hK := Kn.At.later ⟨k0, k1, k2⟩ gN
  have hb3 := hb2.trans (gN.mono hb2.size)
  generalize w2.alloc (.cells #[.bool true, .bool r.til, .bool a.null, .int .i64 a.n, .string a.s, .bool r.hi.null, .int .i64 r.hi.n, .string r.hi.s] 37) = w3 at *
  clear gN hb2
  generalize w1.heap.size = q1 at hN hM ⊢
  generalize w2.heap.size = q2 at hN hM ⊢
  cases hi : Kn.inR r a
  · rw [hi] at c0
    clear c1 c2 c3 hN hM hK hi
    go_wp2_with fail
    refine (c0 _).mono ?_
    rintro e w4 ⟨rfl, g4⟩
    go_wp2
    go_ret
    exact ⟨rfl, hb3.trans (g4.mono hb3.size)⟩
  · have hW := Kn.split_ways r a k hi
    rw [hi] at c0
    have hR := Kn.RAt.mk r0 r1 ⟨r2, r3, r4⟩ ⟨r5, r6, r7⟩
    clear hi
    go_wp2_with fail
    refine (c0 _).mono ?_
    rintro e w4 ⟨rfl, g4⟩
    have hb4 := hb3.trans (g4.mono hb3.size)
    have hR4 := hR.later g4
    have hN4 := hN.later g4
    have hM4 := hM.later g4
    have hK4 := hK.later g4
    clear hR hN hM hK g4 hb3 r0 r1 r2 r3 r4 r5 r6 r7 a0 a1 a2 c0
    obtain ⟨r0, r1, ⟨r2, r3, r4⟩, ⟨r5, r6, r7⟩⟩ := hR4
    obtain ⟨n0, n1, ⟨n2, n3, n4⟩, ⟨n5, n6, n7⟩⟩ := hN4
    obtain ⟨m0, m1, ⟨m2, m3, m4⟩, ⟨m5, m6, m7⟩⟩ := hM4
    obtain ⟨k0, k1, k2⟩ := hK4
    simp only at n0 n1 n2 n3 n4 n5 n6 n7 m0 m1 m2 m3 m4 m5 m6 m7
    go_wp2_with fail
    have R0 := fun d os => cell_regrown r0 d os
    have R1 := fun d os => cell_regrown r1 d os
    have R2 := fun d os => cell_regrown r2 d os
    have R3 := fun d os => cell_regrown r3 d os
    have R4 := fun d os => cell_regrown r4 d os
    have R5 := fun d os => cell_regrown r5 d os
    have R6 := fun d os => cell_regrown r6 d os
    have R7 := fun d os => cell_regrown r7 d os
    have K0 := fun d os => cell_regrown k0 d os
    have K1 := fun d os => cell_regrown k1 d os
    have K2 := fun d os => cell_regrown k2 d os
    have N0 := fun d os => cell_regrown n0 d os
    have N1 := fun d os => cell_regrown n1 d os
    have N2 := fun d os => cell_regrown n2 d os
    have N3 := fun d os => cell_regrown n3 d os
    have N4 := fun d os => cell_regrown n4 d os
    have N5 := fun d os => cell_regrown n5 d os
    have N6 := fun d os => cell_regrown n6 d os
    have N7 := fun d os => cell_regrown n7 d os
    have M0 := fun d os => cell_regrown m0 d os
    have M1 := fun d os => cell_regrown m1 d os
    have M2 := fun d os => cell_regrown m2 d os
    have M3 := fun d os => cell_regrown m3 d os
    have M4 := fun d os => cell_regrown m4 d os
    have M5 := fun d os => cell_regrown m5 d os
    have M6 := fun d os => cell_regrown m6 d os
    have M7 := fun d os => cell_regrown m7 d os
    clear r0 r1 r2 r3 r4 r5 r6 r7 k0 k1 k2 n0 n1 n2 n3 n4 n5 n6 n7 m0 m1 m2 m3 m4 m5 m6 m7
    rcases hW with ⟨h1, h2, h3⟩ | ⟨h1, h2, h3⟩ | ⟨h1, h2, h3⟩
    all_goals
      rw [h1] at c1
      rw [h2] at c2
      rw [h3] at c3
      clear h1 h2 h3
      have C1 : Hid (∀ p : Regrown, _) := Lib.hid fun p : Regrown => Calls.regrown_of (d := p.d) (os := p.os) (w := w4) (c1 _)
      have C2 : Hid (∀ p : Regrown, _) := Lib.hid fun p : Regrown => Calls.regrown_of (d := p.d) (os := p.os) (w := w4) (c2 _)
      have C3 : Hid (∀ p : Regrown, _) := Lib.hid fun p : Regrown => Calls.regrown_of (d := p.d) (os := p.os) (w := w4) (c3 _)
      clear c1 c2 c3
      refine wp_region_quiet_below (by kernel_rfl) (by kernel_rfl) ?_
      repeat (go_big_quiet_step (first | with_reducible exact C1.out _ | with_reducible exact C2.out _ | with_reducible exact C3.out _))
      refine wpQuiet_nil ?_
      intro _ hw'
      have hg := hb4.trans ((Kn.below_reg hw').mono hb4.size)
      go_wp2
      go_ret
      exact ⟨rfl, hg⟩
end Go.Proofs.Ytaignjeokophlaa
