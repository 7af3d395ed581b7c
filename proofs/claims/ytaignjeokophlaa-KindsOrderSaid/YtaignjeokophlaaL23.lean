/-
  The walk of the law KindsOrder.
-/
import Derived.Test.YtaignjeokophlaaL22
namespace Go.Proofs.Ytaignjeokophlaa
open Go.RowKit
theorem Kn.same_ways (a b : Kn.V) : (a.null = true ∧ b.null = true ∧ Kn.same a b = true) ∨ (a.null = true ∧ b.null = false ∧ Kn.same a b = false) ∨ (a.null = false ∧ b.null = true ∧ Kn.same a b = false) ∨ (a.null = false ∧ b.null = false ∧ (a.n == b.n) = false ∧ Kn.same a b = false) ∨ (a.null = false ∧ b.null = false ∧ (a.n == b.n) = true ∧ (a.s.toList == b.s.toList) = false ∧ Kn.same a b = false) ∨ (a.null = false ∧ b.null = false ∧ (a.n == b.n) = true ∧ (a.s.toList == b.s.toList) = true ∧ Kn.same a b = true) := by
  unfold Kn.same
  cases a.null <;> cases b.null <;> cases (a.n == b.n) <;> cases (a.s.toList == b.s.toList) <;> simp
/-- The three comparisons' values. -/
theorem Kn.order_ways (a b c : Kn.V) : ∃ x y z x' : Int, Kn.cmp a b = x ∧ Kn.cmp b c = y ∧ Kn.cmp a c = z ∧ Kn.cmp b a = x' ∧ x' = -x ∧ (x == 0) = Kn.same a b ∧ ((x = -1 ∧ y = -1 ∧ z = -1) ∨ (x = -1 ∧ y = 0 ∧ z = -1) ∨ (x = -1 ∧ y = 1 ∧ z = -1) ∨ (x = -1 ∧ y = 1 ∧ z = 0) ∨ (x = -1 ∧ y = 1 ∧ z = 1) ∨ (x = 0 ∧ y = -1 ∧ z = -1) ∨ (x = 0 ∧ y = 0 ∧ z = 0) ∨ (x = 0 ∧ y = 1 ∧ z = 1) ∨ (x = 1 ∧ y = -1 ∧ z = -1) ∨ (x = 1 ∧ y = -1 ∧ z = 0) ∨ (x = 1 ∧ y = -1 ∧ z = 1) ∨ (x = 1 ∧ y = 0 ∧ z = 1) ∨ (x = 1 ∧ y = 1 ∧ z = 1)) := by
  refine ⟨_, _, _, _, rfl, rfl, rfl, rfl, ?_, Kn.cmp_zero a b, ?_⟩
  · exact (Kn.cmp_fair a b c).xa
  · obtain ⟨⟨h1, h2⟩, ⟨h3, h4⟩, ⟨h5, h6⟩, h7, h8, h9, h10, h11, h12, h13⟩ := Kn.cmp_fair a b c
    generalize Kn.cmp a b = x at *
    generalize Kn.cmp b c = y at *
    generalize Kn.cmp a c = z at *
    have hx : x = -1 ∨ x = 0 ∨ x = 1 := by omega
    have hy : y = -1 ∨ y = 0 ∨ y = 1 := by omega
    have hz : z = -1 ∨ z = 0 ∨ z = 1 := by omega
    clear h7 h8 h9
    rcases hx with rfl | rfl | rfl <;> rcases hy with rfl | rfl | rfl <;> rcases hz with rfl | rfl | rfl <;> first
      | (exfalso; omega)
      | simp
set_option maxRecDepth 100000 in
set_option maxHeartbeats 4000000 in
theorem Kn.lawOrder_w (a b c : Kn.V) (w : World) :
    Calls Try.prog 5 #[a.val, b.val, c.val] w fun e w' => e = .returned (.bool true) ∧ Below w.heap.size w w' := by
  obtain ⟨x, y, z, x', hx, hy, hz, hx', hn, hs, hw⟩ := Kn.order_ways a b c
  have c1 := Kn.compare_c a b
  have c2 := Kn.compare_c b c
  have c3 := Kn.compare_c a c
  have c4 := Kn.compare_c b a
  rw [hx] at c1
  rw [hy] at c2
  rw [hz] at c3
  rw [hx'] at c4
  clear hx hy hz hx'
  obtain ⟨hA, hB⟩ := Kn.boxed2 w a b 26 26
  have hA := hA.alloc (.cells #[.bool c.null, .int .i64 c.n, .string c.s] 26)
  have hB := hB.alloc (.cells #[.bool c.null, .int .i64 c.n, .string c.s] 26)
  have hb := Kn.box2 w (.cells #[.bool a.null, .int .i64 a.n, .string a.s] 26) (.cells #[.bool b.null, .int .i64 b.n, .string b.s] 26)
  have hC := Kn.At.new ((w.alloc (.cells #[.bool a.null, .int .i64 a.n, .string a.s] 26)).alloc (.cells #[.bool b.null, .int .i64 b.n, .string b.s] 26)) c 26
  rw [World.size_alloc, World.size_alloc] at hC
  have hb := hb.alloc hb.size (.cells #[.bool c.null, .int .i64 c.n, .string c.s] 26)
  unfold Kn.V.val at c1 c2 c3 c4 ⊢
  go_enter Try.func5, Try.ntmps5
  go_wp2_with fail
  refine (Kn.lives_c _).mono ?_
  rintro e w1 ⟨rfl, g1⟩
  obtain ⟨a0, a1, a2⟩ := hA.later g1
  obtain ⟨b0, b1, b2⟩ := hB.later g1
  obtain ⟨k0, k1, k2⟩ := hC.later g1
  have hb1 := hb.trans (g1.mono hb.size)
  clear hA hB hC hb g1
  go_wp2_with fail
  have A0 := fun d os => cell_regrown a0 d os
  have A1 := fun d os => cell_regrown a1 d os
  have A2 := fun d os => cell_regrown a2 d os
  have B0 := fun d os => cell_regrown b0 d os
  have B1 := fun d os => cell_regrown b1 d os
  have B2 := fun d os => cell_regrown b2 d os
  have K0 := fun d os => cell_regrown k0 d os
  have K1 := fun d os => cell_regrown k1 d os
  have K2 := fun d os => cell_regrown k2 d os
  have C1 : Hid (∀ p : Regrown, _) := Lib.hid fun p : Regrown => Calls.regrown_of (d := p.d) (os := p.os) (w := w1) (c1 _)
  have C2 : Hid (∀ p : Regrown, _) := Lib.hid fun p : Regrown => Calls.regrown_of (d := p.d) (os := p.os) (w := w1) (c2 _)
  have C3 : Hid (∀ p : Regrown, _) := Lib.hid fun p : Regrown => Calls.regrown_of (d := p.d) (os := p.os) (w := w1) (c3 _)
  have HW := Lib.hid hw
  have HS := Lib.hid hs
  have HN := Lib.hid hn
  clear hw hs hn
  refine wp_region_quiet_below (by kernel_rfl) (by kernel_rfl) ?_
  repeat (go_big_quiet_step (first | with_reducible exact C1.out _ | with_reducible exact C2.out _ | with_reducible exact C3.out _))
  refine wpQuiet_nil ?_
  intro w2 hw'
  obtain ⟨⟨dq, osq⟩, hw''⟩ := hw'
  have a0 : w2.cell? _ = _ := hw'' ▸ A0 dq osq
  have a1 : w2.cell? _ = _ := hw'' ▸ A1 dq osq
  have a2 : w2.cell? _ = _ := hw'' ▸ A2 dq osq
  have b0 : w2.cell? _ = _ := hw'' ▸ B0 dq osq
  have b1 : w2.cell? _ = _ := hw'' ▸ B1 dq osq
  have b2 : w2.cell? _ = _ := hw'' ▸ B2 dq osq
  have hb2 : Below w.heap.size w w2 := hw'' ▸ hb1.trans ((below_regrown w1 dq osq).mono hb1.size)
  clear hw'' A0 A1 A2 B0 B1 B2 K0 K1 K2 k0 k1 k2 C1 C2 C3 c1 c2 c3 hb1
  go_upto_region 4 with fail
  go_cut [10] (fun s10 wx => s10 = .bool (Kn.same a b) ∧ wx = w2)
  case first =>
    rcases Kn.same_ways a b with ⟨h1, h2, h⟩ | ⟨h1, h2, h⟩ | ⟨h1, h2, h⟩ | ⟨h1, h2, h3, h⟩ | ⟨h1, h2, h3, h4, h⟩ | ⟨h1, h2, h3, h4, h⟩
    all_goals
      have H := Lib.hid h
      clear h
      go_wp2_with fail
      go_meet
      exact ⟨by rw [H.out], rfl⟩
  case rest =>
    obtain ⟨rfl, rfl⟩ := hcut
    rcases HW.out with ⟨rfl, rfl, rfl⟩ | ⟨rfl, rfl, rfl⟩ | ⟨rfl, rfl, rfl⟩ | ⟨rfl, rfl, rfl⟩ | ⟨rfl, rfl, rfl⟩ | ⟨rfl, rfl, rfl⟩ | ⟨rfl, rfl, rfl⟩ | ⟨rfl, rfl, rfl⟩ | ⟨rfl, rfl, rfl⟩ | ⟨rfl, rfl, rfl⟩ | ⟨rfl, rfl, rfl⟩ | ⟨rfl, rfl, rfl⟩ | ⟨rfl, rfl, rfl⟩
    all_goals
      have hn := HN.out
      try simp at hn
      subst hn
      rw [← HS.out]
      clear HS HN HW
      go_wp2_with fail
      refine (c4 _).mono ?_
      rintro e w4 ⟨rfl, g4⟩
      go_wp2
      go_ret
      exact ⟨rfl, hb2.trans (g4.mono hb2.size)⟩
end Go.Proofs.Ytaignjeokophlaa
