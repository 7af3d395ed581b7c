/-
  The walk of the law ZoneParts.
-/
import Derived.Test.YtdjnjhlcdcmeaaaZA
namespace Go.Proofs.Ytdjnjhlcdcmeaaa
open Go.RowKit
/-- Two values, boxed one behind the other. -/
theorem Zn.boxedV (w : World) (a b : Kn.V) (t t' : TypeId) : Below w.heap.size w ((w.alloc (.cells #[.bool a.null, .int .i64 a.n, .string a.s] t)).alloc (.cells #[.bool b.null, .int .i64 b.n, .string b.s] t')) :=
  ((Below.refl _ w).alloc (Nat.le_refl _) _).alloc (by simp) _
/-- What the law asks for of the five answers. -/
theorem Zn.parts (v u : Kn.V) : ∃ less least eq null isnt : Bool, Zn.holds ⟨2, 0, u⟩ v = less ∧ Zn.holds ⟨3, 0, u⟩ v = least ∧ Zn.holds ⟨1, 0, u⟩ v = eq ∧ Zn.holds ⟨4, 0, u⟩ v = null ∧ Zn.holds ⟨5, 0, u⟩ v = isnt ∧
    null = v.null ∧ isnt = !v.null ∧ ((less = false ∧ least = false ∧ eq = false ∧ (!v.null && !u.null) = false) ∨ (v.null = false ∧ u.null = false ∧ ((less = true ∧ least = false ∧ eq = false) ∨ (less = false ∧ least = true)))) := by
  refine ⟨_, _, _, _, _, rfl, rfl, rfl, rfl, rfl, by simp [Zn.holds], by simp [Zn.holds], ?_⟩
  by_cases hn : (v.null || u.null) = true
  · left
    have h0 : (!v.null && !u.null) = false := by cases h1 : v.null <;> cases h2 : u.null <;> simp_all
    simp [Zn.holds, hn, h0]
  · right
    have h1 : v.null = false := by cases h : v.null <;> simp_all
    have h2 : u.null = false := by cases h : u.null <;> simp_all
    refine ⟨h1, h2, ?_⟩
    simp only [Zn.holds, h1, h2]
    by_cases hc : Kn.cmp v u < 0
    · left
      simp [hc]
      omega
    · right
      simp [hc]
      omega
set_option maxHeartbeats 4000000 in
set_option maxRecDepth 100000 in
theorem Zn.lawParts_w (v u : Kn.V) (w : World) :
    Calls Try.prog 7 #[v.val, u.val] w fun e w' => e = .returned (.bool true) ∧ Below w.heap.size w w' := by
  obtain ⟨less, least, eq, null, isnt, h2, h3, h1, h4, h5, hn, hi, hall⟩ := Zn.parts v u
  have c2 := Zn.holds_c ⟨2, 0, u⟩ v
  have c3 := Zn.holds_c ⟨3, 0, u⟩ v
  have c1 := Zn.holds_c ⟨1, 0, u⟩ v
  have c4 := Zn.holds_c ⟨4, 0, u⟩ v
  have c5 := Zn.holds_c ⟨5, 0, u⟩ v
  rw [h2] at c2
  rw [h3] at c3
  rw [h1] at c1
  rw [h4] at c4
  rw [h5] at c5
  subst hn hi
  clear h1 h2 h3 h4 h5
  have hV := (Kn.boxed2 w v u 23 23).1
  have hU := (Kn.boxed2 w v u 23 23).2
  have hb := Zn.boxedV w v u 23 23
  have HALL := Lib.hid hall
  clear hall
  obtain ⟨vn, vi, vs⟩ := v
  obtain ⟨un, ui, us⟩ := u
  unfold Zn.As.val Kn.V.val at c1 c2 c3 c4 c5
  unfold Kn.V.val
  simp only at hV hU hb c1 c2 c3 c4 c5 HALL
  have HV := Lib.hid hV
  have HU := Lib.hid hU
  have HB := Lib.hid hb
  have HC1 : Hid (∀ w, _) := Lib.hid c1
  have HC2 : Hid (∀ w, _) := Lib.hid c2
  have HC3 : Hid (∀ w, _) := Lib.hid c3
  have HC4 : Hid (∀ w, _) := Lib.hid c4
  have HC5 : Hid (∀ w, _) := Lib.hid c5
  clear hV hU hb c1 c2 c3 c4 c5
  go_enter Try.func7, Try.ntmps7
  go_upto_region 1 with (fail)
  generalize (w.alloc _).alloc _ = wo at HV HU HB ⊢
  go_wp2_with fail
  with_reducible refine (Zn.lives_c _).mono ?_
  rintro e w1 ⟨rfl, g1⟩
  have HV1 := Lib.hid (HV.out.later g1)
  have HU1 := Lib.hid (HU.out.later g1)
  have HB1 := Lib.hid (Zn.grow HB.out g1)
  clear g1
  obtain ⟨v0, v1, v2⟩ := HV1.out
  obtain ⟨u0, u1, u2⟩ := HU1.out
  simp only at v0 v1 v2 u0 u1 u2
  have A0 := fun d os => cell_regrown v0 d os
  have A1 := fun d os => cell_regrown v1 d os
  have A2 := fun d os => cell_regrown v2 d os
  have B0 := fun d os => cell_regrown u0 d os
  have B1 := fun d os => cell_regrown u1 d os
  have B2 := fun d os => cell_regrown u2 d os
  have D1 : Hid (∀ p : Regrown, _) := Lib.hid fun p : Regrown => Calls.regrown_of (d := p.d) (os := p.os) (w := w1) (HC1.out _)
  have D2 : Hid (∀ p : Regrown, _) := Lib.hid fun p : Regrown => Calls.regrown_of (d := p.d) (os := p.os) (w := w1) (HC2.out _)
  have D3 : Hid (∀ p : Regrown, _) := Lib.hid fun p : Regrown => Calls.regrown_of (d := p.d) (os := p.os) (w := w1) (HC3.out _)
  clear v0 v1 v2 u0 u1 u2
  go_upto_region 3 with (fail)
  refine wp_region_quiet_below (by kernel_rfl) (by kernel_rfl) ?_
  repeat (go_big_quiet_step (first | with_reducible exact D1.out _ | with_reducible exact D2.out _ | with_reducible exact D3.out _))
  refine wpQuiet_nil ?_
  intro w3 hw3
  have HV3 := Lib.hid (HV1.out.later (Kn.below_reg hw3))
  have HU3 := Lib.hid (HU1.out.later (Kn.below_reg hw3))
  have HB3 := Lib.hid (Zn.grow HB1.out (Kn.below_reg hw3))
  clear A0 A1 A2 B0 B1 B2 D1 D2 D3 hw3
  obtain ⟨v0, v1, v2⟩ := HV3.out
  obtain ⟨u0, u1, u2⟩ := HU3.out
  simp only at v0 v1 v2 u0 u1 u2
  have A0 := fun d os => cell_regrown v0 d os
  have A1 := fun d os => cell_regrown v1 d os
  have A2 := fun d os => cell_regrown v2 d os
  have B0 := fun d os => cell_regrown u0 d os
  have B1 := fun d os => cell_regrown u1 d os
  have B2 := fun d os => cell_regrown u2 d os
  have D4 : Hid (∀ p : Regrown, _) := Lib.hid fun p : Regrown => Calls.regrown_of (d := p.d) (os := p.os) (w := w3) (HC4.out _)
  have D5 : Hid (∀ p : Regrown, _) := Lib.hid fun p : Regrown => Calls.regrown_of (d := p.d) (os := p.os) (w := w3) (HC5.out _)
  clear v0 v1 v2 u0 u1 u2
  go_upto_region 4 with (fail)
  refine wp_region_quiet_below (by kernel_rfl) (by kernel_rfl) ?_
  repeat (go_big_quiet_step (first | with_reducible exact D4.out _ | with_reducible exact D5.out _))
  refine wpQuiet_nil ?_
  intro w5 hw5
  have HV5 := Lib.hid (HV3.out.later (Kn.below_reg hw5))
  have HU5 := Lib.hid (HU3.out.later (Kn.below_reg hw5))
  have HB5 := Lib.hid (Zn.grow HB3.out (Kn.below_reg hw5))
  clear A0 A1 A2 B0 B1 B2 D4 D5 hw5
  obtain ⟨v0, v1, v2⟩ := HV5.out
  obtain ⟨u0, u1, u2⟩ := HU5.out
  simp only at v0 v1 v2 u0 u1 u2
  rcases HALL.out with ⟨rfl, rfl, rfl, hh⟩ | ⟨rfl, rfl, ⟨rfl, rfl, rfl⟩ | ⟨rfl, rfl⟩⟩
  · cases vn <;> cases un
    · cases hh
    all_goals
      go_wp2
      go_ret
      exact ⟨rfl, HB5.out⟩
  · go_wp2
    go_ret
    exact ⟨rfl, HB5.out⟩
  · cases eq
    all_goals
      go_wp2
      go_ret
      exact ⟨rfl, HB5.out⟩
end Go.Proofs.Ytdjnjhlcdcmeaaa
