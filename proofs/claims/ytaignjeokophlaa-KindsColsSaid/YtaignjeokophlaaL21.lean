/-
  The walks of the laws KindsCompare, KindsSame and KindsFits.
-/
import Derived.Test.YtaignjeokophlaaK10
namespace Go.Proofs.Ytaignjeokophlaa
open Go.RowKit
theorem Kn.below_reg {w w' : World} (h : ∃ p : Regrown, w' = Sort.grow (redrawn w p.d) p.os) : Below w.heap.size w w' := by
  obtain ⟨p, rfl⟩ := h
  exact below_regrown w p.d p.os
theorem Kn.drewN_below (w : World) (n : Nat) : Below w.heap.size w (w.drewN n) := Kn.below_drewN (Below.refl _ _) n
set_option maxHeartbeats 1000000 in
theorem Kn.lawCompare_w (a b : Kn.V) (ha : Kn.Z a) (hb : Kn.Z b) (w : World) :
    Calls Try.prog 4 #[a.val, b.val] w fun e w' => e = .returned (.bool true) ∧ Below w.heap.size w w' := by
  have cC := Kn.compare_c a b
  have cR := Kn.rCompare_c a b ha hb
  obtain ⟨⟨a0, a1, a2⟩, ⟨b0, b1, b2⟩⟩ := Kn.boxed2 w a b 26 26
  have hb := Kn.box2 w (.cells #[.bool a.null, .int .i64 a.n, .string a.s] 26) (.cells #[.bool b.null, .int .i64 b.n, .string b.s] 26)
  unfold Kn.V.val at cC cR ⊢
  go_enter Try.func4, Try.ntmps4
  go_wp2_with fail
  generalize (w.alloc (.cells #[.bool a.null, .int .i64 a.n, .string a.s] 26)).alloc (.cells #[.bool b.null, .int .i64 b.n, .string b.s] 26) = wn at a0 a1 a2 b0 b1 b2 hb ⊢
  have A0 := fun d os => cell_regrown a0 d os
  have A1 := fun d os => cell_regrown a1 d os
  have A2 := fun d os => cell_regrown a2 d os
  have B0 := fun d os => cell_regrown b0 d os
  have B1 := fun d os => cell_regrown b1 d os
  have B2 := fun d os => cell_regrown b2 d os
  have CL : Hid (∀ p : Regrown, _) := Lib.hid fun p : Regrown => Calls.regrown_of (d := p.d) (os := p.os) (w := wn) (Kn.lives_c _)
  have CC : Hid (∀ p : Regrown, _) := Lib.hid fun p : Regrown => Calls.regrown_of (d := p.d) (os := p.os) (w := wn) (cC _)
  have CR : Hid (∀ p : Regrown, _) := Lib.hid fun p : Regrown => Calls.regrown_of (d := p.d) (os := p.os) (w := wn) (cR _)
  clear cC cR a0 a1 a2 b0 b1 b2
  refine wp_region_quiet_below (by kernel_rfl) (by kernel_rfl) ?_
  repeat (go_big_quiet_step (first | exact CL.out _ | exact CC.out _ | exact CR.out _))
  refine wpQuiet_nil ?_
  intro _ hw'
  have hg := hb.trans ((Kn.below_reg hw').mono hb.size)
  go_wp2
  go_ret
  exact ⟨rfl, hg⟩
set_option maxHeartbeats 1000000 in
theorem Kn.lawSame_w (v u : Value) (s r : List Kn.V) (w : World) (hs : Kn.Vals w v s) (hr : Kn.Vals w u r) :
    Calls Try.prog 8 #[v, u] w fun e w' => e = .returned (.bool true) ∧ Below w.heap.size w w' := by
  have cS := fun wx h1 h2 => Kn.same_c v u s r wx h1 h2
  have cR := fun wx h1 h2 => Kn.rsame_c v u s r wx h1 h2
  have cA := fun wx h1 => Kn.same_c v v s s wx h1 h1
  rw [Kn.sameR_self] at cA
  go_enter Try.func8, Try.ntmps8
  go_wp2_with fail
  refine (Kn.lives_c _).mono ?_
  rintro e w1 ⟨rfl, g1⟩
  have hs1 := hs.later g1
  have hr1 := hr.later g1
  go_wp2_with fail
  refine (cS _ hs1 hr1).mono ?_
  rintro e w2 ⟨rfl, n2, rfl⟩
  have hs2 := hs1.later (Kn.drewN_below w1 n2)
  have hr2 := hr1.later (Kn.drewN_below w1 n2)
  have g2 := Kn.below_drewN g1 n2
  generalize w1.drewN n2 = w2 at hs2 hr2 g2 ⊢
  go_wp2_with fail
  refine (cR _ hs2 hr2).mono ?_
  rintro e w3 ⟨rfl, n3, rfl⟩
  have hs3 := hs2.later (Kn.drewN_below w2 n3)
  have g3 := Kn.below_drewN g2 n3
  generalize w2.drewN n3 = w3 at hs3 g3 ⊢
  go_wp2_with fail
  refine (cA _ hs3).mono ?_
  rintro e w4 ⟨rfl, n4, rfl⟩
  go_wp2
  go_ret
  exact ⟨rfl, Kn.below_drewN g3 n4⟩
set_option maxHeartbeats 1000000 in
theorem Kn.lawFits_w (v u : Value) (s : List Kn.C) (r : List Kn.V) (k : Kn.V) (w : World) (hs : Kn.Cols w v s) (hr : Kn.Vals w u r) :
    Calls Try.prog 3 #[v, u, k.val] w fun e w' => e = .returned (.bool true) ∧ Below w.heap.size w w' := by
  have gN : Below w.heap.size w (w.alloc (.cells #[.bool k.null, .int .i64 k.n, .string k.s] 26)) := (Below.refl _ _).alloc (Nat.le_refl _) _
  obtain ⟨k0, k1, k2⟩ := Kn.At.new w k 26
  have hs1 := hs.later gN
  have hr1 := hr.later gN
  unfold Kn.V.val
  go_enter Try.func3, Try.ntmps3
  go_wp2_with fail
  generalize w.alloc (.cells #[.bool k.null, .int .i64 k.n, .string k.s] 26) = wn at k0 k1 k2 gN hs1 hr1 ⊢
  have hS := fun (p : Regrown) => hs1.later (below_regrown wn p.d p.os)
  have hR := fun (p : Regrown) => hr1.later (below_regrown wn p.d p.os)
  have K0 := fun d os => cell_regrown k0 d os
  have K1 := fun d os => cell_regrown k1 d os
  have K2 := fun d os => cell_regrown k2 d os
  have CL : Hid (∀ p : Regrown, _) := Lib.hid fun p : Regrown => Calls.regrown_of (d := p.d) (os := p.os) (w := wn) (Kn.lives_c _)
  have C1 : Hid (∀ p : Regrown, _) := Lib.hid fun p : Regrown => Calls.regrown_of (d := p.d) (os := p.os) (w := wn) (Kn.right_c v s _ (hS p))
  have C2 : Hid (∀ p : Regrown, Calls Try.prog 12 #[v] (Sort.grow (redrawn wn p.d) p.os) fun e w'' => e = .returned (.bool (Kn.right s)) ∧ ∃ p : Regrown, w'' = Sort.grow (redrawn wn p.d) p.os) := Lib.hid fun p : Regrown => (Kn.rRight_c v s _ (hS p)).mono fun e w' ⟨he, hw⟩ => ⟨he, p, hw⟩
  have C3 : Hid (∀ p : Regrown, _) := Lib.hid fun p : Regrown => Calls.regrown_of (d := p.d) (os := p.os) (w := wn) (Kn.fits_c v u s r _ (hS p) (hR p))
  have C4 : Hid (∀ p : Regrown, _) := Lib.hid fun p : Regrown => Calls.regrown_of (d := p.d) (os := p.os) (w := wn) (Kn.rfits_c v u s r _ (hS p) (hR p))
  have C5 : Hid (∀ p : Regrown, _) := Lib.hid fun p : Regrown => Calls.regrown_of (d := p.d) (os := p.os) (w := wn) (Kn.key_c v s k _ (hS p))
  have C6 : Hid (∀ p : Regrown, _) := Lib.hid fun p : Regrown => Calls.regrown_of (d := p.d) (os := p.os) (w := wn) (Kn.rkey_c v s k _ (hS p))
  clear hS hR k0 k1 k2
  refine wp_region_quiet_below (by kernel_rfl) (by kernel_rfl) ?_
  repeat (go_big_quiet_step (first | exact CL.out _ | exact C1.out _ | exact C2.out _ | exact C3.out _ | exact C4.out _ | exact C5.out _ | exact C6.out _))
  refine wpQuiet_nil ?_
  intro _ hw'
  have hg := gN.trans ((Kn.below_reg hw').mono gN.size)
  go_wp2
  go_ret
  exact ⟨rfl, hg⟩
end Go.Proofs.Ytaignjeokophlaa
