/-
  The walks of the laws ZoneHolds, ZoneOf.
-/
import Derived.Test.YtdjnjhlcdcmeaaaZA
import Derived.Test.YtdjnjhlcdcmeaaaZ4
import Derived.Test.YtdjnjhlcdcmeaaaZ9
namespace Go.Proofs.Ytdjnjhlcdcmeaaa
open Go.RowKit
set_option maxHeartbeats 2000000 in
set_option maxRecDepth 100000 in
theorem Zn.lawHolds_w (a : Zn.As) (v : Kn.V) (ha : Kn.Z a.v) (hv : Kn.Z v) (w : World) :
    Calls Try.prog 3 #[a.val, v.val] w fun e w' => e = .returned (.bool true) ∧ Below w.heap.size w w' := by
  obtain ⟨⟨a0, a1, a2, a3, a4⟩, ⟨v0, v1, v2⟩, hb⟩ := Zn.boxedA w a v 25 23
  have cC := Zn.holds_c a v
  have cR := Zn.rholds_c a v ha hv
  clear ha hv
  generalize Zn.holds a v = B at cC cR
  obtain ⟨op, col, ⟨an, ai, sa⟩⟩ := a
  obtain ⟨vn, vi, sv⟩ := v
  unfold Kn.V.val at cC cR ⊢
  simp only at a0 a1 a2 a3 a4 v0 v1 v2 hb
  go_enter Try.func3, Try.ntmps3
  go_wp2_with fail
  generalize (World.alloc _ _).alloc _ = wn at a0 a1 a2 a3 a4 v0 v1 v2 hb ⊢
  have A0 := fun d os => cell_regrown a0 d os
  have A1 := fun d os => cell_regrown a1 d os
  have A2 := fun d os => cell_regrown a2 d os
  have A3 := fun d os => cell_regrown a3 d os
  have A4 := fun d os => cell_regrown a4 d os
  have B0 := fun d os => cell_regrown v0 d os
  have B1 := fun d os => cell_regrown v1 d os
  have B2 := fun d os => cell_regrown v2 d os
  have CL : Hid (∀ p : Regrown, _) := Lib.hid fun p : Regrown => Calls.regrown_of (d := p.d) (os := p.os) (w := wn) (Zn.lives_c _)
  have CC : Hid (∀ p : Regrown, _) := Lib.hid fun p : Regrown => Calls.regrown_of (d := p.d) (os := p.os) (w := wn) (cC _)
  have CR : Hid (∀ p : Regrown, _) := Lib.hid fun p : Regrown => Calls.regrown_of (d := p.d) (os := p.os) (w := wn) (cR _)
  clear cC cR a0 a1 a2 a3 a4 v0 v1 v2
  refine wp_region_quiet_below (by kernel_rfl) (by kernel_rfl) ?_
  repeat (go_big_quiet_step (first | with_reducible exact CL.out _ | with_reducible exact CC.out _ | with_reducible exact CR.out _))
  refine wpQuiet_nil ?_
  intro _ hw'
  have hg := hb.trans ((Kn.below_reg hw').mono hb.size)
  go_wp2
  go_ret
  exact ⟨rfl, hg⟩
set_option maxHeartbeats 2000000 in
set_option maxRecDepth 100000 in
theorem Zn.lawOf_w (v : Value) (l : List Kn.V) (w : World) (hv : Kn.Vals w v l) (hz : ∀ x ∈ l, Kn.Z x) :
    Calls Try.prog 4 #[v] w fun e w' => e = .returned (.bool true) ∧ Below w.heap.size w w' := by
  have CO : Hid (∀ wz, Kn.Vals wz v l → Calls Try.prog 11 #[v] wz fun e w' => e = .returned (Zn.of l).val ∧ Below wz.heap.size wz w') := Lib.hid fun wz h => Zn.of_c v l wz h hz
  have CR : Hid (∀ wz, Kn.Vals wz v l → Calls Try.prog 12 #[v] wz fun e w' => e = .returned (Zn.of l).val ∧ Below wz.heap.size wz w') := Lib.hid fun wz h => Zn.rof_c v l wz h hz
  have HV := Lib.hid hv
  clear hv hz
  generalize Zn.of l = z at CO CR
  obtain ⟨zn, zw, ⟨ln, li, ls⟩, ⟨hn, hi, hs⟩⟩ := z
  go_enter Try.func4, Try.ntmps4
  go_wp2_with fail
  with_reducible refine (Zn.lives_c _).mono ?_
  rintro e w1 ⟨rfl, g1⟩
  have HV1 := Lib.hid (HV.out.later g1)
  have HB1 := Lib.hid g1
  clear g1
  go_wp2_with fail
  with_reducible refine (CO.out _ HV1.out).mono ?_
  rintro e w2 ⟨rfl, g2⟩
  have HV2 := Lib.hid (HV1.out.later g2)
  have HB2 := Lib.hid (Zn.grow HB1.out g2)
  clear g2
  go_wp2_with fail
  with_reducible refine (CR.out _ HV2.out).mono ?_
  rintro e w3 ⟨rfl, g3⟩
  have HB3 := Lib.hid (Zn.grow HB2.out g3)
  clear g3
  go_wp2
  go_ret
  exact ⟨rfl, HB3.out⟩
end Go.Proofs.Ytdjnjhlcdcmeaaa
