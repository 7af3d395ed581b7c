/-
  The walks of the laws KindsCompare, KindsSame and KindsFits.
-/
import Derived.Test.YtdjnjhlcdcmeaaaK10
namespace Go.Proofs.Ytdjnjhlcdcmeaaa
open Go.RowKit
theorem Kn.below_reg {w w' : World} (h : ∃ p : Regrown, w' = Sort.grow (redrawn w p.d) p.os) : Below w.heap.size w w' := by
  obtain ⟨p, rfl⟩ := h
  exact below_regrown w p.d p.os
theorem Kn.drewN_below (w : World) (n : Nat) : Below w.heap.size w (w.drewN n) := Kn.below_drewN (Below.refl _ _) n
end Go.Proofs.Ytdjnjhlcdcmeaaa
