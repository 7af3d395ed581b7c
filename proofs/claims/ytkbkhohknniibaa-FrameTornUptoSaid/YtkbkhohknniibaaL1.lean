/-
  The laws' own 'lives' answers true.
-/
import Derived.Test.YtkbkhohknniibaaW7
namespace Go.Proofs.Ytkbkhohknniibaa
open Go.RowKit
theorem Ty.below_by {w w' : World} {B : Nat} {r : Option Nat} (hg : w.grownBy w' r) (hB : B ≤ w.heap.size) (hr : ∀ k, r = some k → B ≤ k) : Below B w w' :=
  (Below.refl B w).grown hg hB hr
end Go.Proofs.Ytkbkhohknniibaa
