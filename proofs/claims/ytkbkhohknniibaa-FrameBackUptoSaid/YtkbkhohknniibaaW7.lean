/-
  Contracts of package tally: the cursor's methods Int, Text, Byte, Done; a cursor that isn't there.
-/
import Derived.Test.YtkbkhohknniibaaW6
namespace Go.Proofs.Ytkbkhohknniibaa
open Go.RowKit
theorem Ty.rdU_u64 (l : List UInt8) (e : Nat) : Ty.U64 (Ty.rdU l e).1 := by
  unfold Ty.rdU
  split
  · show (0 : Nat) < 2 ^ 64; omega
  · exact Ty.num_u64 l
/-- What Done returns. -/
def Ty.fin (l : List UInt8) (e : Nat) : Nat := if e = 0 ∧ l ≠ [] then 5 else e
end Go.Proofs.Ytkbkhohknniibaa
