/-
  Contracts of the document's answers for tally: the cursor's methods.
-/
import Derived.Test.YtkbkhohknniibaaR3
namespace Go.Proofs.Ytkbkhohknniibaa
open Go.RowKit
theorem Ty.by_some {w w' : World} (h : w.grownBy w' none) (r : Nat) : w.grownBy w' (some r) := ⟨h.os, h.tape, h.output, h.size, fun k hk _ => h.block k hk (by intro e; cases e)⟩
theorem Ty.drop_at (s : ByteArray) (a k : Nat) : s.data.toList.drop (a + k) = (s.data.toList.drop a).drop k := by rw [List.drop_drop]
end Go.Proofs.Ytkbkhohknniibaa
