/-
  What the laws of tally want of a buffer that begins as nil.
-/
import Derived.Test.YtkbkhohknniibaaL1
import Derived.RegionCalls
import Derived.Deep.RegionWith
namespace Go.Proofs.Ytkbkhohknniibaa
open Go.RowKit
theorem Ty.Buf.later {base : Nat} {w w' : World} {v : Value} {bs : List UInt8} (h : Ty.Buf base w v bs) (hb : Below w.heap.size w w') : Ty.Buf base w' v bs :=
  h.kept fun k hk => hb.block k (h.lt k hk).2
theorem Ty.Buf.str {base : Nat} {w : World} {v : Value} {bs : List UInt8} (h : Ty.Buf base w v bs) : (convert 40 9 v).run Try.prog w = .ok (.string (Ty.S bs)) w :=
  h.string 40 9 Try.underlying40 Try.underlying5 Try.underlying9
theorem Ty.below_none {w w' : World} {B : Nat} (hg : w.grownBy w' none) (hB : B ≤ w.heap.size) : Below B w w' := Ty.below_by hg hB (by intro k hk; cases hk)
theorem Ty.below_at {w w' : World} {B b : Nat} (hg : w.grownBy w' (some b)) (hB : B ≤ w.heap.size) (hb : B ≤ b) : Below B w w' := Ty.below_by hg hB (by intro k hk; cases hk; exact hb)
end Go.Proofs.Ytkbkhohknniibaa
