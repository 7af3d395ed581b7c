/-
  The laws' own 'lives' answers true.
-/
import Derived.Test.YtccjfmjgkkpndaaDoorW7
namespace Go.Proofs.YtccjfmjgkkpndaaDoor
open Go.RowKit
theorem Ty.Tabs.below {w w' : World} (h : Ty.Tabs w) {b : Nat} (hb : Below b w w') (hG : Ty.G ≤ b) : Ty.Tabs w' := h.kept hb.size fun k hk => hb.block k (by omega)
theorem Ty.below_by {w w' : World} {B : Nat} {r : Option Nat} (hg : w.grownBy w' r) (hB : B ≤ w.heap.size) (hr : ∀ k, r = some k → B ≤ k) : Below B w w' :=
  (Below.refl B w).grown hg hB hr
theorem Ty.Cur.by {b : Nat} {w w' : World} {l : List UInt8} {e : Nat} (h : Ty.Cur b w l e) {r : Option Nat} (hg : w.grownBy w' r) (hr : r ≠ some b) : Ty.Cur b w' l e := by
  unfold Ty.Cur at h ⊢
  rw [hg.block b (lt_of_block h) (fun e => hr e.symm)]
  exact h
theorem Ty.Cur.at_new (w : World) (l : List UInt8) : Ty.Cur w.heap.size (w.alloc (.cells #[.string (Ty.S l), .int .i64 0] 77 (0, 0))) l 0 := heap_alloc_new w _
theorem Ty.Tabs.alloc {w : World} (h : Ty.Tabs w) (o : Obj) : Ty.Tabs (w.alloc o) := h.below ((Below.refl w.heap.size w).alloc (Nat.le_refl _) o) h.two
end Go.Proofs.YtccjfmjgkkpndaaDoor
