/-
  Contracts of package kinds: which value is ahead.
-/
import Derived.Test.YtkbkhohknniibaaK1
import Derived.WalkKit
import Derived.WalkSpells
import Derived.WalkLawsBesides
import Derived.Laws.StructEq
import Derived.Lib.QuietBelow
import Derived.Deep.RegionWith
import Derived.Deep.DeepCutAuto
import Derived.BigQuiet
import Derived.StillTailTactics
import Derived.Lib.Hide
import Derived.Deep.QuietTactic
import Derived.IntWalk
namespace Go.Proofs.Ytkbkhohknniibaa
open Go.RowKit
theorem Kn.new2 (w : World) (x y : Value) (t : TypeId) (b : Nat) (hb : b = w.heap.size) : (w.alloc (.cells #[x, y] t)).drew.cell? ⟨b, 0, none⟩ = some x ∧ (w.alloc (.cells #[x, y] t)).drew.cell? ⟨b, 1, none⟩ = some y := by
  subst hb
  have h := heap_alloc_new w (.cells #[x, y] t)
  show (w.alloc (.cells #[x, y] t)).cell? ⟨w.heap.size, 0, none⟩ = some x ∧ (w.alloc (.cells #[x, y] t)).cell? ⟨w.heap.size, 1, none⟩ = some y
  unfold World.cell?
  simp only [h]
  exact ⟨rfl, rfl⟩
end Go.Proofs.Ytkbkhohknniibaa
