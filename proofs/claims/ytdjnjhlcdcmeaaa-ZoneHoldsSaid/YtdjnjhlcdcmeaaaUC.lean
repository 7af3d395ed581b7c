/-
  Contracts of package texts: a string copied. Over a contract of the shelf, laid at this program.
-/
import Derived.Test.YtdjnjhlcdcmeaaaRows
import Derived.Test.YtdjnjhlcdcmeaaaLay
import Derived.WalkKit
import Derived.WalkSpells
import Derived.WalkLawsBesides
namespace Go.Proofs.Ytdjnjhlcdcmeaaa
open Go.RowKit Go.Shelf
/-- A string copied. -/
theorem Tx.clone_c (s : ByteArray) (w : World) (hs : s.size ≤ 140737488355328) : Calls Try.prog 19 #[.string s] w fun e w' => e = .returned (.string s) ∧ Below w.heap.size w w' := by
  have cc := Any.stringslite_Clone Try.cloneL s w (by omega)
  go_enter Try.func19, Try.ntmps19
  go_wp2_with fail
  refine Calls.mono cc ?_
  rintro e w1 ⟨rfl, hb⟩
  go_wp2
  go_ret
  exact ⟨rfl, hb⟩
end Go.Proofs.Ytdjnjhlcdcmeaaa
