/-
  Contracts of package tally: the form of a number.
-/
import Derived.Test.YtkbkhohknniibaaRows
import Derived.Test.YtkbkhohknniibaaM1
import Derived.WalkKit
import Derived.WalkSpells
import Derived.WalkLawsBesides
namespace Go.Proofs.Ytkbkhohknniibaa
open Go.RowKit

end Go.Proofs.Ytkbkhohknniibaa
