/-
  Contracts of package tally: the form of a number.
-/
import Derived.Test.YtdjnjhlcdcmeaaaRows
import Derived.Test.YtdjnjhlcdcmeaaaM1
import Derived.WalkKit
import Derived.WalkSpells
import Derived.WalkLawsBesides
namespace Go.Proofs.Ytdjnjhlcdcmeaaa
open Go.RowKit

end Go.Proofs.Ytdjnjhlcdcmeaaa
