/-
  Contracts of the document's answers for tally: the cursor.
-/
import Derived.Test.YtkbkhohknniibaaR1
import Derived.Test.YtkbkhohknniibaaL6
namespace Go.Proofs.Ytkbkhohknniibaa
open Go.RowKit
end Go.Proofs.Ytkbkhohknniibaa
