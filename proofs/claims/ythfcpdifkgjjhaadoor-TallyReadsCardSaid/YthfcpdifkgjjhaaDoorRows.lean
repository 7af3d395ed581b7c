/-
  NARROWER THAN 'FOR EVERY INPUT', by the rows' own cells (each row's printed sentence says how): TallyWrites: laid · TallyReads: laid · TallyBack: laid · TallyOnly: laid · TallyOrder: laid · TallyNil: laid · TallyCuts: laid.
  DERIVED. THE GIVEN ROWS OF THIS SEAT. 7 by the template 'for every input the law returns true; each argument reads behind the call as it read before'; 0 by the template 'total and deterministic' (their statements: YthfcpdifkgjjhaaDoorTotals.lean).
  GIVEN WITH THE SEED: the statements are not yours to turn. If you find one false, say at which input.
  Laid BY PROGRAM, IN A SANDBOX (cutbox-rows.mjs): the forced cells as the released guide's own fill.sh prints them over the translation 0f63d76a1cdca273… (all of the seat's roots in one cut). By AI agents, Wed Nov 11 2026. No macro, syntax, notation, axiom, sorry.
-/
import Derived.Test.YthfcpdifkgjjhaaDoorChecked
import GoSem.Claim
import GoSem.ClaimJoined
import GoSem.ClaimMapViews
import Derived.JoinedTies
import Derived.KernelRfl
namespace Go.Proofs.YthfcpdifkgjjhaaDoor
/- THE CELL 'sum', in the pinned program and in every row, IS THE sha256 OF THE DUMP (.gsa) THAT YthfcpdifkgjjhaaDoorProg.lean LOADS. Nothing in Lean hashes anything: it is a label: what it is worth is what the hold of that sum in a sandbox is worth. -/
noncomputable def Tryd.pinned : Pinned := { name := "ythfcpdifkgjjhaadoor", sum := "0f63d76a1cdca27353951c865c486bd54e9ff11a20e86d930f55ba5d3b40a9a4", checked := Tryd.checked }
namespace Rows
def none {H : Type} : Left H := { results := [], args := [] }

/- WHAT THE LISTED PACKAGE-LEVEL VARIABLES READ AS WHEN THE CALL BEGINS. Each datum BY PROGRAM (the guide's laid-datum.mjs) off the statement by which the dump's own 'gosem.cut.vars' lays the variable. In a bare row this is a premise. The card (YthfcpdifkgjjhaaDoorCards.lean) ties it to the program's text. -/
def laid_tithebarn_tally_smallest {H : Type} : DataW H := .agg [.lit (.int .u64 0), .lit (.int .u64 64), .lit (.int .u64 16384), .lit (.int .u64 1073741824)]
def laid_tithebarn_tally_sizes {H : Type} : DataW H := .agg [.lit (.int .i64 1), .lit (.int .i64 2), .lit (.int .i64 4), .lit (.int .i64 9)]

/-- 'tithebarnlaw01.TallyWrites': WHATEVER THE INPUT: true; the input reads as it did. -/
def tallyWritesSpec : ChangeSpec := { name := "tallyWrites", fn := fun _ => fun
  | [d1, d2, d3] => { results := [.lit (.bool true)], args := [d1, d2, d3] }
  | _ => none }
def tallyWritesRow : OpenClaim := { program := "ythfcpdifkgjjhaadoor", sum := "0f63d76a1cdca27353951c865c486bd54e9ff11a20e86d930f55ba5d3b40a9a4", func := "tithebarn/tithebarnlaw01.TallyWrites", spec := "tallyWrites", named := ["tithebarn/tally.sizes", "tithebarn/tally.smallest"], apart := false, laid := [("tithebarn/tally.smallest", laid_tithebarn_tally_smallest), ("tithebarn/tally.sizes", laid_tithebarn_tally_sizes)] }
def TallyWritesSaid : Prop := tallyWritesRow.holds Tryd.pinned (OpenSpec.ofChange tallyWritesSpec)

/-- ITS FALSE NEIGHBOUR: 'it returns false'. Refute it at one input. -/
def tallyWritesWrong : ChangeSpec := { name := "tallyWrites", fn := fun _ => fun
  | [d1, d2, d3] => { results := [.lit (.bool false)], args := [d1, d2, d3] }
  | _ => none }
def TallyWritesWrongFalsely : Prop := tallyWritesRow.holds Tryd.pinned (OpenSpec.ofChange tallyWritesWrong)

/-- 'tithebarnlaw01.TallyReads': WHATEVER THE INPUT: true; the input reads as it did. -/
def tallyReadsSpec : ChangeSpec := { name := "tallyReads", fn := fun _ => fun
  | [d1, d2] => { results := [.lit (.bool true)], args := [d1, d2] }
  | _ => none }
def tallyReadsRow : OpenClaim := { program := "ythfcpdifkgjjhaadoor", sum := "0f63d76a1cdca27353951c865c486bd54e9ff11a20e86d930f55ba5d3b40a9a4", func := "tithebarn/tithebarnlaw01.TallyReads", spec := "tallyReads", named := ["tithebarn/tally.sizes", "tithebarn/tally.smallest"], apart := false, laid := [("tithebarn/tally.smallest", laid_tithebarn_tally_smallest), ("tithebarn/tally.sizes", laid_tithebarn_tally_sizes)] }
def TallyReadsSaid : Prop := tallyReadsRow.holds Tryd.pinned (OpenSpec.ofChange tallyReadsSpec)

/-- ITS FALSE NEIGHBOUR: 'it returns false'. Refute it at one input. -/
def tallyReadsWrong : ChangeSpec := { name := "tallyReads", fn := fun _ => fun
  | [d1, d2] => { results := [.lit (.bool false)], args := [d1, d2] }
  | _ => none }
def TallyReadsWrongFalsely : Prop := tallyReadsRow.holds Tryd.pinned (OpenSpec.ofChange tallyReadsWrong)

/-- 'tithebarnlaw01.TallyBack': WHATEVER THE INPUT: true; the input reads as it did. -/
def tallyBackSpec : ChangeSpec := { name := "tallyBack", fn := fun _ => fun
  | [d] => { results := [.lit (.bool true)], args := [d] }
  | _ => none }
def tallyBackRow : OpenClaim := { program := "ythfcpdifkgjjhaadoor", sum := "0f63d76a1cdca27353951c865c486bd54e9ff11a20e86d930f55ba5d3b40a9a4", func := "tithebarn/tithebarnlaw01.TallyBack", spec := "tallyBack", named := ["tithebarn/tally.sizes", "tithebarn/tally.smallest"], apart := false, laid := [("tithebarn/tally.smallest", laid_tithebarn_tally_smallest), ("tithebarn/tally.sizes", laid_tithebarn_tally_sizes)] }
def TallyBackSaid : Prop := tallyBackRow.holds Tryd.pinned (OpenSpec.ofChange tallyBackSpec)

/-- ITS FALSE NEIGHBOUR: 'it returns false'. Refute it at one input. -/
def tallyBackWrong : ChangeSpec := { name := "tallyBack", fn := fun _ => fun
  | [d] => { results := [.lit (.bool false)], args := [d] }
  | _ => none }
def TallyBackWrongFalsely : Prop := tallyBackRow.holds Tryd.pinned (OpenSpec.ofChange tallyBackWrong)

/-- 'tithebarnlaw01.TallyOnly': WHATEVER THE INPUT: true; the input reads as it did. -/
def tallyOnlySpec : ChangeSpec := { name := "tallyOnly", fn := fun _ => fun
  | [d] => { results := [.lit (.bool true)], args := [d] }
  | _ => none }
def tallyOnlyRow : OpenClaim := { program := "ythfcpdifkgjjhaadoor", sum := "0f63d76a1cdca27353951c865c486bd54e9ff11a20e86d930f55ba5d3b40a9a4", func := "tithebarn/tithebarnlaw01.TallyOnly", spec := "tallyOnly", named := ["tithebarn/tally.sizes", "tithebarn/tally.smallest"], apart := false, laid := [("tithebarn/tally.smallest", laid_tithebarn_tally_smallest), ("tithebarn/tally.sizes", laid_tithebarn_tally_sizes)] }
def TallyOnlySaid : Prop := tallyOnlyRow.holds Tryd.pinned (OpenSpec.ofChange tallyOnlySpec)

/-- ITS FALSE NEIGHBOUR: 'it returns false'. Refute it at one input. -/
def tallyOnlyWrong : ChangeSpec := { name := "tallyOnly", fn := fun _ => fun
  | [d] => { results := [.lit (.bool false)], args := [d] }
  | _ => none }
def TallyOnlyWrongFalsely : Prop := tallyOnlyRow.holds Tryd.pinned (OpenSpec.ofChange tallyOnlyWrong)

/-- 'tithebarnlaw01.TallyOrder': WHATEVER THE INPUT: true; the input reads as it did. -/
def tallyOrderSpec : ChangeSpec := { name := "tallyOrder", fn := fun _ => fun
  | [d1, d2] => { results := [.lit (.bool true)], args := [d1, d2] }
  | _ => none }
def tallyOrderRow : OpenClaim := { program := "ythfcpdifkgjjhaadoor", sum := "0f63d76a1cdca27353951c865c486bd54e9ff11a20e86d930f55ba5d3b40a9a4", func := "tithebarn/tithebarnlaw01.TallyOrder", spec := "tallyOrder", named := ["tithebarn/tally.sizes", "tithebarn/tally.smallest"], apart := false, laid := [("tithebarn/tally.smallest", laid_tithebarn_tally_smallest), ("tithebarn/tally.sizes", laid_tithebarn_tally_sizes)] }
def TallyOrderSaid : Prop := tallyOrderRow.holds Tryd.pinned (OpenSpec.ofChange tallyOrderSpec)

/-- ITS FALSE NEIGHBOUR: 'it returns false'. Refute it at one input. -/
def tallyOrderWrong : ChangeSpec := { name := "tallyOrder", fn := fun _ => fun
  | [d1, d2] => { results := [.lit (.bool false)], args := [d1, d2] }
  | _ => none }
def TallyOrderWrongFalsely : Prop := tallyOrderRow.holds Tryd.pinned (OpenSpec.ofChange tallyOrderWrong)

/-- 'tithebarnlaw01.TallyNil': WHATEVER THE INPUT: true; the input reads as it did. -/
def tallyNilSpec : ChangeSpec := { name := "tallyNil", fn := fun _ => fun
  | [d] => { results := [.lit (.bool true)], args := [d] }
  | _ => none }
def tallyNilRow : OpenClaim := { program := "ythfcpdifkgjjhaadoor", sum := "0f63d76a1cdca27353951c865c486bd54e9ff11a20e86d930f55ba5d3b40a9a4", func := "tithebarn/tithebarnlaw01.TallyNil", spec := "tallyNil", named := ["tithebarn/tally.sizes", "tithebarn/tally.smallest"], apart := false, laid := [("tithebarn/tally.smallest", laid_tithebarn_tally_smallest), ("tithebarn/tally.sizes", laid_tithebarn_tally_sizes)] }
def TallyNilSaid : Prop := tallyNilRow.holds Tryd.pinned (OpenSpec.ofChange tallyNilSpec)

/-- ITS FALSE NEIGHBOUR: 'it returns false'. Refute it at one input. -/
def tallyNilWrong : ChangeSpec := { name := "tallyNil", fn := fun _ => fun
  | [d] => { results := [.lit (.bool false)], args := [d] }
  | _ => none }
def TallyNilWrongFalsely : Prop := tallyNilRow.holds Tryd.pinned (OpenSpec.ofChange tallyNilWrong)

/-- 'tithebarnlaw01.TallyCuts': WHATEVER THE INPUT: true; the input reads as it did. -/
def tallyCutsSpec : ChangeSpec := { name := "tallyCuts", fn := fun _ => fun
  | [d1, d2, d3] => { results := [.lit (.bool true)], args := [d1, d2, d3] }
  | _ => none }
def tallyCutsRow : OpenClaim := { program := "ythfcpdifkgjjhaadoor", sum := "0f63d76a1cdca27353951c865c486bd54e9ff11a20e86d930f55ba5d3b40a9a4", func := "tithebarn/tithebarnlaw01.TallyCuts", spec := "tallyCuts", named := ["tithebarn/tally.sizes", "tithebarn/tally.smallest"], apart := false, laid := [("tithebarn/tally.smallest", laid_tithebarn_tally_smallest), ("tithebarn/tally.sizes", laid_tithebarn_tally_sizes)] }
def TallyCutsSaid : Prop := tallyCutsRow.holds Tryd.pinned (OpenSpec.ofChange tallyCutsSpec)

/-- ITS FALSE NEIGHBOUR: 'it returns false'. Refute it at one input. -/
def tallyCutsWrong : ChangeSpec := { name := "tallyCuts", fn := fun _ => fun
  | [d1, d2, d3] => { results := [.lit (.bool false)], args := [d1, d2, d3] }
  | _ => none }
def TallyCutsWrongFalsely : Prop := tallyCutsRow.holds Tryd.pinned (OpenSpec.ofChange tallyCutsWrong)

/- THE SECOND FORM. 'bulk': how many values and letters a reading holds, each counted each time it is reached (what is shared counts as often as it is met; a slice's spare places count too). A statement '..UptoSaid' is the law's where the arguments, and the package variables that the reading takes, are together of bulk at most 1048576: NARROWER than '..Said'. Prove '..Said' where nothing that the law and all that it calls make is longer than what came in: it says more and counts as full. Else prove '..UptoSaid'. A law counts once. -/
mutual
def uptoBulk {H : Type} : DataW H → Nat
  | .lit (.string bytes) => bytes.length + 1
  | .lit _ => 1
  | .nil => 1
  | .ptr d => uptoBulk d + 1
  | .slice elems spare => uptoBulkAll elems + uptoBulkAll spare + 1
  | .agg parts => uptoBulkAll parts + 1
  | .iface _ d => uptoBulk d + 1
  | .map entries => uptoBulkEntries entries + 1
  | .held _ => 1
def uptoBulkAll {H : Type} : List (DataW H) → Nat
  | [] => 0
  | d :: r => uptoBulk d + uptoBulkAll r
def uptoBulkEntries {H : Type} : List (Lit × DataW H) → Nat
  | [] => 0
  | x :: r => uptoBulkEntry x + uptoBulkEntries r
def uptoBulkEntry {H : Type} : Lit × DataW H → Nat
  | (.string bytes, d) => bytes.length + uptoBulk d + 1
  | (_, d) => uptoBulk d + 1
 end
def uptoSmall : (H : Type) → List (DataW H) → Bool := fun _ ds => decide (uptoBulkAll ds ≤ 1048576)
def OpenSpec.upto (s : _root_.Go.ChangeSpec) : _root_.Go.OpenSpec := { _root_.Go.OpenSpec.ofChange s with cond := some uptoSmall }

/-- 'tithebarnlaw01.TallyWrites', WHERE WHAT IT READS IS OF BULK AT MOST 1048576: true; the input reads as it did. -/
def tallyWritesUptoRow : OpenClaim := { program := "ythfcpdifkgjjhaadoor", sum := "0f63d76a1cdca27353951c865c486bd54e9ff11a20e86d930f55ba5d3b40a9a4", func := "tithebarn/tithebarnlaw01.TallyWrites", spec := "tallyWrites", named := ["tithebarn/tally.sizes", "tithebarn/tally.smallest"], apart := false, laid := [("tithebarn/tally.smallest", laid_tithebarn_tally_smallest), ("tithebarn/tally.sizes", laid_tithebarn_tally_sizes)], narrowed := true }
def TallyWritesUptoSaid : Prop := tallyWritesUptoRow.holds Tryd.pinned (OpenSpec.upto tallyWritesSpec)

/-- 'tithebarnlaw01.TallyReads', WHERE WHAT IT READS IS OF BULK AT MOST 1048576: true; the input reads as it did. -/
def tallyReadsUptoRow : OpenClaim := { program := "ythfcpdifkgjjhaadoor", sum := "0f63d76a1cdca27353951c865c486bd54e9ff11a20e86d930f55ba5d3b40a9a4", func := "tithebarn/tithebarnlaw01.TallyReads", spec := "tallyReads", named := ["tithebarn/tally.sizes", "tithebarn/tally.smallest"], apart := false, laid := [("tithebarn/tally.smallest", laid_tithebarn_tally_smallest), ("tithebarn/tally.sizes", laid_tithebarn_tally_sizes)], narrowed := true }
def TallyReadsUptoSaid : Prop := tallyReadsUptoRow.holds Tryd.pinned (OpenSpec.upto tallyReadsSpec)

/-- 'tithebarnlaw01.TallyBack', WHERE WHAT IT READS IS OF BULK AT MOST 1048576: true; the input reads as it did. -/
def tallyBackUptoRow : OpenClaim := { program := "ythfcpdifkgjjhaadoor", sum := "0f63d76a1cdca27353951c865c486bd54e9ff11a20e86d930f55ba5d3b40a9a4", func := "tithebarn/tithebarnlaw01.TallyBack", spec := "tallyBack", named := ["tithebarn/tally.sizes", "tithebarn/tally.smallest"], apart := false, laid := [("tithebarn/tally.smallest", laid_tithebarn_tally_smallest), ("tithebarn/tally.sizes", laid_tithebarn_tally_sizes)], narrowed := true }
def TallyBackUptoSaid : Prop := tallyBackUptoRow.holds Tryd.pinned (OpenSpec.upto tallyBackSpec)

/-- 'tithebarnlaw01.TallyOnly', WHERE WHAT IT READS IS OF BULK AT MOST 1048576: true; the input reads as it did. -/
def tallyOnlyUptoRow : OpenClaim := { program := "ythfcpdifkgjjhaadoor", sum := "0f63d76a1cdca27353951c865c486bd54e9ff11a20e86d930f55ba5d3b40a9a4", func := "tithebarn/tithebarnlaw01.TallyOnly", spec := "tallyOnly", named := ["tithebarn/tally.sizes", "tithebarn/tally.smallest"], apart := false, laid := [("tithebarn/tally.smallest", laid_tithebarn_tally_smallest), ("tithebarn/tally.sizes", laid_tithebarn_tally_sizes)], narrowed := true }
def TallyOnlyUptoSaid : Prop := tallyOnlyUptoRow.holds Tryd.pinned (OpenSpec.upto tallyOnlySpec)

/-- 'tithebarnlaw01.TallyOrder', WHERE WHAT IT READS IS OF BULK AT MOST 1048576: true; the input reads as it did. -/
def tallyOrderUptoRow : OpenClaim := { program := "ythfcpdifkgjjhaadoor", sum := "0f63d76a1cdca27353951c865c486bd54e9ff11a20e86d930f55ba5d3b40a9a4", func := "tithebarn/tithebarnlaw01.TallyOrder", spec := "tallyOrder", named := ["tithebarn/tally.sizes", "tithebarn/tally.smallest"], apart := false, laid := [("tithebarn/tally.smallest", laid_tithebarn_tally_smallest), ("tithebarn/tally.sizes", laid_tithebarn_tally_sizes)], narrowed := true }
def TallyOrderUptoSaid : Prop := tallyOrderUptoRow.holds Tryd.pinned (OpenSpec.upto tallyOrderSpec)

/-- 'tithebarnlaw01.TallyNil', WHERE WHAT IT READS IS OF BULK AT MOST 1048576: true; the input reads as it did. -/
def tallyNilUptoRow : OpenClaim := { program := "ythfcpdifkgjjhaadoor", sum := "0f63d76a1cdca27353951c865c486bd54e9ff11a20e86d930f55ba5d3b40a9a4", func := "tithebarn/tithebarnlaw01.TallyNil", spec := "tallyNil", named := ["tithebarn/tally.sizes", "tithebarn/tally.smallest"], apart := false, laid := [("tithebarn/tally.smallest", laid_tithebarn_tally_smallest), ("tithebarn/tally.sizes", laid_tithebarn_tally_sizes)], narrowed := true }
def TallyNilUptoSaid : Prop := tallyNilUptoRow.holds Tryd.pinned (OpenSpec.upto tallyNilSpec)

/-- 'tithebarnlaw01.TallyCuts', WHERE WHAT IT READS IS OF BULK AT MOST 1048576: true; the input reads as it did. -/
def tallyCutsUptoRow : OpenClaim := { program := "ythfcpdifkgjjhaadoor", sum := "0f63d76a1cdca27353951c865c486bd54e9ff11a20e86d930f55ba5d3b40a9a4", func := "tithebarn/tithebarnlaw01.TallyCuts", spec := "tallyCuts", named := ["tithebarn/tally.sizes", "tithebarn/tally.smallest"], apart := false, laid := [("tithebarn/tally.smallest", laid_tithebarn_tally_smallest), ("tithebarn/tally.sizes", laid_tithebarn_tally_sizes)], narrowed := true }
def TallyCutsUptoSaid : Prop := tallyCutsUptoRow.holds Tryd.pinned (OpenSpec.upto tallyCutsSpec)

end Rows
end Go.Proofs.YthfcpdifkgjjhaaDoor
