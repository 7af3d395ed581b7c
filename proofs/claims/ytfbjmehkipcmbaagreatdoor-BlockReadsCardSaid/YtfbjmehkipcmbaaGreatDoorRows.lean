/-
  NARROWER THAN 'FOR EVERY INPUT', by the rows' own cells (each row's printed sentence says how): BlockWrites: laid · BlockReads: laid · BlockBack: laid · BlockOnly: laid · BlockOrder: laid.
  DERIVED. THE GIVEN ROWS OF THIS SEAT. 5 by the template 'for every input the law returns true; each argument reads behind the call as it read before'; 0 by the template 'total and deterministic' (their statements: YtfbjmehkipcmbaaGreatDoorTotals.lean).
  GIVEN WITH THE SEED: the statements are not yours to turn. If you find one false, say at which input.
  Laid BY PROGRAM, IN A SANDBOX (cutbox-rows.mjs): the forced cells as the released guide's own fill.sh prints them over the translation cc0bc72ed8edd916… (all of the seat's roots in one cut). By AI agents, Wed Nov 11 2026. No macro, syntax, notation, axiom, sorry.
-/
import Derived.Test.YtfbjmehkipcmbaaGreatDoorChecked
import GoSem.Claim
import GoSem.ClaimJoined
import GoSem.ClaimMapViews
import Derived.JoinedTies
import Derived.KernelRfl
namespace Go.Proofs.YtfbjmehkipcmbaaGreatDoor
/- THE CELL 'sum', in the pinned program and in every row, IS THE sha256 OF THE DUMP (.gsa) THAT YtfbjmehkipcmbaaGreatDoorProg.lean LOADS. Nothing in Lean hashes anything: it is a label: what it is worth is what the hold of that sum in a sandbox is worth. -/
noncomputable def Tryz.pinned : Pinned := { name := "ytfbjmehkipcmbaagreatdoor", sum := "cc0bc72ed8edd9169654ee5815af2639934b38182fee96c75fc4565383a3bc79", checked := Tryz.checked }
namespace Rows
def none {H : Type} : Left H := { results := [], args := [] }

/- WHAT THE LISTED PACKAGE-LEVEL VARIABLES READ AS WHEN THE CALL BEGINS. Each datum BY PROGRAM (the guide's laid-datum.mjs) off the statement by which the dump's own 'gosem.cut.vars' lays the variable. In a bare row this is a premise. The card (YtfbjmehkipcmbaaGreatDoorCards.lean) ties it to the program's text. -/
def laid_tithebarn_tally_smallest {H : Type} : DataW H := .agg [.lit (.int .u64 0), .lit (.int .u64 64), .lit (.int .u64 16384), .lit (.int .u64 1073741824)]
def laid_tithebarn_tally_sizes {H : Type} : DataW H := .agg [.lit (.int .i64 1), .lit (.int .i64 2), .lit (.int .i64 4), .lit (.int .i64 9)]

/-- 'tithebarnlaw12.BlockWrites': WHATEVER THE INPUT: true; the input reads as it did. -/
def blockWritesSpec : ChangeSpec := { name := "blockWrites", fn := fun _ => fun
  | [d1, d2] => { results := [.lit (.bool true)], args := [d1, d2] }
  | _ => none }
def blockWritesRow : OpenClaim := { program := "ytfbjmehkipcmbaagreatdoor", sum := "cc0bc72ed8edd9169654ee5815af2639934b38182fee96c75fc4565383a3bc79", func := "tithebarn/tithebarnlaw12.BlockWrites", spec := "blockWrites", unfollowed := true, recurses := true, named := ["tithebarn/tally.sizes", "tithebarn/tally.smallest"], apart := false, laid := [("tithebarn/tally.smallest", laid_tithebarn_tally_smallest), ("tithebarn/tally.sizes", laid_tithebarn_tally_sizes)] }
def BlockWritesSaid : Prop := blockWritesRow.holds Tryz.pinned (OpenSpec.ofChange blockWritesSpec)

/-- ITS FALSE NEIGHBOUR: 'it returns false'. Refute it at one input. -/
def blockWritesWrong : ChangeSpec := { name := "blockWrites", fn := fun _ => fun
  | [d1, d2] => { results := [.lit (.bool false)], args := [d1, d2] }
  | _ => none }
def BlockWritesWrongFalsely : Prop := blockWritesRow.holds Tryz.pinned (OpenSpec.ofChange blockWritesWrong)

/-- 'tithebarnlaw12.BlockReads': WHATEVER THE INPUT: true; the input reads as it did. -/
def blockReadsSpec : ChangeSpec := { name := "blockReads", fn := fun _ => fun
  | [d1, d2] => { results := [.lit (.bool true)], args := [d1, d2] }
  | _ => none }
def blockReadsRow : OpenClaim := { program := "ytfbjmehkipcmbaagreatdoor", sum := "cc0bc72ed8edd9169654ee5815af2639934b38182fee96c75fc4565383a3bc79", func := "tithebarn/tithebarnlaw12.BlockReads", spec := "blockReads", unfollowed := true, recurses := true, named := ["tithebarn/tally.sizes", "tithebarn/tally.smallest"], apart := false, laid := [("tithebarn/tally.smallest", laid_tithebarn_tally_smallest), ("tithebarn/tally.sizes", laid_tithebarn_tally_sizes)] }
def BlockReadsSaid : Prop := blockReadsRow.holds Tryz.pinned (OpenSpec.ofChange blockReadsSpec)

/-- ITS FALSE NEIGHBOUR: 'it returns false'. Refute it at one input. -/
def blockReadsWrong : ChangeSpec := { name := "blockReads", fn := fun _ => fun
  | [d1, d2] => { results := [.lit (.bool false)], args := [d1, d2] }
  | _ => none }
def BlockReadsWrongFalsely : Prop := blockReadsRow.holds Tryz.pinned (OpenSpec.ofChange blockReadsWrong)

/-- 'tithebarnlaw12.BlockBack': WHATEVER THE INPUT: true; the input reads as it did. -/
def blockBackSpec : ChangeSpec := { name := "blockBack", fn := fun _ => fun
  | [d1, d2] => { results := [.lit (.bool true)], args := [d1, d2] }
  | _ => none }
def blockBackRow : OpenClaim := { program := "ytfbjmehkipcmbaagreatdoor", sum := "cc0bc72ed8edd9169654ee5815af2639934b38182fee96c75fc4565383a3bc79", func := "tithebarn/tithebarnlaw12.BlockBack", spec := "blockBack", unfollowed := true, recurses := true, named := ["tithebarn/tally.sizes", "tithebarn/tally.smallest"], apart := false, laid := [("tithebarn/tally.smallest", laid_tithebarn_tally_smallest), ("tithebarn/tally.sizes", laid_tithebarn_tally_sizes)] }
def BlockBackSaid : Prop := blockBackRow.holds Tryz.pinned (OpenSpec.ofChange blockBackSpec)

/-- ITS FALSE NEIGHBOUR: 'it returns false'. Refute it at one input. -/
def blockBackWrong : ChangeSpec := { name := "blockBack", fn := fun _ => fun
  | [d1, d2] => { results := [.lit (.bool false)], args := [d1, d2] }
  | _ => none }
def BlockBackWrongFalsely : Prop := blockBackRow.holds Tryz.pinned (OpenSpec.ofChange blockBackWrong)

/-- 'tithebarnlaw12.BlockOnly': WHATEVER THE INPUT: true; the input reads as it did. -/
def blockOnlySpec : ChangeSpec := { name := "blockOnly", fn := fun _ => fun
  | [d1, d2] => { results := [.lit (.bool true)], args := [d1, d2] }
  | _ => none }
def blockOnlyRow : OpenClaim := { program := "ytfbjmehkipcmbaagreatdoor", sum := "cc0bc72ed8edd9169654ee5815af2639934b38182fee96c75fc4565383a3bc79", func := "tithebarn/tithebarnlaw12.BlockOnly", spec := "blockOnly", unfollowed := true, recurses := true, named := ["tithebarn/tally.sizes", "tithebarn/tally.smallest"], apart := false, laid := [("tithebarn/tally.smallest", laid_tithebarn_tally_smallest), ("tithebarn/tally.sizes", laid_tithebarn_tally_sizes)] }
def BlockOnlySaid : Prop := blockOnlyRow.holds Tryz.pinned (OpenSpec.ofChange blockOnlySpec)

/-- ITS FALSE NEIGHBOUR: 'it returns false'. Refute it at one input. -/
def blockOnlyWrong : ChangeSpec := { name := "blockOnly", fn := fun _ => fun
  | [d1, d2] => { results := [.lit (.bool false)], args := [d1, d2] }
  | _ => none }
def BlockOnlyWrongFalsely : Prop := blockOnlyRow.holds Tryz.pinned (OpenSpec.ofChange blockOnlyWrong)

/-- 'tithebarnlaw12.BlockOrder': WHATEVER THE INPUT: true; the input reads as it did. -/
def blockOrderSpec : ChangeSpec := { name := "blockOrder", fn := fun _ => fun
  | [d1, d2] => { results := [.lit (.bool true)], args := [d1, d2] }
  | _ => none }
def blockOrderRow : OpenClaim := { program := "ytfbjmehkipcmbaagreatdoor", sum := "cc0bc72ed8edd9169654ee5815af2639934b38182fee96c75fc4565383a3bc79", func := "tithebarn/tithebarnlaw12.BlockOrder", spec := "blockOrder", unfollowed := true, recurses := true, named := ["tithebarn/tally.sizes", "tithebarn/tally.smallest"], apart := false, laid := [("tithebarn/tally.smallest", laid_tithebarn_tally_smallest), ("tithebarn/tally.sizes", laid_tithebarn_tally_sizes)] }
def BlockOrderSaid : Prop := blockOrderRow.holds Tryz.pinned (OpenSpec.ofChange blockOrderSpec)

/-- ITS FALSE NEIGHBOUR: 'it returns false'. Refute it at one input. -/
def blockOrderWrong : ChangeSpec := { name := "blockOrder", fn := fun _ => fun
  | [d1, d2] => { results := [.lit (.bool false)], args := [d1, d2] }
  | _ => none }
def BlockOrderWrongFalsely : Prop := blockOrderRow.holds Tryz.pinned (OpenSpec.ofChange blockOrderWrong)

/- THE SECOND FORM. 'bulk': how many values and letters a reading holds, each counted each time it is reached (what is shared counts as often as it is met; a slice's spare places count too). A statement '..UptoSaid' is the law's where the arguments, and the package variables that the reading takes, are together of bulk at most 1048576: NARROWER than '..Said'. Prove '..Said' where nothing that the law and all that it calls make is longer than what came in: it says more and counts as full. Else prove '..UptoSaid'. A law counts once. -/
mutual
def uptoBulk {H : Type} : DataW H → Nat
  | .lit (.string bytes) => bytes.length + 1
  | .lit _ => 1
  | .nil => 1
  | .ptr d => uptoBulk d + 1
  | .slice elems spare => uptoBulkAll elems + uptoBulkAll spare + 1
  | .agg parts => uptoBulkAll parts + 1
  | .iface _ d => uptoBulk d + 1
  | .map entries => uptoBulkEntries entries + 1
  | .held _ => 1
def uptoBulkAll {H : Type} : List (DataW H) → Nat
  | [] => 0
  | d :: r => uptoBulk d + uptoBulkAll r
def uptoBulkEntries {H : Type} : List (Lit × DataW H) → Nat
  | [] => 0
  | x :: r => uptoBulkEntry x + uptoBulkEntries r
def uptoBulkEntry {H : Type} : Lit × DataW H → Nat
  | (.string bytes, d) => bytes.length + uptoBulk d + 1
  | (_, d) => uptoBulk d + 1
 end
def uptoSmall : (H : Type) → List (DataW H) → Bool := fun _ ds => decide (uptoBulkAll ds ≤ 1048576)
def OpenSpec.upto (s : _root_.Go.ChangeSpec) : _root_.Go.OpenSpec := { _root_.Go.OpenSpec.ofChange s with cond := some uptoSmall }

/-- 'tithebarnlaw12.BlockWrites', WHERE WHAT IT READS IS OF BULK AT MOST 1048576: true; the input reads as it did. -/
def blockWritesUptoRow : OpenClaim := { program := "ytfbjmehkipcmbaagreatdoor", sum := "cc0bc72ed8edd9169654ee5815af2639934b38182fee96c75fc4565383a3bc79", func := "tithebarn/tithebarnlaw12.BlockWrites", spec := "blockWrites", unfollowed := true, recurses := true, named := ["tithebarn/tally.sizes", "tithebarn/tally.smallest"], apart := false, laid := [("tithebarn/tally.smallest", laid_tithebarn_tally_smallest), ("tithebarn/tally.sizes", laid_tithebarn_tally_sizes)], narrowed := true }
def BlockWritesUptoSaid : Prop := blockWritesUptoRow.holds Tryz.pinned (OpenSpec.upto blockWritesSpec)

/-- 'tithebarnlaw12.BlockReads', WHERE WHAT IT READS IS OF BULK AT MOST 1048576: true; the input reads as it did. -/
def blockReadsUptoRow : OpenClaim := { program := "ytfbjmehkipcmbaagreatdoor", sum := "cc0bc72ed8edd9169654ee5815af2639934b38182fee96c75fc4565383a3bc79", func := "tithebarn/tithebarnlaw12.BlockReads", spec := "blockReads", unfollowed := true, recurses := true, named := ["tithebarn/tally.sizes", "tithebarn/tally.smallest"], apart := false, laid := [("tithebarn/tally.smallest", laid_tithebarn_tally_smallest), ("tithebarn/tally.sizes", laid_tithebarn_tally_sizes)], narrowed := true }
def BlockReadsUptoSaid : Prop := blockReadsUptoRow.holds Tryz.pinned (OpenSpec.upto blockReadsSpec)

/-- 'tithebarnlaw12.BlockBack', WHERE WHAT IT READS IS OF BULK AT MOST 1048576: true; the input reads as it did. -/
def blockBackUptoRow : OpenClaim := { program := "ytfbjmehkipcmbaagreatdoor", sum := "cc0bc72ed8edd9169654ee5815af2639934b38182fee96c75fc4565383a3bc79", func := "tithebarn/tithebarnlaw12.BlockBack", spec := "blockBack", unfollowed := true, recurses := true, named := ["tithebarn/tally.sizes", "tithebarn/tally.smallest"], apart := false, laid := [("tithebarn/tally.smallest", laid_tithebarn_tally_smallest), ("tithebarn/tally.sizes", laid_tithebarn_tally_sizes)], narrowed := true }
def BlockBackUptoSaid : Prop := blockBackUptoRow.holds Tryz.pinned (OpenSpec.upto blockBackSpec)

/-- 'tithebarnlaw12.BlockOnly', WHERE WHAT IT READS IS OF BULK AT MOST 1048576: true; the input reads as it did. -/
def blockOnlyUptoRow : OpenClaim := { program := "ytfbjmehkipcmbaagreatdoor", sum := "cc0bc72ed8edd9169654ee5815af2639934b38182fee96c75fc4565383a3bc79", func := "tithebarn/tithebarnlaw12.BlockOnly", spec := "blockOnly", unfollowed := true, recurses := true, named := ["tithebarn/tally.sizes", "tithebarn/tally.smallest"], apart := false, laid := [("tithebarn/tally.smallest", laid_tithebarn_tally_smallest), ("tithebarn/tally.sizes", laid_tithebarn_tally_sizes)], narrowed := true }
def BlockOnlyUptoSaid : Prop := blockOnlyUptoRow.holds Tryz.pinned (OpenSpec.upto blockOnlySpec)

/-- 'tithebarnlaw12.BlockOrder', WHERE WHAT IT READS IS OF BULK AT MOST 1048576: true; the input reads as it did. -/
def blockOrderUptoRow : OpenClaim := { program := "ytfbjmehkipcmbaagreatdoor", sum := "cc0bc72ed8edd9169654ee5815af2639934b38182fee96c75fc4565383a3bc79", func := "tithebarn/tithebarnlaw12.BlockOrder", spec := "blockOrder", unfollowed := true, recurses := true, named := ["tithebarn/tally.sizes", "tithebarn/tally.smallest"], apart := false, laid := [("tithebarn/tally.smallest", laid_tithebarn_tally_smallest), ("tithebarn/tally.sizes", laid_tithebarn_tally_sizes)], narrowed := true }
def BlockOrderUptoSaid : Prop := blockOrderUptoRow.holds Tryz.pinned (OpenSpec.upto blockOrderSpec)

end Rows
end Go.Proofs.YtfbjmehkipcmbaaGreatDoor
