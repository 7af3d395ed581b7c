/-
  NARROWER THAN 'FOR EVERY INPUT', by the rows' own cells (each row's printed sentence says how): ManifestReads: laid · ManifestBack: laid.
  DERIVED. THE GIVEN ROWS OF THIS SEAT. 2 by the template 'for every input the law returns true; each argument reads behind the call as it read before'; 0 by the template 'total and deterministic' (their statements: YteaglaijkafphaaDoorTotals.lean).
  GIVEN WITH THE SEED: the statements are not yours to turn. If you find one false, say at which input.
  Laid BY PROGRAM, IN A SANDBOX (cutbox-rows.mjs): the forced cells as the released guide's own fill.sh prints them over the translation 7c57c7ff7359d1e8… (all of the seat's roots in one cut). By AI agents, Wed Nov 11 2026. No macro, syntax, notation, axiom, sorry.
-/
import Derived.Test.YteaglaijkafphaaDoorChecked
import GoSem.Claim
import GoSem.ClaimJoined
import GoSem.ClaimMapViews
import Derived.JoinedTies
import Derived.KernelRfl
namespace Go.Proofs.YteaglaijkafphaaDoor
/- THE CELL 'sum', in the pinned program and in every row, IS THE sha256 OF THE DUMP (.gsa) THAT YteaglaijkafphaaDoorProg.lean LOADS. Nothing in Lean hashes anything: it is a label: what it is worth is what the hold of that sum in a sandbox is worth. -/
noncomputable def Tryd.pinned : Pinned := { name := "yteaglaijkafphaadoor", sum := "7c57c7ff7359d1e8d8c7ec69072f493a2f479bfdfd4c796f22d2dffaf3198a03", checked := Tryd.checked }
namespace Rows
def none {H : Type} : Left H := { results := [], args := [] }

/- WHAT THE LISTED PACKAGE-LEVEL VARIABLES READ AS WHEN THE CALL BEGINS. Each datum BY PROGRAM (the guide's laid-datum.mjs) off the statement by which the dump's own 'gosem.cut.vars' lays the variable. In a bare row this is a premise. The card (YteaglaijkafphaaDoorCards.lean) ties it to the program's text. -/
def laid_tithebarn_tally_smallest {H : Type} : DataW H := .agg [.lit (.int .u64 0), .lit (.int .u64 64), .lit (.int .u64 16384), .lit (.int .u64 1073741824)]
def laid_tithebarn_tally_sizes {H : Type} : DataW H := .agg [.lit (.int .i64 1), .lit (.int .i64 2), .lit (.int .i64 4), .lit (.int .i64 9)]

/-- 'tithebarnlaw16.ManifestReads': WHATEVER THE INPUT: true; the input reads as it did. -/
def manifestReadsSpec : ChangeSpec := { name := "manifestReads", fn := fun _ => fun
  | [d] => { results := [.lit (.bool true)], args := [d] }
  | _ => none }
def manifestReadsRow : OpenClaim := { program := "yteaglaijkafphaadoor", sum := "7c57c7ff7359d1e8d8c7ec69072f493a2f479bfdfd4c796f22d2dffaf3198a03", func := "tithebarn/tithebarnlaw16.ManifestReads", spec := "manifestReads", unfollowed := true, recurses := true, named := ["tithebarn/tally.sizes", "tithebarn/tally.smallest"], apart := false, laid := [("tithebarn/tally.smallest", laid_tithebarn_tally_smallest), ("tithebarn/tally.sizes", laid_tithebarn_tally_sizes)] }
def ManifestReadsSaid : Prop := manifestReadsRow.holds Tryd.pinned (OpenSpec.ofChange manifestReadsSpec)

/-- ITS FALSE NEIGHBOUR: 'it returns false'. Refute it at one input. -/
def manifestReadsWrong : ChangeSpec := { name := "manifestReads", fn := fun _ => fun
  | [d] => { results := [.lit (.bool false)], args := [d] }
  | _ => none }
def ManifestReadsWrongFalsely : Prop := manifestReadsRow.holds Tryd.pinned (OpenSpec.ofChange manifestReadsWrong)

/-- 'tithebarnlaw16.ManifestBack': WHATEVER THE INPUT: true; the input reads as it did. -/
def manifestBackSpec : ChangeSpec := { name := "manifestBack", fn := fun _ => fun
  | [d1, d2] => { results := [.lit (.bool true)], args := [d1, d2] }
  | _ => none }
def manifestBackRow : OpenClaim := { program := "yteaglaijkafphaadoor", sum := "7c57c7ff7359d1e8d8c7ec69072f493a2f479bfdfd4c796f22d2dffaf3198a03", func := "tithebarn/tithebarnlaw16.ManifestBack", spec := "manifestBack", unfollowed := true, recurses := true, named := ["tithebarn/tally.sizes", "tithebarn/tally.smallest"], apart := false, laid := [("tithebarn/tally.smallest", laid_tithebarn_tally_smallest), ("tithebarn/tally.sizes", laid_tithebarn_tally_sizes)] }
def ManifestBackSaid : Prop := manifestBackRow.holds Tryd.pinned (OpenSpec.ofChange manifestBackSpec)

/-- ITS FALSE NEIGHBOUR: 'it returns false'. Refute it at one input. -/
def manifestBackWrong : ChangeSpec := { name := "manifestBack", fn := fun _ => fun
  | [d1, d2] => { results := [.lit (.bool false)], args := [d1, d2] }
  | _ => none }
def ManifestBackWrongFalsely : Prop := manifestBackRow.holds Tryd.pinned (OpenSpec.ofChange manifestBackWrong)

/- THE SECOND FORM. 'bulk': how many values and letters a reading holds, each counted each time it is reached (what is shared counts as often as it is met; a slice's spare places count too). A statement '..UptoSaid' is the law's where the arguments, and the package variables that the reading takes, are together of bulk at most 1048576: NARROWER than '..Said'. Prove '..Said' where nothing that the law and all that it calls make is longer than what came in: it says more and counts as full. Else prove '..UptoSaid'. A law counts once. -/
mutual
def uptoBulk {H : Type} : DataW H → Nat
  | .lit (.string bytes) => bytes.length + 1
  | .lit _ => 1
  | .nil => 1
  | .ptr d => uptoBulk d + 1
  | .slice elems spare => uptoBulkAll elems + uptoBulkAll spare + 1
  | .agg parts => uptoBulkAll parts + 1
  | .iface _ d => uptoBulk d + 1
  | .map entries => uptoBulkEntries entries + 1
  | .held _ => 1
def uptoBulkAll {H : Type} : List (DataW H) → Nat
  | [] => 0
  | d :: r => uptoBulk d + uptoBulkAll r
def uptoBulkEntries {H : Type} : List (Lit × DataW H) → Nat
  | [] => 0
  | x :: r => uptoBulkEntry x + uptoBulkEntries r
def uptoBulkEntry {H : Type} : Lit × DataW H → Nat
  | (.string bytes, d) => bytes.length + uptoBulk d + 1
  | (_, d) => uptoBulk d + 1
 end
def uptoSmall : (H : Type) → List (DataW H) → Bool := fun _ ds => decide (uptoBulkAll ds ≤ 1048576)
def OpenSpec.upto (s : _root_.Go.ChangeSpec) : _root_.Go.OpenSpec := { _root_.Go.OpenSpec.ofChange s with cond := some uptoSmall }

/-- 'tithebarnlaw16.ManifestReads', WHERE WHAT IT READS IS OF BULK AT MOST 1048576: true; the input reads as it did. -/
def manifestReadsUptoRow : OpenClaim := { program := "yteaglaijkafphaadoor", sum := "7c57c7ff7359d1e8d8c7ec69072f493a2f479bfdfd4c796f22d2dffaf3198a03", func := "tithebarn/tithebarnlaw16.ManifestReads", spec := "manifestReads", unfollowed := true, recurses := true, named := ["tithebarn/tally.sizes", "tithebarn/tally.smallest"], apart := false, laid := [("tithebarn/tally.smallest", laid_tithebarn_tally_smallest), ("tithebarn/tally.sizes", laid_tithebarn_tally_sizes)], narrowed := true }
def ManifestReadsUptoSaid : Prop := manifestReadsUptoRow.holds Tryd.pinned (OpenSpec.upto manifestReadsSpec)

/-- 'tithebarnlaw16.ManifestBack', WHERE WHAT IT READS IS OF BULK AT MOST 1048576: true; the input reads as it did. -/
def manifestBackUptoRow : OpenClaim := { program := "yteaglaijkafphaadoor", sum := "7c57c7ff7359d1e8d8c7ec69072f493a2f479bfdfd4c796f22d2dffaf3198a03", func := "tithebarn/tithebarnlaw16.ManifestBack", spec := "manifestBack", unfollowed := true, recurses := true, named := ["tithebarn/tally.sizes", "tithebarn/tally.smallest"], apart := false, laid := [("tithebarn/tally.smallest", laid_tithebarn_tally_smallest), ("tithebarn/tally.sizes", laid_tithebarn_tally_sizes)], narrowed := true }
def ManifestBackUptoSaid : Prop := manifestBackUptoRow.holds Tryd.pinned (OpenSpec.upto manifestBackSpec)

end Rows
end Go.Proofs.YteaglaijkafphaaDoor
