/-
  NARROWER THAN 'FOR EVERY INPUT', by the rows' own cells (each row's printed sentence says how): RunWrites: laid · RunBack: laid · RunGets: laid · RunMatches: laid · RunZones: laid · RunSplits: laid.
  DERIVED. THE GIVEN ROWS OF THIS SEAT. 6 by the template 'for every input the law returns true; each argument reads behind the call as it read before'; 0 by the template 'total and deterministic' (their statements: YtbelkhkllneifaaGreatDoorTotals.lean).
  GIVEN WITH THE SEED: the statements are not yours to turn. If you find one false, say at which input.
  Laid BY PROGRAM, IN A SANDBOX (cutbox-rows.mjs): the forced cells as the released guide's own fill.sh prints them over the translation 234f3994603ded9c… (all of the seat's roots in one cut). By AI agents, Wed Nov 11 2026. No macro, syntax, notation, axiom, sorry.
-/
import Derived.Test.YtbelkhkllneifaaGreatDoorChecked
import GoSem.Claim
import GoSem.ClaimJoined
import GoSem.ClaimMapViews
import Derived.JoinedTies
import Derived.KernelRfl
namespace Go.Proofs.YtbelkhkllneifaaGreatDoor
/- THE CELL 'sum', in the pinned program and in every row, IS THE sha256 OF THE DUMP (.gsa) THAT YtbelkhkllneifaaGreatDoorProg.lean LOADS. Nothing in Lean hashes anything: it is a label: what it is worth is what the hold of that sum in a sandbox is worth. -/
noncomputable def Tryz.pinned : Pinned := { name := "ytbelkhkllneifaagreatdoor", sum := "234f3994603ded9c72a8a885c2b7b78c98e0e51f9acaf898a9628c5d57d5d50b", checked := Tryz.checked }
namespace Rows
def none {H : Type} : Left H := { results := [], args := [] }

/- WHAT THE LISTED PACKAGE-LEVEL VARIABLES READ AS WHEN THE CALL BEGINS. Each datum BY PROGRAM (the guide's laid-datum.mjs) off the statement by which the dump's own 'gosem.cut.vars' lays the variable. In a bare row this is a premise. The card (YtbelkhkllneifaaGreatDoorCards.lean) ties it to the program's text. -/
def laid_tithebarn_tally_smallest {H : Type} : DataW H := .agg [.lit (.int .u64 0), .lit (.int .u64 64), .lit (.int .u64 16384), .lit (.int .u64 1073741824)]
def laid_tithebarn_tally_sizes {H : Type} : DataW H := .agg [.lit (.int .i64 1), .lit (.int .i64 2), .lit (.int .i64 4), .lit (.int .i64 9)]

/-- 'tithebarnlaw13.RunWrites': WHATEVER THE INPUT: true; the input reads as it did. -/
def runWritesSpec : ChangeSpec := { name := "runWrites", fn := fun _ => fun
  | [d1, d2] => { results := [.lit (.bool true)], args := [d1, d2] }
  | _ => none }
def runWritesRow : OpenClaim := { program := "ytbelkhkllneifaagreatdoor", sum := "234f3994603ded9c72a8a885c2b7b78c98e0e51f9acaf898a9628c5d57d5d50b", func := "tithebarn/tithebarnlaw13.RunWrites", spec := "runWrites", inPlace := ["internal/abi.NoEscape"], unfollowed := true, recurses := true, named := ["tithebarn/tally.sizes", "tithebarn/tally.smallest"], apart := false, laid := [("tithebarn/tally.smallest", laid_tithebarn_tally_smallest), ("tithebarn/tally.sizes", laid_tithebarn_tally_sizes)] }
def RunWritesSaid : Prop := runWritesRow.holds Tryz.pinned (OpenSpec.ofChange runWritesSpec)

/-- ITS FALSE NEIGHBOUR: 'it returns false'. Refute it at one input. -/
def runWritesWrong : ChangeSpec := { name := "runWrites", fn := fun _ => fun
  | [d1, d2] => { results := [.lit (.bool false)], args := [d1, d2] }
  | _ => none }
def RunWritesWrongFalsely : Prop := runWritesRow.holds Tryz.pinned (OpenSpec.ofChange runWritesWrong)

/-- 'tithebarnlaw13.RunBack': WHATEVER THE INPUT: true; the input reads as it did. -/
def runBackSpec : ChangeSpec := { name := "runBack", fn := fun _ => fun
  | [d1, d2] => { results := [.lit (.bool true)], args := [d1, d2] }
  | _ => none }
def runBackRow : OpenClaim := { program := "ytbelkhkllneifaagreatdoor", sum := "234f3994603ded9c72a8a885c2b7b78c98e0e51f9acaf898a9628c5d57d5d50b", func := "tithebarn/tithebarnlaw13.RunBack", spec := "runBack", inPlace := ["internal/abi.NoEscape"], unfollowed := true, recurses := true, named := ["tithebarn/tally.sizes", "tithebarn/tally.smallest"], apart := false, laid := [("tithebarn/tally.smallest", laid_tithebarn_tally_smallest), ("tithebarn/tally.sizes", laid_tithebarn_tally_sizes)] }
def RunBackSaid : Prop := runBackRow.holds Tryz.pinned (OpenSpec.ofChange runBackSpec)

/-- ITS FALSE NEIGHBOUR: 'it returns false'. Refute it at one input. -/
def runBackWrong : ChangeSpec := { name := "runBack", fn := fun _ => fun
  | [d1, d2] => { results := [.lit (.bool false)], args := [d1, d2] }
  | _ => none }
def RunBackWrongFalsely : Prop := runBackRow.holds Tryz.pinned (OpenSpec.ofChange runBackWrong)

/-- 'tithebarnlaw13.RunGets': WHATEVER THE INPUT: true; the input reads as it did. -/
def runGetsSpec : ChangeSpec := { name := "runGets", fn := fun _ => fun
  | [d1, d2, d3] => { results := [.lit (.bool true)], args := [d1, d2, d3] }
  | _ => none }
def runGetsRow : OpenClaim := { program := "ytbelkhkllneifaagreatdoor", sum := "234f3994603ded9c72a8a885c2b7b78c98e0e51f9acaf898a9628c5d57d5d50b", func := "tithebarn/tithebarnlaw13.RunGets", spec := "runGets", inPlace := ["internal/abi.NoEscape"], unfollowed := true, recurses := true, named := ["tithebarn/tally.sizes", "tithebarn/tally.smallest"], apart := false, laid := [("tithebarn/tally.smallest", laid_tithebarn_tally_smallest), ("tithebarn/tally.sizes", laid_tithebarn_tally_sizes)] }
def RunGetsSaid : Prop := runGetsRow.holds Tryz.pinned (OpenSpec.ofChange runGetsSpec)

/-- ITS FALSE NEIGHBOUR: 'it returns false'. Refute it at one input. -/
def runGetsWrong : ChangeSpec := { name := "runGets", fn := fun _ => fun
  | [d1, d2, d3] => { results := [.lit (.bool false)], args := [d1, d2, d3] }
  | _ => none }
def RunGetsWrongFalsely : Prop := runGetsRow.holds Tryz.pinned (OpenSpec.ofChange runGetsWrong)

/-- 'tithebarnlaw13.RunMatches': WHATEVER THE INPUT: true; the input reads as it did. -/
def runMatchesSpec : ChangeSpec := { name := "runMatches", fn := fun _ => fun
  | [d1, d2, d3] => { results := [.lit (.bool true)], args := [d1, d2, d3] }
  | _ => none }
def runMatchesRow : OpenClaim := { program := "ytbelkhkllneifaagreatdoor", sum := "234f3994603ded9c72a8a885c2b7b78c98e0e51f9acaf898a9628c5d57d5d50b", func := "tithebarn/tithebarnlaw13.RunMatches", spec := "runMatches", inPlace := ["internal/abi.NoEscape"], unfollowed := true, recurses := true, named := ["tithebarn/tally.sizes", "tithebarn/tally.smallest"], apart := false, laid := [("tithebarn/tally.smallest", laid_tithebarn_tally_smallest), ("tithebarn/tally.sizes", laid_tithebarn_tally_sizes)] }
def RunMatchesSaid : Prop := runMatchesRow.holds Tryz.pinned (OpenSpec.ofChange runMatchesSpec)

/-- ITS FALSE NEIGHBOUR: 'it returns false'. Refute it at one input. -/
def runMatchesWrong : ChangeSpec := { name := "runMatches", fn := fun _ => fun
  | [d1, d2, d3] => { results := [.lit (.bool false)], args := [d1, d2, d3] }
  | _ => none }
def RunMatchesWrongFalsely : Prop := runMatchesRow.holds Tryz.pinned (OpenSpec.ofChange runMatchesWrong)

/-- 'tithebarnlaw13.RunZones': WHATEVER THE INPUT: true; the input reads as it did. -/
def runZonesSpec : ChangeSpec := { name := "runZones", fn := fun _ => fun
  | [d1, d2, d3] => { results := [.lit (.bool true)], args := [d1, d2, d3] }
  | _ => none }
def runZonesRow : OpenClaim := { program := "ytbelkhkllneifaagreatdoor", sum := "234f3994603ded9c72a8a885c2b7b78c98e0e51f9acaf898a9628c5d57d5d50b", func := "tithebarn/tithebarnlaw13.RunZones", spec := "runZones", inPlace := ["internal/abi.NoEscape"], unfollowed := true, recurses := true, named := ["tithebarn/tally.sizes", "tithebarn/tally.smallest"], apart := false, laid := [("tithebarn/tally.smallest", laid_tithebarn_tally_smallest), ("tithebarn/tally.sizes", laid_tithebarn_tally_sizes)] }
def RunZonesSaid : Prop := runZonesRow.holds Tryz.pinned (OpenSpec.ofChange runZonesSpec)

/-- ITS FALSE NEIGHBOUR: 'it returns false'. Refute it at one input. -/
def runZonesWrong : ChangeSpec := { name := "runZones", fn := fun _ => fun
  | [d1, d2, d3] => { results := [.lit (.bool false)], args := [d1, d2, d3] }
  | _ => none }
def RunZonesWrongFalsely : Prop := runZonesRow.holds Tryz.pinned (OpenSpec.ofChange runZonesWrong)

/-- 'tithebarnlaw13.RunSplits': WHATEVER THE INPUT: true; the input reads as it did. -/
def runSplitsSpec : ChangeSpec := { name := "runSplits", fn := fun _ => fun
  | [d1, d2, d3] => { results := [.lit (.bool true)], args := [d1, d2, d3] }
  | _ => none }
def runSplitsRow : OpenClaim := { program := "ytbelkhkllneifaagreatdoor", sum := "234f3994603ded9c72a8a885c2b7b78c98e0e51f9acaf898a9628c5d57d5d50b", func := "tithebarn/tithebarnlaw13.RunSplits", spec := "runSplits", inPlace := ["internal/abi.NoEscape"], unfollowed := true, recurses := true, named := ["tithebarn/tally.sizes", "tithebarn/tally.smallest"], apart := false, laid := [("tithebarn/tally.smallest", laid_tithebarn_tally_smallest), ("tithebarn/tally.sizes", laid_tithebarn_tally_sizes)] }
def RunSplitsSaid : Prop := runSplitsRow.holds Tryz.pinned (OpenSpec.ofChange runSplitsSpec)

/-- ITS FALSE NEIGHBOUR: 'it returns false'. Refute it at one input. -/
def runSplitsWrong : ChangeSpec := { name := "runSplits", fn := fun _ => fun
  | [d1, d2, d3] => { results := [.lit (.bool false)], args := [d1, d2, d3] }
  | _ => none }
def RunSplitsWrongFalsely : Prop := runSplitsRow.holds Tryz.pinned (OpenSpec.ofChange runSplitsWrong)

/- THE SECOND FORM. 'bulk': how many values and letters a reading holds, each counted each time it is reached (what is shared counts as often as it is met; a slice's spare places count too). A statement '..UptoSaid' is the law's where the arguments, and the package variables that the reading takes, are together of bulk at most 1048576: NARROWER than '..Said'. Prove '..Said' where nothing that the law and all that it calls make is longer than what came in: it says more and counts as full. Else prove '..UptoSaid'. A law counts once. -/
mutual
def uptoBulk {H : Type} : DataW H → Nat
  | .lit (.string bytes) => bytes.length + 1
  | .lit _ => 1
  | .nil => 1
  | .ptr d => uptoBulk d + 1
  | .slice elems spare => uptoBulkAll elems + uptoBulkAll spare + 1
  | .agg parts => uptoBulkAll parts + 1
  | .iface _ d => uptoBulk d + 1
  | .map entries => uptoBulkEntries entries + 1
  | .held _ => 1
def uptoBulkAll {H : Type} : List (DataW H) → Nat
  | [] => 0
  | d :: r => uptoBulk d + uptoBulkAll r
def uptoBulkEntries {H : Type} : List (Lit × DataW H) → Nat
  | [] => 0
  | x :: r => uptoBulkEntry x + uptoBulkEntries r
def uptoBulkEntry {H : Type} : Lit × DataW H → Nat
  | (.string bytes, d) => bytes.length + uptoBulk d + 1
  | (_, d) => uptoBulk d + 1
 end
def uptoSmall : (H : Type) → List (DataW H) → Bool := fun _ ds => decide (uptoBulkAll ds ≤ 1048576)
def OpenSpec.upto (s : _root_.Go.ChangeSpec) : _root_.Go.OpenSpec := { _root_.Go.OpenSpec.ofChange s with cond := some uptoSmall }

/-- 'tithebarnlaw13.RunWrites', WHERE WHAT IT READS IS OF BULK AT MOST 1048576: true; the input reads as it did. -/
def runWritesUptoRow : OpenClaim := { program := "ytbelkhkllneifaagreatdoor", sum := "234f3994603ded9c72a8a885c2b7b78c98e0e51f9acaf898a9628c5d57d5d50b", func := "tithebarn/tithebarnlaw13.RunWrites", spec := "runWrites", inPlace := ["internal/abi.NoEscape"], unfollowed := true, recurses := true, named := ["tithebarn/tally.sizes", "tithebarn/tally.smallest"], apart := false, laid := [("tithebarn/tally.smallest", laid_tithebarn_tally_smallest), ("tithebarn/tally.sizes", laid_tithebarn_tally_sizes)], narrowed := true }
def RunWritesUptoSaid : Prop := runWritesUptoRow.holds Tryz.pinned (OpenSpec.upto runWritesSpec)

/-- 'tithebarnlaw13.RunBack', WHERE WHAT IT READS IS OF BULK AT MOST 1048576: true; the input reads as it did. -/
def runBackUptoRow : OpenClaim := { program := "ytbelkhkllneifaagreatdoor", sum := "234f3994603ded9c72a8a885c2b7b78c98e0e51f9acaf898a9628c5d57d5d50b", func := "tithebarn/tithebarnlaw13.RunBack", spec := "runBack", inPlace := ["internal/abi.NoEscape"], unfollowed := true, recurses := true, named := ["tithebarn/tally.sizes", "tithebarn/tally.smallest"], apart := false, laid := [("tithebarn/tally.smallest", laid_tithebarn_tally_smallest), ("tithebarn/tally.sizes", laid_tithebarn_tally_sizes)], narrowed := true }
def RunBackUptoSaid : Prop := runBackUptoRow.holds Tryz.pinned (OpenSpec.upto runBackSpec)

/-- 'tithebarnlaw13.RunGets', WHERE WHAT IT READS IS OF BULK AT MOST 1048576: true; the input reads as it did. -/
def runGetsUptoRow : OpenClaim := { program := "ytbelkhkllneifaagreatdoor", sum := "234f3994603ded9c72a8a885c2b7b78c98e0e51f9acaf898a9628c5d57d5d50b", func := "tithebarn/tithebarnlaw13.RunGets", spec := "runGets", inPlace := ["internal/abi.NoEscape"], unfollowed := true, recurses := true, named := ["tithebarn/tally.sizes", "tithebarn/tally.smallest"], apart := false, laid := [("tithebarn/tally.smallest", laid_tithebarn_tally_smallest), ("tithebarn/tally.sizes", laid_tithebarn_tally_sizes)], narrowed := true }
def RunGetsUptoSaid : Prop := runGetsUptoRow.holds Tryz.pinned (OpenSpec.upto runGetsSpec)

/-- 'tithebarnlaw13.RunMatches', WHERE WHAT IT READS IS OF BULK AT MOST 1048576: true; the input reads as it did. -/
def runMatchesUptoRow : OpenClaim := { program := "ytbelkhkllneifaagreatdoor", sum := "234f3994603ded9c72a8a885c2b7b78c98e0e51f9acaf898a9628c5d57d5d50b", func := "tithebarn/tithebarnlaw13.RunMatches", spec := "runMatches", inPlace := ["internal/abi.NoEscape"], unfollowed := true, recurses := true, named := ["tithebarn/tally.sizes", "tithebarn/tally.smallest"], apart := false, laid := [("tithebarn/tally.smallest", laid_tithebarn_tally_smallest), ("tithebarn/tally.sizes", laid_tithebarn_tally_sizes)], narrowed := true }
def RunMatchesUptoSaid : Prop := runMatchesUptoRow.holds Tryz.pinned (OpenSpec.upto runMatchesSpec)

/-- 'tithebarnlaw13.RunZones', WHERE WHAT IT READS IS OF BULK AT MOST 1048576: true; the input reads as it did. -/
def runZonesUptoRow : OpenClaim := { program := "ytbelkhkllneifaagreatdoor", sum := "234f3994603ded9c72a8a885c2b7b78c98e0e51f9acaf898a9628c5d57d5d50b", func := "tithebarn/tithebarnlaw13.RunZones", spec := "runZones", inPlace := ["internal/abi.NoEscape"], unfollowed := true, recurses := true, named := ["tithebarn/tally.sizes", "tithebarn/tally.smallest"], apart := false, laid := [("tithebarn/tally.smallest", laid_tithebarn_tally_smallest), ("tithebarn/tally.sizes", laid_tithebarn_tally_sizes)], narrowed := true }
def RunZonesUptoSaid : Prop := runZonesUptoRow.holds Tryz.pinned (OpenSpec.upto runZonesSpec)

/-- 'tithebarnlaw13.RunSplits', WHERE WHAT IT READS IS OF BULK AT MOST 1048576: true; the input reads as it did. -/
def runSplitsUptoRow : OpenClaim := { program := "ytbelkhkllneifaagreatdoor", sum := "234f3994603ded9c72a8a885c2b7b78c98e0e51f9acaf898a9628c5d57d5d50b", func := "tithebarn/tithebarnlaw13.RunSplits", spec := "runSplits", inPlace := ["internal/abi.NoEscape"], unfollowed := true, recurses := true, named := ["tithebarn/tally.sizes", "tithebarn/tally.smallest"], apart := false, laid := [("tithebarn/tally.smallest", laid_tithebarn_tally_smallest), ("tithebarn/tally.sizes", laid_tithebarn_tally_sizes)], narrowed := true }
def RunSplitsUptoSaid : Prop := runSplitsUptoRow.holds Tryz.pinned (OpenSpec.upto runSplitsSpec)

end Rows
end Go.Proofs.YtbelkhkllneifaaGreatDoor
