/-
  NARROWER THAN 'FOR EVERY INPUT', by the rows' own cells (each row's printed sentence says how): ColumnWrites: laid · ColumnReads: laid · ColumnBack: laid · ColumnOnly: laid · ColumnKinds: laid · ColumnNulls: laid.
  DERIVED. THE GIVEN ROWS OF THIS SEAT. 6 by the template 'for every input the law returns true; each argument reads behind the call as it read before'; 0 by the template 'total and deterministic' (their statements: YtcognkgabdaneaaGreatDoorTotals.lean).
  GIVEN WITH THE SEED: the statements are not yours to turn. If you find one false, say at which input.
  Laid BY PROGRAM, IN A SANDBOX (cutbox-rows.mjs): the forced cells as the released guide's own fill.sh prints them over the translation 20cd2ddd4115d391… (all of the seat's roots in one cut). By AI agents, Wed Nov 11 2026. No macro, syntax, notation, axiom, sorry.
-/
import Derived.Test.YtcognkgabdaneaaGreatDoorChecked
import GoSem.Claim
import GoSem.ClaimJoined
import GoSem.ClaimMapViews
import Derived.JoinedTies
import Derived.KernelRfl
namespace Go.Proofs.YtcognkgabdaneaaGreatDoor
/- THE CELL 'sum', in the pinned program and in every row, IS THE sha256 OF THE DUMP (.gsa) THAT YtcognkgabdaneaaGreatDoorProg.lean LOADS. Nothing in Lean hashes anything: it is a label: what it is worth is what the hold of that sum in a sandbox is worth. -/
noncomputable def Tryz.pinned : Pinned := { name := "ytcognkgabdaneaagreatdoor", sum := "20cd2ddd4115d391d2b61ac87a78e7ace66f7d0a0a472d0e6509e8b498bac801", checked := Tryz.checked }
namespace Rows
def none {H : Type} : Left H := { results := [], args := [] }

/- WHAT THE LISTED PACKAGE-LEVEL VARIABLES READ AS WHEN THE CALL BEGINS. Each datum BY PROGRAM (the guide's laid-datum.mjs) off the statement by which the dump's own 'gosem.cut.vars' lays the variable. In a bare row this is a premise. The card (YtcognkgabdaneaaGreatDoorCards.lean) ties it to the program's text. -/
def laid_tithebarn_tally_smallest {H : Type} : DataW H := .agg [.lit (.int .u64 0), .lit (.int .u64 64), .lit (.int .u64 16384), .lit (.int .u64 1073741824)]
def laid_tithebarn_tally_sizes {H : Type} : DataW H := .agg [.lit (.int .i64 1), .lit (.int .i64 2), .lit (.int .i64 4), .lit (.int .i64 9)]

/-- 'tithebarnlaw06.ColumnWrites': WHATEVER THE INPUT: true; the input reads as it did. -/
def columnWritesSpec : ChangeSpec := { name := "columnWrites", fn := fun _ => fun
  | [d1, d2] => { results := [.lit (.bool true)], args := [d1, d2] }
  | _ => none }
def columnWritesRow : OpenClaim := { program := "ytcognkgabdaneaagreatdoor", sum := "20cd2ddd4115d391d2b61ac87a78e7ace66f7d0a0a472d0e6509e8b498bac801", func := "tithebarn/tithebarnlaw06.ColumnWrites", spec := "columnWrites", unfollowed := true, recurses := true, named := ["tithebarn/tally.sizes", "tithebarn/tally.smallest"], apart := false, laid := [("tithebarn/tally.smallest", laid_tithebarn_tally_smallest), ("tithebarn/tally.sizes", laid_tithebarn_tally_sizes)] }
def ColumnWritesSaid : Prop := columnWritesRow.holds Tryz.pinned (OpenSpec.ofChange columnWritesSpec)

/-- ITS FALSE NEIGHBOUR: 'it returns false'. Refute it at one input. -/
def columnWritesWrong : ChangeSpec := { name := "columnWrites", fn := fun _ => fun
  | [d1, d2] => { results := [.lit (.bool false)], args := [d1, d2] }
  | _ => none }
def ColumnWritesWrongFalsely : Prop := columnWritesRow.holds Tryz.pinned (OpenSpec.ofChange columnWritesWrong)

/-- 'tithebarnlaw06.ColumnReads': WHATEVER THE INPUT: true; the input reads as it did. -/
def columnReadsSpec : ChangeSpec := { name := "columnReads", fn := fun _ => fun
  | [d1, d2] => { results := [.lit (.bool true)], args := [d1, d2] }
  | _ => none }
def columnReadsRow : OpenClaim := { program := "ytcognkgabdaneaagreatdoor", sum := "20cd2ddd4115d391d2b61ac87a78e7ace66f7d0a0a472d0e6509e8b498bac801", func := "tithebarn/tithebarnlaw06.ColumnReads", spec := "columnReads", unfollowed := true, recurses := true, named := ["tithebarn/tally.sizes", "tithebarn/tally.smallest"], apart := false, laid := [("tithebarn/tally.smallest", laid_tithebarn_tally_smallest), ("tithebarn/tally.sizes", laid_tithebarn_tally_sizes)] }
def ColumnReadsSaid : Prop := columnReadsRow.holds Tryz.pinned (OpenSpec.ofChange columnReadsSpec)

/-- ITS FALSE NEIGHBOUR: 'it returns false'. Refute it at one input. -/
def columnReadsWrong : ChangeSpec := { name := "columnReads", fn := fun _ => fun
  | [d1, d2] => { results := [.lit (.bool false)], args := [d1, d2] }
  | _ => none }
def ColumnReadsWrongFalsely : Prop := columnReadsRow.holds Tryz.pinned (OpenSpec.ofChange columnReadsWrong)

/-- 'tithebarnlaw06.ColumnBack': WHATEVER THE INPUT: true; the input reads as it did. -/
def columnBackSpec : ChangeSpec := { name := "columnBack", fn := fun _ => fun
  | [d1, d2] => { results := [.lit (.bool true)], args := [d1, d2] }
  | _ => none }
def columnBackRow : OpenClaim := { program := "ytcognkgabdaneaagreatdoor", sum := "20cd2ddd4115d391d2b61ac87a78e7ace66f7d0a0a472d0e6509e8b498bac801", func := "tithebarn/tithebarnlaw06.ColumnBack", spec := "columnBack", unfollowed := true, recurses := true, named := ["tithebarn/tally.sizes", "tithebarn/tally.smallest"], apart := false, laid := [("tithebarn/tally.smallest", laid_tithebarn_tally_smallest), ("tithebarn/tally.sizes", laid_tithebarn_tally_sizes)] }
def ColumnBackSaid : Prop := columnBackRow.holds Tryz.pinned (OpenSpec.ofChange columnBackSpec)

/-- ITS FALSE NEIGHBOUR: 'it returns false'. Refute it at one input. -/
def columnBackWrong : ChangeSpec := { name := "columnBack", fn := fun _ => fun
  | [d1, d2] => { results := [.lit (.bool false)], args := [d1, d2] }
  | _ => none }
def ColumnBackWrongFalsely : Prop := columnBackRow.holds Tryz.pinned (OpenSpec.ofChange columnBackWrong)

/-- 'tithebarnlaw06.ColumnOnly': WHATEVER THE INPUT: true; the input reads as it did. -/
def columnOnlySpec : ChangeSpec := { name := "columnOnly", fn := fun _ => fun
  | [d1, d2] => { results := [.lit (.bool true)], args := [d1, d2] }
  | _ => none }
def columnOnlyRow : OpenClaim := { program := "ytcognkgabdaneaagreatdoor", sum := "20cd2ddd4115d391d2b61ac87a78e7ace66f7d0a0a472d0e6509e8b498bac801", func := "tithebarn/tithebarnlaw06.ColumnOnly", spec := "columnOnly", unfollowed := true, recurses := true, named := ["tithebarn/tally.sizes", "tithebarn/tally.smallest"], apart := false, laid := [("tithebarn/tally.smallest", laid_tithebarn_tally_smallest), ("tithebarn/tally.sizes", laid_tithebarn_tally_sizes)] }
def ColumnOnlySaid : Prop := columnOnlyRow.holds Tryz.pinned (OpenSpec.ofChange columnOnlySpec)

/-- ITS FALSE NEIGHBOUR: 'it returns false'. Refute it at one input. -/
def columnOnlyWrong : ChangeSpec := { name := "columnOnly", fn := fun _ => fun
  | [d1, d2] => { results := [.lit (.bool false)], args := [d1, d2] }
  | _ => none }
def ColumnOnlyWrongFalsely : Prop := columnOnlyRow.holds Tryz.pinned (OpenSpec.ofChange columnOnlyWrong)

/-- 'tithebarnlaw06.ColumnKinds': WHATEVER THE INPUT: true; the input reads as it did. -/
def columnKindsSpec : ChangeSpec := { name := "columnKinds", fn := fun _ => fun
  | [d] => { results := [.lit (.bool true)], args := [d] }
  | _ => none }
def columnKindsRow : OpenClaim := { program := "ytcognkgabdaneaagreatdoor", sum := "20cd2ddd4115d391d2b61ac87a78e7ace66f7d0a0a472d0e6509e8b498bac801", func := "tithebarn/tithebarnlaw06.ColumnKinds", spec := "columnKinds", unfollowed := true, recurses := true, named := ["tithebarn/tally.sizes", "tithebarn/tally.smallest"], apart := false, laid := [("tithebarn/tally.smallest", laid_tithebarn_tally_smallest), ("tithebarn/tally.sizes", laid_tithebarn_tally_sizes)] }
def ColumnKindsSaid : Prop := columnKindsRow.holds Tryz.pinned (OpenSpec.ofChange columnKindsSpec)

/-- ITS FALSE NEIGHBOUR: 'it returns false'. Refute it at one input. -/
def columnKindsWrong : ChangeSpec := { name := "columnKinds", fn := fun _ => fun
  | [d] => { results := [.lit (.bool false)], args := [d] }
  | _ => none }
def ColumnKindsWrongFalsely : Prop := columnKindsRow.holds Tryz.pinned (OpenSpec.ofChange columnKindsWrong)

/-- 'tithebarnlaw06.ColumnNulls': WHATEVER THE INPUT: true; the input reads as it did. -/
def columnNullsSpec : ChangeSpec := { name := "columnNulls", fn := fun _ => fun
  | [d1, d2] => { results := [.lit (.bool true)], args := [d1, d2] }
  | _ => none }
def columnNullsRow : OpenClaim := { program := "ytcognkgabdaneaagreatdoor", sum := "20cd2ddd4115d391d2b61ac87a78e7ace66f7d0a0a472d0e6509e8b498bac801", func := "tithebarn/tithebarnlaw06.ColumnNulls", spec := "columnNulls", unfollowed := true, recurses := true, named := ["tithebarn/tally.sizes", "tithebarn/tally.smallest"], apart := false, laid := [("tithebarn/tally.smallest", laid_tithebarn_tally_smallest), ("tithebarn/tally.sizes", laid_tithebarn_tally_sizes)] }
def ColumnNullsSaid : Prop := columnNullsRow.holds Tryz.pinned (OpenSpec.ofChange columnNullsSpec)

/-- ITS FALSE NEIGHBOUR: 'it returns false'. Refute it at one input. -/
def columnNullsWrong : ChangeSpec := { name := "columnNulls", fn := fun _ => fun
  | [d1, d2] => { results := [.lit (.bool false)], args := [d1, d2] }
  | _ => none }
def ColumnNullsWrongFalsely : Prop := columnNullsRow.holds Tryz.pinned (OpenSpec.ofChange columnNullsWrong)

/- THE SECOND FORM. 'bulk': how many values and letters a reading holds, each counted each time it is reached (what is shared counts as often as it is met; a slice's spare places count too). A statement '..UptoSaid' is the law's where the arguments, and the package variables that the reading takes, are together of bulk at most 1048576: NARROWER than '..Said'. Prove '..Said' where nothing that the law and all that it calls make is longer than what came in: it says more and counts as full. Else prove '..UptoSaid'. A law counts once. -/
mutual
def uptoBulk {H : Type} : DataW H → Nat
  | .lit (.string bytes) => bytes.length + 1
  | .lit _ => 1
  | .nil => 1
  | .ptr d => uptoBulk d + 1
  | .slice elems spare => uptoBulkAll elems + uptoBulkAll spare + 1
  | .agg parts => uptoBulkAll parts + 1
  | .iface _ d => uptoBulk d + 1
  | .map entries => uptoBulkEntries entries + 1
  | .held _ => 1
def uptoBulkAll {H : Type} : List (DataW H) → Nat
  | [] => 0
  | d :: r => uptoBulk d + uptoBulkAll r
def uptoBulkEntries {H : Type} : List (Lit × DataW H) → Nat
  | [] => 0
  | x :: r => uptoBulkEntry x + uptoBulkEntries r
def uptoBulkEntry {H : Type} : Lit × DataW H → Nat
  | (.string bytes, d) => bytes.length + uptoBulk d + 1
  | (_, d) => uptoBulk d + 1
 end
def uptoSmall : (H : Type) → List (DataW H) → Bool := fun _ ds => decide (uptoBulkAll ds ≤ 1048576)
def OpenSpec.upto (s : _root_.Go.ChangeSpec) : _root_.Go.OpenSpec := { _root_.Go.OpenSpec.ofChange s with cond := some uptoSmall }

/-- 'tithebarnlaw06.ColumnWrites', WHERE WHAT IT READS IS OF BULK AT MOST 1048576: true; the input reads as it did. -/
def columnWritesUptoRow : OpenClaim := { program := "ytcognkgabdaneaagreatdoor", sum := "20cd2ddd4115d391d2b61ac87a78e7ace66f7d0a0a472d0e6509e8b498bac801", func := "tithebarn/tithebarnlaw06.ColumnWrites", spec := "columnWrites", unfollowed := true, recurses := true, named := ["tithebarn/tally.sizes", "tithebarn/tally.smallest"], apart := false, laid := [("tithebarn/tally.smallest", laid_tithebarn_tally_smallest), ("tithebarn/tally.sizes", laid_tithebarn_tally_sizes)], narrowed := true }
def ColumnWritesUptoSaid : Prop := columnWritesUptoRow.holds Tryz.pinned (OpenSpec.upto columnWritesSpec)

/-- 'tithebarnlaw06.ColumnReads', WHERE WHAT IT READS IS OF BULK AT MOST 1048576: true; the input reads as it did. -/
def columnReadsUptoRow : OpenClaim := { program := "ytcognkgabdaneaagreatdoor", sum := "20cd2ddd4115d391d2b61ac87a78e7ace66f7d0a0a472d0e6509e8b498bac801", func := "tithebarn/tithebarnlaw06.ColumnReads", spec := "columnReads", unfollowed := true, recurses := true, named := ["tithebarn/tally.sizes", "tithebarn/tally.smallest"], apart := false, laid := [("tithebarn/tally.smallest", laid_tithebarn_tally_smallest), ("tithebarn/tally.sizes", laid_tithebarn_tally_sizes)], narrowed := true }
def ColumnReadsUptoSaid : Prop := columnReadsUptoRow.holds Tryz.pinned (OpenSpec.upto columnReadsSpec)

/-- 'tithebarnlaw06.ColumnBack', WHERE WHAT IT READS IS OF BULK AT MOST 1048576: true; the input reads as it did. -/
def columnBackUptoRow : OpenClaim := { program := "ytcognkgabdaneaagreatdoor", sum := "20cd2ddd4115d391d2b61ac87a78e7ace66f7d0a0a472d0e6509e8b498bac801", func := "tithebarn/tithebarnlaw06.ColumnBack", spec := "columnBack", unfollowed := true, recurses := true, named := ["tithebarn/tally.sizes", "tithebarn/tally.smallest"], apart := false, laid := [("tithebarn/tally.smallest", laid_tithebarn_tally_smallest), ("tithebarn/tally.sizes", laid_tithebarn_tally_sizes)], narrowed := true }
def ColumnBackUptoSaid : Prop := columnBackUptoRow.holds Tryz.pinned (OpenSpec.upto columnBackSpec)

/-- 'tithebarnlaw06.ColumnOnly', WHERE WHAT IT READS IS OF BULK AT MOST 1048576: true; the input reads as it did. -/
def columnOnlyUptoRow : OpenClaim := { program := "ytcognkgabdaneaagreatdoor", sum := "20cd2ddd4115d391d2b61ac87a78e7ace66f7d0a0a472d0e6509e8b498bac801", func := "tithebarn/tithebarnlaw06.ColumnOnly", spec := "columnOnly", unfollowed := true, recurses := true, named := ["tithebarn/tally.sizes", "tithebarn/tally.smallest"], apart := false, laid := [("tithebarn/tally.smallest", laid_tithebarn_tally_smallest), ("tithebarn/tally.sizes", laid_tithebarn_tally_sizes)], narrowed := true }
def ColumnOnlyUptoSaid : Prop := columnOnlyUptoRow.holds Tryz.pinned (OpenSpec.upto columnOnlySpec)

/-- 'tithebarnlaw06.ColumnKinds', WHERE WHAT IT READS IS OF BULK AT MOST 1048576: true; the input reads as it did. -/
def columnKindsUptoRow : OpenClaim := { program := "ytcognkgabdaneaagreatdoor", sum := "20cd2ddd4115d391d2b61ac87a78e7ace66f7d0a0a472d0e6509e8b498bac801", func := "tithebarn/tithebarnlaw06.ColumnKinds", spec := "columnKinds", unfollowed := true, recurses := true, named := ["tithebarn/tally.sizes", "tithebarn/tally.smallest"], apart := false, laid := [("tithebarn/tally.smallest", laid_tithebarn_tally_smallest), ("tithebarn/tally.sizes", laid_tithebarn_tally_sizes)], narrowed := true }
def ColumnKindsUptoSaid : Prop := columnKindsUptoRow.holds Tryz.pinned (OpenSpec.upto columnKindsSpec)

/-- 'tithebarnlaw06.ColumnNulls', WHERE WHAT IT READS IS OF BULK AT MOST 1048576: true; the input reads as it did. -/
def columnNullsUptoRow : OpenClaim := { program := "ytcognkgabdaneaagreatdoor", sum := "20cd2ddd4115d391d2b61ac87a78e7ace66f7d0a0a472d0e6509e8b498bac801", func := "tithebarn/tithebarnlaw06.ColumnNulls", spec := "columnNulls", unfollowed := true, recurses := true, named := ["tithebarn/tally.sizes", "tithebarn/tally.smallest"], apart := false, laid := [("tithebarn/tally.smallest", laid_tithebarn_tally_smallest), ("tithebarn/tally.sizes", laid_tithebarn_tally_sizes)], narrowed := true }
def ColumnNullsUptoSaid : Prop := columnNullsUptoRow.holds Tryz.pinned (OpenSpec.upto columnNullsSpec)

end Rows
end Go.Proofs.YtcognkgabdaneaaGreatDoor
