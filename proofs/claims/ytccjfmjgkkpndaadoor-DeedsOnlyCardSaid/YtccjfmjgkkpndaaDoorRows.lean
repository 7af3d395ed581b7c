/-
  NARROWER THAN 'FOR EVERY INPUT', by the rows' own cells (each row's printed sentence says how): DeedsWrite: laid · DeedsRead: laid · DeedsBack: laid · DeedsOnly: laid · DeedsSame: laid · DeedsCols: laid.
  DERIVED. THE GIVEN ROWS OF THIS SEAT. 6 by the template 'for every input the law returns true; each argument reads behind the call as it read before'; 0 by the template 'total and deterministic' (their statements: YtccjfmjgkkpndaaDoorTotals.lean).
  GIVEN WITH THE SEED: the statements are not yours to turn. If you find one false, say at which input.
  Laid BY PROGRAM, IN A SANDBOX (cutbox-rows.mjs): the forced cells as the released guide's own fill.sh prints them over the translation 7d42cc126ca1e9ab… (all of the seat's roots in one cut). By AI agents, Wed Nov 11 2026. No macro, syntax, notation, axiom, sorry.
-/
import Derived.Test.YtccjfmjgkkpndaaDoorChecked
import GoSem.Claim
import GoSem.ClaimJoined
import GoSem.ClaimMapViews
import Derived.JoinedTies
import Derived.KernelRfl
namespace Go.Proofs.YtccjfmjgkkpndaaDoor
/- THE CELL 'sum', in the pinned program and in every row, IS THE sha256 OF THE DUMP (.gsa) THAT YtccjfmjgkkpndaaDoorProg.lean LOADS. Nothing in Lean hashes anything: it is a label: what it is worth is what the hold of that sum in a sandbox is worth. -/
noncomputable def Tryd.pinned : Pinned := { name := "ytccjfmjgkkpndaadoor", sum := "7d42cc126ca1e9ab0feb25e12323a3a576b8b080cbe6d79f67ecaf7c65ba269c", checked := Tryd.checked }
namespace Rows
def none {H : Type} : Left H := { results := [], args := [] }

/- WHAT THE LISTED PACKAGE-LEVEL VARIABLES READ AS WHEN THE CALL BEGINS. Each datum BY PROGRAM (the guide's laid-datum.mjs) off the statement by which the dump's own 'gosem.cut.vars' lays the variable. In a bare row this is a premise. The card (YtccjfmjgkkpndaaDoorCards.lean) ties it to the program's text. -/
def laid_tithebarn_tally_smallest {H : Type} : DataW H := .agg [.lit (.int .u64 0), .lit (.int .u64 64), .lit (.int .u64 16384), .lit (.int .u64 1073741824)]
def laid_tithebarn_tally_sizes {H : Type} : DataW H := .agg [.lit (.int .i64 1), .lit (.int .i64 2), .lit (.int .i64 4), .lit (.int .i64 9)]

/-- 'tithebarnlaw07.DeedsWrite': WHATEVER THE INPUT: true; the input reads as it did. -/
def deedsWriteSpec : ChangeSpec := { name := "deedsWrite", fn := fun _ => fun
  | [d1, d2] => { results := [.lit (.bool true)], args := [d1, d2] }
  | _ => none }
def deedsWriteRow : OpenClaim := { program := "ytccjfmjgkkpndaadoor", sum := "7d42cc126ca1e9ab0feb25e12323a3a576b8b080cbe6d79f67ecaf7c65ba269c", func := "tithebarn/tithebarnlaw07.DeedsWrite", spec := "deedsWrite", named := ["tithebarn/tally.sizes", "tithebarn/tally.smallest"], apart := false, laid := [("tithebarn/tally.smallest", laid_tithebarn_tally_smallest), ("tithebarn/tally.sizes", laid_tithebarn_tally_sizes)] }
def DeedsWriteSaid : Prop := deedsWriteRow.holds Tryd.pinned (OpenSpec.ofChange deedsWriteSpec)

/-- ITS FALSE NEIGHBOUR: 'it returns false'. Refute it at one input. -/
def deedsWriteWrong : ChangeSpec := { name := "deedsWrite", fn := fun _ => fun
  | [d1, d2] => { results := [.lit (.bool false)], args := [d1, d2] }
  | _ => none }
def DeedsWriteWrongFalsely : Prop := deedsWriteRow.holds Tryd.pinned (OpenSpec.ofChange deedsWriteWrong)

/-- 'tithebarnlaw07.DeedsRead': WHATEVER THE INPUT: true; the input reads as it did. -/
def deedsReadSpec : ChangeSpec := { name := "deedsRead", fn := fun _ => fun
  | [d1, d2] => { results := [.lit (.bool true)], args := [d1, d2] }
  | _ => none }
def deedsReadRow : OpenClaim := { program := "ytccjfmjgkkpndaadoor", sum := "7d42cc126ca1e9ab0feb25e12323a3a576b8b080cbe6d79f67ecaf7c65ba269c", func := "tithebarn/tithebarnlaw07.DeedsRead", spec := "deedsRead", named := ["tithebarn/tally.sizes", "tithebarn/tally.smallest"], apart := false, laid := [("tithebarn/tally.smallest", laid_tithebarn_tally_smallest), ("tithebarn/tally.sizes", laid_tithebarn_tally_sizes)] }
def DeedsReadSaid : Prop := deedsReadRow.holds Tryd.pinned (OpenSpec.ofChange deedsReadSpec)

/-- ITS FALSE NEIGHBOUR: 'it returns false'. Refute it at one input. -/
def deedsReadWrong : ChangeSpec := { name := "deedsRead", fn := fun _ => fun
  | [d1, d2] => { results := [.lit (.bool false)], args := [d1, d2] }
  | _ => none }
def DeedsReadWrongFalsely : Prop := deedsReadRow.holds Tryd.pinned (OpenSpec.ofChange deedsReadWrong)

/-- 'tithebarnlaw07.DeedsBack': WHATEVER THE INPUT: true; the input reads as it did. -/
def deedsBackSpec : ChangeSpec := { name := "deedsBack", fn := fun _ => fun
  | [d1, d2] => { results := [.lit (.bool true)], args := [d1, d2] }
  | _ => none }
def deedsBackRow : OpenClaim := { program := "ytccjfmjgkkpndaadoor", sum := "7d42cc126ca1e9ab0feb25e12323a3a576b8b080cbe6d79f67ecaf7c65ba269c", func := "tithebarn/tithebarnlaw07.DeedsBack", spec := "deedsBack", named := ["tithebarn/tally.sizes", "tithebarn/tally.smallest"], apart := false, laid := [("tithebarn/tally.smallest", laid_tithebarn_tally_smallest), ("tithebarn/tally.sizes", laid_tithebarn_tally_sizes)] }
def DeedsBackSaid : Prop := deedsBackRow.holds Tryd.pinned (OpenSpec.ofChange deedsBackSpec)

/-- ITS FALSE NEIGHBOUR: 'it returns false'. Refute it at one input. -/
def deedsBackWrong : ChangeSpec := { name := "deedsBack", fn := fun _ => fun
  | [d1, d2] => { results := [.lit (.bool false)], args := [d1, d2] }
  | _ => none }
def DeedsBackWrongFalsely : Prop := deedsBackRow.holds Tryd.pinned (OpenSpec.ofChange deedsBackWrong)

/-- 'tithebarnlaw07.DeedsOnly': WHATEVER THE INPUT: true; the input reads as it did. -/
def deedsOnlySpec : ChangeSpec := { name := "deedsOnly", fn := fun _ => fun
  | [d1, d2] => { results := [.lit (.bool true)], args := [d1, d2] }
  | _ => none }
def deedsOnlyRow : OpenClaim := { program := "ytccjfmjgkkpndaadoor", sum := "7d42cc126ca1e9ab0feb25e12323a3a576b8b080cbe6d79f67ecaf7c65ba269c", func := "tithebarn/tithebarnlaw07.DeedsOnly", spec := "deedsOnly", named := ["tithebarn/tally.sizes", "tithebarn/tally.smallest"], apart := false, laid := [("tithebarn/tally.smallest", laid_tithebarn_tally_smallest), ("tithebarn/tally.sizes", laid_tithebarn_tally_sizes)] }
def DeedsOnlySaid : Prop := deedsOnlyRow.holds Tryd.pinned (OpenSpec.ofChange deedsOnlySpec)

/-- ITS FALSE NEIGHBOUR: 'it returns false'. Refute it at one input. -/
def deedsOnlyWrong : ChangeSpec := { name := "deedsOnly", fn := fun _ => fun
  | [d1, d2] => { results := [.lit (.bool false)], args := [d1, d2] }
  | _ => none }
def DeedsOnlyWrongFalsely : Prop := deedsOnlyRow.holds Tryd.pinned (OpenSpec.ofChange deedsOnlyWrong)

/-- 'tithebarnlaw07.DeedsSame': WHATEVER THE INPUT: true; the input reads as it did. -/
def deedsSameSpec : ChangeSpec := { name := "deedsSame", fn := fun _ => fun
  | [d1, d2, d3] => { results := [.lit (.bool true)], args := [d1, d2, d3] }
  | _ => none }
def deedsSameRow : OpenClaim := { program := "ytccjfmjgkkpndaadoor", sum := "7d42cc126ca1e9ab0feb25e12323a3a576b8b080cbe6d79f67ecaf7c65ba269c", func := "tithebarn/tithebarnlaw07.DeedsSame", spec := "deedsSame", named := ["tithebarn/tally.sizes", "tithebarn/tally.smallest"], apart := false, laid := [("tithebarn/tally.smallest", laid_tithebarn_tally_smallest), ("tithebarn/tally.sizes", laid_tithebarn_tally_sizes)] }
def DeedsSameSaid : Prop := deedsSameRow.holds Tryd.pinned (OpenSpec.ofChange deedsSameSpec)

/-- ITS FALSE NEIGHBOUR: 'it returns false'. Refute it at one input. -/
def deedsSameWrong : ChangeSpec := { name := "deedsSame", fn := fun _ => fun
  | [d1, d2, d3] => { results := [.lit (.bool false)], args := [d1, d2, d3] }
  | _ => none }
def DeedsSameWrongFalsely : Prop := deedsSameRow.holds Tryd.pinned (OpenSpec.ofChange deedsSameWrong)

/-- 'tithebarnlaw07.DeedsCols': WHATEVER THE INPUT: true; the input reads as it did. -/
def deedsColsSpec : ChangeSpec := { name := "deedsCols", fn := fun _ => fun
  | [d1, d2] => { results := [.lit (.bool true)], args := [d1, d2] }
  | _ => none }
def deedsColsRow : OpenClaim := { program := "ytccjfmjgkkpndaadoor", sum := "7d42cc126ca1e9ab0feb25e12323a3a576b8b080cbe6d79f67ecaf7c65ba269c", func := "tithebarn/tithebarnlaw07.DeedsCols", spec := "deedsCols", named := ["tithebarn/tally.sizes", "tithebarn/tally.smallest"], apart := false, laid := [("tithebarn/tally.smallest", laid_tithebarn_tally_smallest), ("tithebarn/tally.sizes", laid_tithebarn_tally_sizes)] }
def DeedsColsSaid : Prop := deedsColsRow.holds Tryd.pinned (OpenSpec.ofChange deedsColsSpec)

/-- ITS FALSE NEIGHBOUR: 'it returns false'. Refute it at one input. -/
def deedsColsWrong : ChangeSpec := { name := "deedsCols", fn := fun _ => fun
  | [d1, d2] => { results := [.lit (.bool false)], args := [d1, d2] }
  | _ => none }
def DeedsColsWrongFalsely : Prop := deedsColsRow.holds Tryd.pinned (OpenSpec.ofChange deedsColsWrong)

/- THE SECOND FORM. 'bulk': how many values and letters a reading holds, each counted each time it is reached (what is shared counts as often as it is met; a slice's spare places count too). A statement '..UptoSaid' is the law's where the arguments, and the package variables that the reading takes, are together of bulk at most 1048576: NARROWER than '..Said'. Prove '..Said' where nothing that the law and all that it calls make is longer than what came in: it says more and counts as full. Else prove '..UptoSaid'. A law counts once. -/
mutual
def uptoBulk {H : Type} : DataW H → Nat
  | .lit (.string bytes) => bytes.length + 1
  | .lit _ => 1
  | .nil => 1
  | .ptr d => uptoBulk d + 1
  | .slice elems spare => uptoBulkAll elems + uptoBulkAll spare + 1
  | .agg parts => uptoBulkAll parts + 1
  | .iface _ d => uptoBulk d + 1
  | .map entries => uptoBulkEntries entries + 1
  | .held _ => 1
def uptoBulkAll {H : Type} : List (DataW H) → Nat
  | [] => 0
  | d :: r => uptoBulk d + uptoBulkAll r
def uptoBulkEntries {H : Type} : List (Lit × DataW H) → Nat
  | [] => 0
  | x :: r => uptoBulkEntry x + uptoBulkEntries r
def uptoBulkEntry {H : Type} : Lit × DataW H → Nat
  | (.string bytes, d) => bytes.length + uptoBulk d + 1
  | (_, d) => uptoBulk d + 1
 end
def uptoSmall : (H : Type) → List (DataW H) → Bool := fun _ ds => decide (uptoBulkAll ds ≤ 1048576)
def OpenSpec.upto (s : _root_.Go.ChangeSpec) : _root_.Go.OpenSpec := { _root_.Go.OpenSpec.ofChange s with cond := some uptoSmall }

/-- 'tithebarnlaw07.DeedsWrite', WHERE WHAT IT READS IS OF BULK AT MOST 1048576: true; the input reads as it did. -/
def deedsWriteUptoRow : OpenClaim := { program := "ytccjfmjgkkpndaadoor", sum := "7d42cc126ca1e9ab0feb25e12323a3a576b8b080cbe6d79f67ecaf7c65ba269c", func := "tithebarn/tithebarnlaw07.DeedsWrite", spec := "deedsWrite", named := ["tithebarn/tally.sizes", "tithebarn/tally.smallest"], apart := false, laid := [("tithebarn/tally.smallest", laid_tithebarn_tally_smallest), ("tithebarn/tally.sizes", laid_tithebarn_tally_sizes)], narrowed := true }
def DeedsWriteUptoSaid : Prop := deedsWriteUptoRow.holds Tryd.pinned (OpenSpec.upto deedsWriteSpec)

/-- 'tithebarnlaw07.DeedsRead', WHERE WHAT IT READS IS OF BULK AT MOST 1048576: true; the input reads as it did. -/
def deedsReadUptoRow : OpenClaim := { program := "ytccjfmjgkkpndaadoor", sum := "7d42cc126ca1e9ab0feb25e12323a3a576b8b080cbe6d79f67ecaf7c65ba269c", func := "tithebarn/tithebarnlaw07.DeedsRead", spec := "deedsRead", named := ["tithebarn/tally.sizes", "tithebarn/tally.smallest"], apart := false, laid := [("tithebarn/tally.smallest", laid_tithebarn_tally_smallest), ("tithebarn/tally.sizes", laid_tithebarn_tally_sizes)], narrowed := true }
def DeedsReadUptoSaid : Prop := deedsReadUptoRow.holds Tryd.pinned (OpenSpec.upto deedsReadSpec)

/-- 'tithebarnlaw07.DeedsBack', WHERE WHAT IT READS IS OF BULK AT MOST 1048576: true; the input reads as it did. -/
def deedsBackUptoRow : OpenClaim := { program := "ytccjfmjgkkpndaadoor", sum := "7d42cc126ca1e9ab0feb25e12323a3a576b8b080cbe6d79f67ecaf7c65ba269c", func := "tithebarn/tithebarnlaw07.DeedsBack", spec := "deedsBack", named := ["tithebarn/tally.sizes", "tithebarn/tally.smallest"], apart := false, laid := [("tithebarn/tally.smallest", laid_tithebarn_tally_smallest), ("tithebarn/tally.sizes", laid_tithebarn_tally_sizes)], narrowed := true }
def DeedsBackUptoSaid : Prop := deedsBackUptoRow.holds Tryd.pinned (OpenSpec.upto deedsBackSpec)

/-- 'tithebarnlaw07.DeedsOnly', WHERE WHAT IT READS IS OF BULK AT MOST 1048576: true; the input reads as it did. -/
def deedsOnlyUptoRow : OpenClaim := { program := "ytccjfmjgkkpndaadoor", sum := "7d42cc126ca1e9ab0feb25e12323a3a576b8b080cbe6d79f67ecaf7c65ba269c", func := "tithebarn/tithebarnlaw07.DeedsOnly", spec := "deedsOnly", named := ["tithebarn/tally.sizes", "tithebarn/tally.smallest"], apart := false, laid := [("tithebarn/tally.smallest", laid_tithebarn_tally_smallest), ("tithebarn/tally.sizes", laid_tithebarn_tally_sizes)], narrowed := true }
def DeedsOnlyUptoSaid : Prop := deedsOnlyUptoRow.holds Tryd.pinned (OpenSpec.upto deedsOnlySpec)

/-- 'tithebarnlaw07.DeedsSame', WHERE WHAT IT READS IS OF BULK AT MOST 1048576: true; the input reads as it did. -/
def deedsSameUptoRow : OpenClaim := { program := "ytccjfmjgkkpndaadoor", sum := "7d42cc126ca1e9ab0feb25e12323a3a576b8b080cbe6d79f67ecaf7c65ba269c", func := "tithebarn/tithebarnlaw07.DeedsSame", spec := "deedsSame", named := ["tithebarn/tally.sizes", "tithebarn/tally.smallest"], apart := false, laid := [("tithebarn/tally.smallest", laid_tithebarn_tally_smallest), ("tithebarn/tally.sizes", laid_tithebarn_tally_sizes)], narrowed := true }
def DeedsSameUptoSaid : Prop := deedsSameUptoRow.holds Tryd.pinned (OpenSpec.upto deedsSameSpec)

/-- 'tithebarnlaw07.DeedsCols', WHERE WHAT IT READS IS OF BULK AT MOST 1048576: true; the input reads as it did. -/
def deedsColsUptoRow : OpenClaim := { program := "ytccjfmjgkkpndaadoor", sum := "7d42cc126ca1e9ab0feb25e12323a3a576b8b080cbe6d79f67ecaf7c65ba269c", func := "tithebarn/tithebarnlaw07.DeedsCols", spec := "deedsCols", named := ["tithebarn/tally.sizes", "tithebarn/tally.smallest"], apart := false, laid := [("tithebarn/tally.smallest", laid_tithebarn_tally_smallest), ("tithebarn/tally.sizes", laid_tithebarn_tally_sizes)], narrowed := true }
def DeedsColsUptoSaid : Prop := deedsColsUptoRow.holds Tryd.pinned (OpenSpec.upto deedsColsSpec)

end Rows
end Go.Proofs.YtccjfmjgkkpndaaDoor
