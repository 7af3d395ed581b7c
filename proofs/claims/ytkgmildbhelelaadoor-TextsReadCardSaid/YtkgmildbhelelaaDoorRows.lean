/-
  NARROWER THAN 'FOR EVERY INPUT', by the rows' own cells (each row's printed sentence says how): IntsWith: laid · IntsBest: laid · IntsRead: laid · IntsBack: laid · IntsOnly: laid · IntsSame: laid · TextsWith: laid · TextsBest: laid · TextsRead: laid · TextsBack: laid · TextsOnly: laid · TextsSame: laid.
  DERIVED. THE GIVEN ROWS OF THIS SEAT. 12 by the template 'for every input the law returns true; each argument reads behind the call as it read before'; 0 by the template 'total and deterministic' (their statements: YtkgmildbhelelaaDoorTotals.lean).
  GIVEN WITH THE SEED: the statements are not yours to turn. If you find one false, say at which input.
  Laid BY PROGRAM, IN A SANDBOX (cutbox-rows.mjs): the forced cells as the released guide's own fill.sh prints them over the translation 9fcc1a0efb11e3bd… (all of the seat's roots in one cut). By AI agents, Wed Nov 11 2026. No macro, syntax, notation, axiom, sorry.
-/
import Derived.Test.YtkgmildbhelelaaDoorChecked
import GoSem.Claim
import GoSem.ClaimJoined
import GoSem.ClaimMapViews
import Derived.JoinedTies
import Derived.KernelRfl
namespace Go.Proofs.YtkgmildbhelelaaDoor
/- THE CELL 'sum', in the pinned program and in every row, IS THE sha256 OF THE DUMP (.gsa) THAT YtkgmildbhelelaaDoorProg.lean LOADS. Nothing in Lean hashes anything: it is a label: what it is worth is what the hold of that sum in a sandbox is worth. -/
noncomputable def Tryd.pinned : Pinned := { name := "ytkgmildbhelelaadoor", sum := "9fcc1a0efb11e3bde09ba02eafcd27fad8d94f4f4f8670db70c18e1973295ca6", checked := Tryd.checked }
namespace Rows
def none {H : Type} : Left H := { results := [], args := [] }

/- WHAT THE LISTED PACKAGE-LEVEL VARIABLES READ AS WHEN THE CALL BEGINS. Each datum BY PROGRAM (the guide's laid-datum.mjs) off the statement by which the dump's own 'gosem.cut.vars' lays the variable. In a bare row this is a premise. The card (YtkgmildbhelelaaDoorCards.lean) ties it to the program's text. -/
def laid_tithebarn_tally_smallest {H : Type} : DataW H := .agg [.lit (.int .u64 0), .lit (.int .u64 64), .lit (.int .u64 16384), .lit (.int .u64 1073741824)]
def laid_tithebarn_tally_sizes {H : Type} : DataW H := .agg [.lit (.int .i64 1), .lit (.int .i64 2), .lit (.int .i64 4), .lit (.int .i64 9)]

/-- 'tithebarnlaw04.IntsWith': WHATEVER THE INPUT: true; the input reads as it did. -/
def intsWithSpec : ChangeSpec := { name := "intsWith", fn := fun _ => fun
  | [d1, d2] => { results := [.lit (.bool true)], args := [d1, d2] }
  | _ => none }
def intsWithRow : OpenClaim := { program := "ytkgmildbhelelaadoor", sum := "9fcc1a0efb11e3bde09ba02eafcd27fad8d94f4f4f8670db70c18e1973295ca6", func := "tithebarn/tithebarnlaw04.IntsWith", spec := "intsWith", unfollowed := true, recurses := true, named := ["tithebarn/tally.sizes", "tithebarn/tally.smallest"], apart := false, laid := [("tithebarn/tally.smallest", laid_tithebarn_tally_smallest), ("tithebarn/tally.sizes", laid_tithebarn_tally_sizes)] }
def IntsWithSaid : Prop := intsWithRow.holds Tryd.pinned (OpenSpec.ofChange intsWithSpec)

/-- ITS FALSE NEIGHBOUR: 'it returns false'. Refute it at one input. -/
def intsWithWrong : ChangeSpec := { name := "intsWith", fn := fun _ => fun
  | [d1, d2] => { results := [.lit (.bool false)], args := [d1, d2] }
  | _ => none }
def IntsWithWrongFalsely : Prop := intsWithRow.holds Tryd.pinned (OpenSpec.ofChange intsWithWrong)

/-- 'tithebarnlaw04.IntsBest': WHATEVER THE INPUT: true; the input reads as it did. -/
def intsBestSpec : ChangeSpec := { name := "intsBest", fn := fun _ => fun
  | [d] => { results := [.lit (.bool true)], args := [d] }
  | _ => none }
def intsBestRow : OpenClaim := { program := "ytkgmildbhelelaadoor", sum := "9fcc1a0efb11e3bde09ba02eafcd27fad8d94f4f4f8670db70c18e1973295ca6", func := "tithebarn/tithebarnlaw04.IntsBest", spec := "intsBest", unfollowed := true, recurses := true, named := ["tithebarn/tally.sizes", "tithebarn/tally.smallest"], apart := false, laid := [("tithebarn/tally.smallest", laid_tithebarn_tally_smallest), ("tithebarn/tally.sizes", laid_tithebarn_tally_sizes)] }
def IntsBestSaid : Prop := intsBestRow.holds Tryd.pinned (OpenSpec.ofChange intsBestSpec)

/-- ITS FALSE NEIGHBOUR: 'it returns false'. Refute it at one input. -/
def intsBestWrong : ChangeSpec := { name := "intsBest", fn := fun _ => fun
  | [d] => { results := [.lit (.bool false)], args := [d] }
  | _ => none }
def IntsBestWrongFalsely : Prop := intsBestRow.holds Tryd.pinned (OpenSpec.ofChange intsBestWrong)

/-- 'tithebarnlaw04.IntsRead': WHATEVER THE INPUT: true; the input reads as it did. -/
def intsReadSpec : ChangeSpec := { name := "intsRead", fn := fun _ => fun
  | [d] => { results := [.lit (.bool true)], args := [d] }
  | _ => none }
def intsReadRow : OpenClaim := { program := "ytkgmildbhelelaadoor", sum := "9fcc1a0efb11e3bde09ba02eafcd27fad8d94f4f4f8670db70c18e1973295ca6", func := "tithebarn/tithebarnlaw04.IntsRead", spec := "intsRead", unfollowed := true, recurses := true, named := ["tithebarn/tally.sizes", "tithebarn/tally.smallest"], apart := false, laid := [("tithebarn/tally.smallest", laid_tithebarn_tally_smallest), ("tithebarn/tally.sizes", laid_tithebarn_tally_sizes)] }
def IntsReadSaid : Prop := intsReadRow.holds Tryd.pinned (OpenSpec.ofChange intsReadSpec)

/-- ITS FALSE NEIGHBOUR: 'it returns false'. Refute it at one input. -/
def intsReadWrong : ChangeSpec := { name := "intsRead", fn := fun _ => fun
  | [d] => { results := [.lit (.bool false)], args := [d] }
  | _ => none }
def IntsReadWrongFalsely : Prop := intsReadRow.holds Tryd.pinned (OpenSpec.ofChange intsReadWrong)

/-- 'tithebarnlaw04.IntsBack': WHATEVER THE INPUT: true; the input reads as it did. -/
def intsBackSpec : ChangeSpec := { name := "intsBack", fn := fun _ => fun
  | [d] => { results := [.lit (.bool true)], args := [d] }
  | _ => none }
def intsBackRow : OpenClaim := { program := "ytkgmildbhelelaadoor", sum := "9fcc1a0efb11e3bde09ba02eafcd27fad8d94f4f4f8670db70c18e1973295ca6", func := "tithebarn/tithebarnlaw04.IntsBack", spec := "intsBack", unfollowed := true, recurses := true, named := ["tithebarn/tally.sizes", "tithebarn/tally.smallest"], apart := false, laid := [("tithebarn/tally.smallest", laid_tithebarn_tally_smallest), ("tithebarn/tally.sizes", laid_tithebarn_tally_sizes)] }
def IntsBackSaid : Prop := intsBackRow.holds Tryd.pinned (OpenSpec.ofChange intsBackSpec)

/-- ITS FALSE NEIGHBOUR: 'it returns false'. Refute it at one input. -/
def intsBackWrong : ChangeSpec := { name := "intsBack", fn := fun _ => fun
  | [d] => { results := [.lit (.bool false)], args := [d] }
  | _ => none }
def IntsBackWrongFalsely : Prop := intsBackRow.holds Tryd.pinned (OpenSpec.ofChange intsBackWrong)

/-- 'tithebarnlaw04.IntsOnly': WHATEVER THE INPUT: true; the input reads as it did. -/
def intsOnlySpec : ChangeSpec := { name := "intsOnly", fn := fun _ => fun
  | [d] => { results := [.lit (.bool true)], args := [d] }
  | _ => none }
def intsOnlyRow : OpenClaim := { program := "ytkgmildbhelelaadoor", sum := "9fcc1a0efb11e3bde09ba02eafcd27fad8d94f4f4f8670db70c18e1973295ca6", func := "tithebarn/tithebarnlaw04.IntsOnly", spec := "intsOnly", unfollowed := true, recurses := true, named := ["tithebarn/tally.sizes", "tithebarn/tally.smallest"], apart := false, laid := [("tithebarn/tally.smallest", laid_tithebarn_tally_smallest), ("tithebarn/tally.sizes", laid_tithebarn_tally_sizes)] }
def IntsOnlySaid : Prop := intsOnlyRow.holds Tryd.pinned (OpenSpec.ofChange intsOnlySpec)

/-- ITS FALSE NEIGHBOUR: 'it returns false'. Refute it at one input. -/
def intsOnlyWrong : ChangeSpec := { name := "intsOnly", fn := fun _ => fun
  | [d] => { results := [.lit (.bool false)], args := [d] }
  | _ => none }
def IntsOnlyWrongFalsely : Prop := intsOnlyRow.holds Tryd.pinned (OpenSpec.ofChange intsOnlyWrong)

/-- 'tithebarnlaw04.IntsSame': WHATEVER THE INPUT: true; the input reads as it did. -/
def intsSameSpec : ChangeSpec := { name := "intsSame", fn := fun _ => fun
  | [d1, d2] => { results := [.lit (.bool true)], args := [d1, d2] }
  | _ => none }
def intsSameRow : OpenClaim := { program := "ytkgmildbhelelaadoor", sum := "9fcc1a0efb11e3bde09ba02eafcd27fad8d94f4f4f8670db70c18e1973295ca6", func := "tithebarn/tithebarnlaw04.IntsSame", spec := "intsSame", unfollowed := true, recurses := true, named := ["tithebarn/tally.sizes", "tithebarn/tally.smallest"], apart := false, laid := [("tithebarn/tally.smallest", laid_tithebarn_tally_smallest), ("tithebarn/tally.sizes", laid_tithebarn_tally_sizes)] }
def IntsSameSaid : Prop := intsSameRow.holds Tryd.pinned (OpenSpec.ofChange intsSameSpec)

/-- ITS FALSE NEIGHBOUR: 'it returns false'. Refute it at one input. -/
def intsSameWrong : ChangeSpec := { name := "intsSame", fn := fun _ => fun
  | [d1, d2] => { results := [.lit (.bool false)], args := [d1, d2] }
  | _ => none }
def IntsSameWrongFalsely : Prop := intsSameRow.holds Tryd.pinned (OpenSpec.ofChange intsSameWrong)

/-- 'tithebarnlaw05.TextsWith': WHATEVER THE INPUT: true; the input reads as it did. -/
def textsWithSpec : ChangeSpec := { name := "textsWith", fn := fun _ => fun
  | [d1, d2] => { results := [.lit (.bool true)], args := [d1, d2] }
  | _ => none }
def textsWithRow : OpenClaim := { program := "ytkgmildbhelelaadoor", sum := "9fcc1a0efb11e3bde09ba02eafcd27fad8d94f4f4f8670db70c18e1973295ca6", func := "tithebarn/tithebarnlaw05.TextsWith", spec := "textsWith", unfollowed := true, recurses := true, named := ["tithebarn/tally.sizes", "tithebarn/tally.smallest"], apart := false, laid := [("tithebarn/tally.smallest", laid_tithebarn_tally_smallest), ("tithebarn/tally.sizes", laid_tithebarn_tally_sizes)] }
def TextsWithSaid : Prop := textsWithRow.holds Tryd.pinned (OpenSpec.ofChange textsWithSpec)

/-- ITS FALSE NEIGHBOUR: 'it returns false'. Refute it at one input. -/
def textsWithWrong : ChangeSpec := { name := "textsWith", fn := fun _ => fun
  | [d1, d2] => { results := [.lit (.bool false)], args := [d1, d2] }
  | _ => none }
def TextsWithWrongFalsely : Prop := textsWithRow.holds Tryd.pinned (OpenSpec.ofChange textsWithWrong)

/-- 'tithebarnlaw05.TextsBest': WHATEVER THE INPUT: true; the input reads as it did. -/
def textsBestSpec : ChangeSpec := { name := "textsBest", fn := fun _ => fun
  | [d] => { results := [.lit (.bool true)], args := [d] }
  | _ => none }
def textsBestRow : OpenClaim := { program := "ytkgmildbhelelaadoor", sum := "9fcc1a0efb11e3bde09ba02eafcd27fad8d94f4f4f8670db70c18e1973295ca6", func := "tithebarn/tithebarnlaw05.TextsBest", spec := "textsBest", unfollowed := true, recurses := true, named := ["tithebarn/tally.sizes", "tithebarn/tally.smallest"], apart := false, laid := [("tithebarn/tally.smallest", laid_tithebarn_tally_smallest), ("tithebarn/tally.sizes", laid_tithebarn_tally_sizes)] }
def TextsBestSaid : Prop := textsBestRow.holds Tryd.pinned (OpenSpec.ofChange textsBestSpec)

/-- ITS FALSE NEIGHBOUR: 'it returns false'. Refute it at one input. -/
def textsBestWrong : ChangeSpec := { name := "textsBest", fn := fun _ => fun
  | [d] => { results := [.lit (.bool false)], args := [d] }
  | _ => none }
def TextsBestWrongFalsely : Prop := textsBestRow.holds Tryd.pinned (OpenSpec.ofChange textsBestWrong)

/-- 'tithebarnlaw05.TextsRead': WHATEVER THE INPUT: true; the input reads as it did. -/
def textsReadSpec : ChangeSpec := { name := "textsRead", fn := fun _ => fun
  | [d] => { results := [.lit (.bool true)], args := [d] }
  | _ => none }
def textsReadRow : OpenClaim := { program := "ytkgmildbhelelaadoor", sum := "9fcc1a0efb11e3bde09ba02eafcd27fad8d94f4f4f8670db70c18e1973295ca6", func := "tithebarn/tithebarnlaw05.TextsRead", spec := "textsRead", unfollowed := true, recurses := true, named := ["tithebarn/tally.sizes", "tithebarn/tally.smallest"], apart := false, laid := [("tithebarn/tally.smallest", laid_tithebarn_tally_smallest), ("tithebarn/tally.sizes", laid_tithebarn_tally_sizes)] }
def TextsReadSaid : Prop := textsReadRow.holds Tryd.pinned (OpenSpec.ofChange textsReadSpec)

/-- ITS FALSE NEIGHBOUR: 'it returns false'. Refute it at one input. -/
def textsReadWrong : ChangeSpec := { name := "textsRead", fn := fun _ => fun
  | [d] => { results := [.lit (.bool false)], args := [d] }
  | _ => none }
def TextsReadWrongFalsely : Prop := textsReadRow.holds Tryd.pinned (OpenSpec.ofChange textsReadWrong)

/-- 'tithebarnlaw05.TextsBack': WHATEVER THE INPUT: true; the input reads as it did. -/
def textsBackSpec : ChangeSpec := { name := "textsBack", fn := fun _ => fun
  | [d] => { results := [.lit (.bool true)], args := [d] }
  | _ => none }
def textsBackRow : OpenClaim := { program := "ytkgmildbhelelaadoor", sum := "9fcc1a0efb11e3bde09ba02eafcd27fad8d94f4f4f8670db70c18e1973295ca6", func := "tithebarn/tithebarnlaw05.TextsBack", spec := "textsBack", unfollowed := true, recurses := true, named := ["tithebarn/tally.sizes", "tithebarn/tally.smallest"], apart := false, laid := [("tithebarn/tally.smallest", laid_tithebarn_tally_smallest), ("tithebarn/tally.sizes", laid_tithebarn_tally_sizes)] }
def TextsBackSaid : Prop := textsBackRow.holds Tryd.pinned (OpenSpec.ofChange textsBackSpec)

/-- ITS FALSE NEIGHBOUR: 'it returns false'. Refute it at one input. -/
def textsBackWrong : ChangeSpec := { name := "textsBack", fn := fun _ => fun
  | [d] => { results := [.lit (.bool false)], args := [d] }
  | _ => none }
def TextsBackWrongFalsely : Prop := textsBackRow.holds Tryd.pinned (OpenSpec.ofChange textsBackWrong)

/-- 'tithebarnlaw05.TextsOnly': WHATEVER THE INPUT: true; the input reads as it did. -/
def textsOnlySpec : ChangeSpec := { name := "textsOnly", fn := fun _ => fun
  | [d] => { results := [.lit (.bool true)], args := [d] }
  | _ => none }
def textsOnlyRow : OpenClaim := { program := "ytkgmildbhelelaadoor", sum := "9fcc1a0efb11e3bde09ba02eafcd27fad8d94f4f4f8670db70c18e1973295ca6", func := "tithebarn/tithebarnlaw05.TextsOnly", spec := "textsOnly", unfollowed := true, recurses := true, named := ["tithebarn/tally.sizes", "tithebarn/tally.smallest"], apart := false, laid := [("tithebarn/tally.smallest", laid_tithebarn_tally_smallest), ("tithebarn/tally.sizes", laid_tithebarn_tally_sizes)] }
def TextsOnlySaid : Prop := textsOnlyRow.holds Tryd.pinned (OpenSpec.ofChange textsOnlySpec)

/-- ITS FALSE NEIGHBOUR: 'it returns false'. Refute it at one input. -/
def textsOnlyWrong : ChangeSpec := { name := "textsOnly", fn := fun _ => fun
  | [d] => { results := [.lit (.bool false)], args := [d] }
  | _ => none }
def TextsOnlyWrongFalsely : Prop := textsOnlyRow.holds Tryd.pinned (OpenSpec.ofChange textsOnlyWrong)

/-- 'tithebarnlaw05.TextsSame': WHATEVER THE INPUT: true; the input reads as it did. -/
def textsSameSpec : ChangeSpec := { name := "textsSame", fn := fun _ => fun
  | [d1, d2] => { results := [.lit (.bool true)], args := [d1, d2] }
  | _ => none }
def textsSameRow : OpenClaim := { program := "ytkgmildbhelelaadoor", sum := "9fcc1a0efb11e3bde09ba02eafcd27fad8d94f4f4f8670db70c18e1973295ca6", func := "tithebarn/tithebarnlaw05.TextsSame", spec := "textsSame", unfollowed := true, recurses := true, named := ["tithebarn/tally.sizes", "tithebarn/tally.smallest"], apart := false, laid := [("tithebarn/tally.smallest", laid_tithebarn_tally_smallest), ("tithebarn/tally.sizes", laid_tithebarn_tally_sizes)] }
def TextsSameSaid : Prop := textsSameRow.holds Tryd.pinned (OpenSpec.ofChange textsSameSpec)

/-- ITS FALSE NEIGHBOUR: 'it returns false'. Refute it at one input. -/
def textsSameWrong : ChangeSpec := { name := "textsSame", fn := fun _ => fun
  | [d1, d2] => { results := [.lit (.bool false)], args := [d1, d2] }
  | _ => none }
def TextsSameWrongFalsely : Prop := textsSameRow.holds Tryd.pinned (OpenSpec.ofChange textsSameWrong)

/- THE SECOND FORM. 'bulk': how many values and letters a reading holds, each counted each time it is reached (what is shared counts as often as it is met; a slice's spare places count too). A statement '..UptoSaid' is the law's where the arguments, and the package variables that the reading takes, are together of bulk at most 1048576: NARROWER than '..Said'. Prove '..Said' where nothing that the law and all that it calls make is longer than what came in: it says more and counts as full. Else prove '..UptoSaid'. A law counts once. -/
mutual
def uptoBulk {H : Type} : DataW H → Nat
  | .lit (.string bytes) => bytes.length + 1
  | .lit _ => 1
  | .nil => 1
  | .ptr d => uptoBulk d + 1
  | .slice elems spare => uptoBulkAll elems + uptoBulkAll spare + 1
  | .agg parts => uptoBulkAll parts + 1
  | .iface _ d => uptoBulk d + 1
  | .map entries => uptoBulkEntries entries + 1
  | .held _ => 1
def uptoBulkAll {H : Type} : List (DataW H) → Nat
  | [] => 0
  | d :: r => uptoBulk d + uptoBulkAll r
def uptoBulkEntries {H : Type} : List (Lit × DataW H) → Nat
  | [] => 0
  | x :: r => uptoBulkEntry x + uptoBulkEntries r
def uptoBulkEntry {H : Type} : Lit × DataW H → Nat
  | (.string bytes, d) => bytes.length + uptoBulk d + 1
  | (_, d) => uptoBulk d + 1
 end
def uptoSmall : (H : Type) → List (DataW H) → Bool := fun _ ds => decide (uptoBulkAll ds ≤ 1048576)
def OpenSpec.upto (s : _root_.Go.ChangeSpec) : _root_.Go.OpenSpec := { _root_.Go.OpenSpec.ofChange s with cond := some uptoSmall }

/-- 'tithebarnlaw04.IntsWith', WHERE WHAT IT READS IS OF BULK AT MOST 1048576: true; the input reads as it did. -/
def intsWithUptoRow : OpenClaim := { program := "ytkgmildbhelelaadoor", sum := "9fcc1a0efb11e3bde09ba02eafcd27fad8d94f4f4f8670db70c18e1973295ca6", func := "tithebarn/tithebarnlaw04.IntsWith", spec := "intsWith", unfollowed := true, recurses := true, named := ["tithebarn/tally.sizes", "tithebarn/tally.smallest"], apart := false, laid := [("tithebarn/tally.smallest", laid_tithebarn_tally_smallest), ("tithebarn/tally.sizes", laid_tithebarn_tally_sizes)], narrowed := true }
def IntsWithUptoSaid : Prop := intsWithUptoRow.holds Tryd.pinned (OpenSpec.upto intsWithSpec)

/-- 'tithebarnlaw04.IntsBest', WHERE WHAT IT READS IS OF BULK AT MOST 1048576: true; the input reads as it did. -/
def intsBestUptoRow : OpenClaim := { program := "ytkgmildbhelelaadoor", sum := "9fcc1a0efb11e3bde09ba02eafcd27fad8d94f4f4f8670db70c18e1973295ca6", func := "tithebarn/tithebarnlaw04.IntsBest", spec := "intsBest", unfollowed := true, recurses := true, named := ["tithebarn/tally.sizes", "tithebarn/tally.smallest"], apart := false, laid := [("tithebarn/tally.smallest", laid_tithebarn_tally_smallest), ("tithebarn/tally.sizes", laid_tithebarn_tally_sizes)], narrowed := true }
def IntsBestUptoSaid : Prop := intsBestUptoRow.holds Tryd.pinned (OpenSpec.upto intsBestSpec)

/-- 'tithebarnlaw04.IntsRead', WHERE WHAT IT READS IS OF BULK AT MOST 1048576: true; the input reads as it did. -/
def intsReadUptoRow : OpenClaim := { program := "ytkgmildbhelelaadoor", sum := "9fcc1a0efb11e3bde09ba02eafcd27fad8d94f4f4f8670db70c18e1973295ca6", func := "tithebarn/tithebarnlaw04.IntsRead", spec := "intsRead", unfollowed := true, recurses := true, named := ["tithebarn/tally.sizes", "tithebarn/tally.smallest"], apart := false, laid := [("tithebarn/tally.smallest", laid_tithebarn_tally_smallest), ("tithebarn/tally.sizes", laid_tithebarn_tally_sizes)], narrowed := true }
def IntsReadUptoSaid : Prop := intsReadUptoRow.holds Tryd.pinned (OpenSpec.upto intsReadSpec)

/-- 'tithebarnlaw04.IntsBack', WHERE WHAT IT READS IS OF BULK AT MOST 1048576: true; the input reads as it did. -/
def intsBackUptoRow : OpenClaim := { program := "ytkgmildbhelelaadoor", sum := "9fcc1a0efb11e3bde09ba02eafcd27fad8d94f4f4f8670db70c18e1973295ca6", func := "tithebarn/tithebarnlaw04.IntsBack", spec := "intsBack", unfollowed := true, recurses := true, named := ["tithebarn/tally.sizes", "tithebarn/tally.smallest"], apart := false, laid := [("tithebarn/tally.smallest", laid_tithebarn_tally_smallest), ("tithebarn/tally.sizes", laid_tithebarn_tally_sizes)], narrowed := true }
def IntsBackUptoSaid : Prop := intsBackUptoRow.holds Tryd.pinned (OpenSpec.upto intsBackSpec)

/-- 'tithebarnlaw04.IntsOnly', WHERE WHAT IT READS IS OF BULK AT MOST 1048576: true; the input reads as it did. -/
def intsOnlyUptoRow : OpenClaim := { program := "ytkgmildbhelelaadoor", sum := "9fcc1a0efb11e3bde09ba02eafcd27fad8d94f4f4f8670db70c18e1973295ca6", func := "tithebarn/tithebarnlaw04.IntsOnly", spec := "intsOnly", unfollowed := true, recurses := true, named := ["tithebarn/tally.sizes", "tithebarn/tally.smallest"], apart := false, laid := [("tithebarn/tally.smallest", laid_tithebarn_tally_smallest), ("tithebarn/tally.sizes", laid_tithebarn_tally_sizes)], narrowed := true }
def IntsOnlyUptoSaid : Prop := intsOnlyUptoRow.holds Tryd.pinned (OpenSpec.upto intsOnlySpec)

/-- 'tithebarnlaw04.IntsSame', WHERE WHAT IT READS IS OF BULK AT MOST 1048576: true; the input reads as it did. -/
def intsSameUptoRow : OpenClaim := { program := "ytkgmildbhelelaadoor", sum := "9fcc1a0efb11e3bde09ba02eafcd27fad8d94f4f4f8670db70c18e1973295ca6", func := "tithebarn/tithebarnlaw04.IntsSame", spec := "intsSame", unfollowed := true, recurses := true, named := ["tithebarn/tally.sizes", "tithebarn/tally.smallest"], apart := false, laid := [("tithebarn/tally.smallest", laid_tithebarn_tally_smallest), ("tithebarn/tally.sizes", laid_tithebarn_tally_sizes)], narrowed := true }
def IntsSameUptoSaid : Prop := intsSameUptoRow.holds Tryd.pinned (OpenSpec.upto intsSameSpec)

/-- 'tithebarnlaw05.TextsWith', WHERE WHAT IT READS IS OF BULK AT MOST 1048576: true; the input reads as it did. -/
def textsWithUptoRow : OpenClaim := { program := "ytkgmildbhelelaadoor", sum := "9fcc1a0efb11e3bde09ba02eafcd27fad8d94f4f4f8670db70c18e1973295ca6", func := "tithebarn/tithebarnlaw05.TextsWith", spec := "textsWith", unfollowed := true, recurses := true, named := ["tithebarn/tally.sizes", "tithebarn/tally.smallest"], apart := false, laid := [("tithebarn/tally.smallest", laid_tithebarn_tally_smallest), ("tithebarn/tally.sizes", laid_tithebarn_tally_sizes)], narrowed := true }
def TextsWithUptoSaid : Prop := textsWithUptoRow.holds Tryd.pinned (OpenSpec.upto textsWithSpec)

/-- 'tithebarnlaw05.TextsBest', WHERE WHAT IT READS IS OF BULK AT MOST 1048576: true; the input reads as it did. -/
def textsBestUptoRow : OpenClaim := { program := "ytkgmildbhelelaadoor", sum := "9fcc1a0efb11e3bde09ba02eafcd27fad8d94f4f4f8670db70c18e1973295ca6", func := "tithebarn/tithebarnlaw05.TextsBest", spec := "textsBest", unfollowed := true, recurses := true, named := ["tithebarn/tally.sizes", "tithebarn/tally.smallest"], apart := false, laid := [("tithebarn/tally.smallest", laid_tithebarn_tally_smallest), ("tithebarn/tally.sizes", laid_tithebarn_tally_sizes)], narrowed := true }
def TextsBestUptoSaid : Prop := textsBestUptoRow.holds Tryd.pinned (OpenSpec.upto textsBestSpec)

/-- 'tithebarnlaw05.TextsRead', WHERE WHAT IT READS IS OF BULK AT MOST 1048576: true; the input reads as it did. -/
def textsReadUptoRow : OpenClaim := { program := "ytkgmildbhelelaadoor", sum := "9fcc1a0efb11e3bde09ba02eafcd27fad8d94f4f4f8670db70c18e1973295ca6", func := "tithebarn/tithebarnlaw05.TextsRead", spec := "textsRead", unfollowed := true, recurses := true, named := ["tithebarn/tally.sizes", "tithebarn/tally.smallest"], apart := false, laid := [("tithebarn/tally.smallest", laid_tithebarn_tally_smallest), ("tithebarn/tally.sizes", laid_tithebarn_tally_sizes)], narrowed := true }
def TextsReadUptoSaid : Prop := textsReadUptoRow.holds Tryd.pinned (OpenSpec.upto textsReadSpec)

/-- 'tithebarnlaw05.TextsBack', WHERE WHAT IT READS IS OF BULK AT MOST 1048576: true; the input reads as it did. -/
def textsBackUptoRow : OpenClaim := { program := "ytkgmildbhelelaadoor", sum := "9fcc1a0efb11e3bde09ba02eafcd27fad8d94f4f4f8670db70c18e1973295ca6", func := "tithebarn/tithebarnlaw05.TextsBack", spec := "textsBack", unfollowed := true, recurses := true, named := ["tithebarn/tally.sizes", "tithebarn/tally.smallest"], apart := false, laid := [("tithebarn/tally.smallest", laid_tithebarn_tally_smallest), ("tithebarn/tally.sizes", laid_tithebarn_tally_sizes)], narrowed := true }
def TextsBackUptoSaid : Prop := textsBackUptoRow.holds Tryd.pinned (OpenSpec.upto textsBackSpec)

/-- 'tithebarnlaw05.TextsOnly', WHERE WHAT IT READS IS OF BULK AT MOST 1048576: true; the input reads as it did. -/
def textsOnlyUptoRow : OpenClaim := { program := "ytkgmildbhelelaadoor", sum := "9fcc1a0efb11e3bde09ba02eafcd27fad8d94f4f4f8670db70c18e1973295ca6", func := "tithebarn/tithebarnlaw05.TextsOnly", spec := "textsOnly", unfollowed := true, recurses := true, named := ["tithebarn/tally.sizes", "tithebarn/tally.smallest"], apart := false, laid := [("tithebarn/tally.smallest", laid_tithebarn_tally_smallest), ("tithebarn/tally.sizes", laid_tithebarn_tally_sizes)], narrowed := true }
def TextsOnlyUptoSaid : Prop := textsOnlyUptoRow.holds Tryd.pinned (OpenSpec.upto textsOnlySpec)

/-- 'tithebarnlaw05.TextsSame', WHERE WHAT IT READS IS OF BULK AT MOST 1048576: true; the input reads as it did. -/
def textsSameUptoRow : OpenClaim := { program := "ytkgmildbhelelaadoor", sum := "9fcc1a0efb11e3bde09ba02eafcd27fad8d94f4f4f8670db70c18e1973295ca6", func := "tithebarn/tithebarnlaw05.TextsSame", spec := "textsSame", unfollowed := true, recurses := true, named := ["tithebarn/tally.sizes", "tithebarn/tally.smallest"], apart := false, laid := [("tithebarn/tally.smallest", laid_tithebarn_tally_smallest), ("tithebarn/tally.sizes", laid_tithebarn_tally_sizes)], narrowed := true }
def TextsSameUptoSaid : Prop := textsSameUptoRow.holds Tryd.pinned (OpenSpec.upto textsSameSpec)

end Rows
end Go.Proofs.YtkgmildbhelelaaDoor
