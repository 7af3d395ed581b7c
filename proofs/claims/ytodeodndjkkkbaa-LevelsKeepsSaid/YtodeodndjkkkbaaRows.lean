/-
  No cell of these rows narrows 'for every input' (looked for: loops, veiled, ifaces, maps, wideKeys, modest, calm, conditions, laid).
  DERIVED. THE GIVEN ROWS OF THIS SEAT. 10 by the template 'for every input the law returns true; each argument reads behind the call as it read before'; 0 by the template 'total and deterministic' (their statements: YtodeodndjkkkbaaTotals.lean).
  GIVEN WITH THE SEED: the statements are not yours to turn. If you find one false, say at which input.
  Laid BY PROGRAM, IN A SANDBOX (cutbox-rows.mjs): the forced cells as the released guide's own fill.sh prints them over the translation 44b59a4ad983da21… (all of the seat's roots in one cut). By AI agents, Wed Nov 11 2026. No macro, syntax, notation, axiom, sorry.
-/
import Derived.Test.YtodeodndjkkkbaaChecked
import GoSem.Claim
import GoSem.ClaimJoined
import GoSem.ClaimMapViews
import Derived.JoinedTies
import Derived.KernelRfl
namespace Go.Proofs.Ytodeodndjkkkbaa
/- THE CELL 'sum', in the pinned program and in every row, IS THE sha256 OF THE DUMP (.gsa) THAT YtodeodndjkkkbaaProg.lean LOADS. Nothing in Lean hashes anything: it is a label: what it is worth is what the hold of that sum in a sandbox is worth. -/
noncomputable def Try.pinned : Pinned := { name := "ytodeodndjkkkbaa", sum := "44b59a4ad983da214c49e782a16496b09c93b66779a852570afc6ee34cdea597", checked := Try.checked }
namespace Rows
def none {H : Type} : Left H := { results := [], args := [] }

/-- 'tithebarnlaw17.LevelsPick': WHATEVER THE INPUT: true; the input reads as it did. -/
def levelsPickSpec : ChangeSpec := { name := "levelsPick", fn := fun _ => fun
  | [d] => { results := [.lit (.bool true)], args := [d] }
  | _ => none }
def levelsPickRow : OpenClaim := { program := "ytodeodndjkkkbaa", sum := "44b59a4ad983da214c49e782a16496b09c93b66779a852570afc6ee34cdea597", func := "tithebarn/tithebarnlaw17.LevelsPick", spec := "levelsPick", unfollowed := true, recurses := true, apart := false }
def LevelsPickSaid : Prop := levelsPickRow.holds Try.pinned (OpenSpec.ofChange levelsPickSpec)

/-- ITS FALSE NEIGHBOUR: 'it returns false'. Refute it at one input. -/
def levelsPickWrong : ChangeSpec := { name := "levelsPick", fn := fun _ => fun
  | [d] => { results := [.lit (.bool false)], args := [d] }
  | _ => none }
def LevelsPickWrongFalsely : Prop := levelsPickRow.holds Try.pinned (OpenSpec.ofChange levelsPickWrong)

/-- 'tithebarnlaw17.LevelsNames': WHATEVER THE INPUT: true; the input reads as it did. -/
def levelsNamesSpec : ChangeSpec := { name := "levelsNames", fn := fun _ => fun
  | [d] => { results := [.lit (.bool true)], args := [d] }
  | _ => none }
def levelsNamesRow : OpenClaim := { program := "ytodeodndjkkkbaa", sum := "44b59a4ad983da214c49e782a16496b09c93b66779a852570afc6ee34cdea597", func := "tithebarn/tithebarnlaw17.LevelsNames", spec := "levelsNames", unfollowed := true, recurses := true, apart := false }
def LevelsNamesSaid : Prop := levelsNamesRow.holds Try.pinned (OpenSpec.ofChange levelsNamesSpec)

/-- ITS FALSE NEIGHBOUR: 'it returns false'. Refute it at one input. -/
def levelsNamesWrong : ChangeSpec := { name := "levelsNames", fn := fun _ => fun
  | [d] => { results := [.lit (.bool false)], args := [d] }
  | _ => none }
def LevelsNamesWrongFalsely : Prop := levelsNamesRow.holds Try.pinned (OpenSpec.ofChange levelsNamesWrong)

/-- 'tithebarnlaw17.LevelsKeeps': WHATEVER THE INPUT: true; the input reads as it did. -/
def levelsKeepsSpec : ChangeSpec := { name := "levelsKeeps", fn := fun _ => fun
  | [d] => { results := [.lit (.bool true)], args := [d] }
  | _ => none }
def levelsKeepsRow : OpenClaim := { program := "ytodeodndjkkkbaa", sum := "44b59a4ad983da214c49e782a16496b09c93b66779a852570afc6ee34cdea597", func := "tithebarn/tithebarnlaw17.LevelsKeeps", spec := "levelsKeeps", unfollowed := true, recurses := true, apart := false }
def LevelsKeepsSaid : Prop := levelsKeepsRow.holds Try.pinned (OpenSpec.ofChange levelsKeepsSpec)

/-- ITS FALSE NEIGHBOUR: 'it returns false'. Refute it at one input. -/
def levelsKeepsWrong : ChangeSpec := { name := "levelsKeeps", fn := fun _ => fun
  | [d] => { results := [.lit (.bool false)], args := [d] }
  | _ => none }
def LevelsKeepsWrongFalsely : Prop := levelsKeepsRow.holds Try.pinned (OpenSpec.ofChange levelsKeepsWrong)

/-- 'tithebarnlaw17.LevelsOrder': WHATEVER THE INPUT: true; the input reads as it did. -/
def levelsOrderSpec : ChangeSpec := { name := "levelsOrder", fn := fun _ => fun
  | [d] => { results := [.lit (.bool true)], args := [d] }
  | _ => none }
def levelsOrderRow : OpenClaim := { program := "ytodeodndjkkkbaa", sum := "44b59a4ad983da214c49e782a16496b09c93b66779a852570afc6ee34cdea597", func := "tithebarn/tithebarnlaw17.LevelsOrder", spec := "levelsOrder", unfollowed := true, recurses := true, apart := false }
def LevelsOrderSaid : Prop := levelsOrderRow.holds Try.pinned (OpenSpec.ofChange levelsOrderSpec)

/-- ITS FALSE NEIGHBOUR: 'it returns false'. Refute it at one input. -/
def levelsOrderWrong : ChangeSpec := { name := "levelsOrder", fn := fun _ => fun
  | [d] => { results := [.lit (.bool false)], args := [d] }
  | _ => none }
def LevelsOrderWrongFalsely : Prop := levelsOrderRow.holds Try.pinned (OpenSpec.ofChange levelsOrderWrong)

/-- 'tithebarnlaw17.LevelsFew': WHATEVER THE INPUT: true; the input reads as it did. -/
def levelsFewSpec : ChangeSpec := { name := "levelsFew", fn := fun _ => fun
  | [d] => { results := [.lit (.bool true)], args := [d] }
  | _ => none }
def levelsFewRow : OpenClaim := { program := "ytodeodndjkkkbaa", sum := "44b59a4ad983da214c49e782a16496b09c93b66779a852570afc6ee34cdea597", func := "tithebarn/tithebarnlaw17.LevelsFew", spec := "levelsFew", unfollowed := true, recurses := true, apart := false }
def LevelsFewSaid : Prop := levelsFewRow.holds Try.pinned (OpenSpec.ofChange levelsFewSpec)

/-- ITS FALSE NEIGHBOUR: 'it returns false'. Refute it at one input. -/
def levelsFewWrong : ChangeSpec := { name := "levelsFew", fn := fun _ => fun
  | [d] => { results := [.lit (.bool false)], args := [d] }
  | _ => none }
def LevelsFewWrongFalsely : Prop := levelsFewRow.holds Try.pinned (OpenSpec.ofChange levelsFewWrong)

/-- 'tithebarnlaw18.SumsProject': WHATEVER THE INPUT: true; the input reads as it did. -/
def sumsProjectSpec : ChangeSpec := { name := "sumsProject", fn := fun _ => fun
  | [d1, d2] => { results := [.lit (.bool true)], args := [d1, d2] }
  | _ => none }
def sumsProjectRow : OpenClaim := { program := "ytodeodndjkkkbaa", sum := "44b59a4ad983da214c49e782a16496b09c93b66779a852570afc6ee34cdea597", func := "tithebarn/tithebarnlaw18.SumsProject", spec := "sumsProject", apart := false }
def SumsProjectSaid : Prop := sumsProjectRow.holds Try.pinned (OpenSpec.ofChange sumsProjectSpec)

/-- ITS FALSE NEIGHBOUR: 'it returns false'. Refute it at one input. -/
def sumsProjectWrong : ChangeSpec := { name := "sumsProject", fn := fun _ => fun
  | [d1, d2] => { results := [.lit (.bool false)], args := [d1, d2] }
  | _ => none }
def SumsProjectWrongFalsely : Prop := sumsProjectRow.holds Try.pinned (OpenSpec.ofChange sumsProjectWrong)

/-- 'tithebarnlaw18.SumsJoin': WHATEVER THE INPUT: true; the input reads as it did. -/
def sumsJoinSpec : ChangeSpec := { name := "sumsJoin", fn := fun _ => fun
  | [d1, d2, d3] => { results := [.lit (.bool true)], args := [d1, d2, d3] }
  | _ => none }
def sumsJoinRow : OpenClaim := { program := "ytodeodndjkkkbaa", sum := "44b59a4ad983da214c49e782a16496b09c93b66779a852570afc6ee34cdea597", func := "tithebarn/tithebarnlaw18.SumsJoin", spec := "sumsJoin", apart := false }
def SumsJoinSaid : Prop := sumsJoinRow.holds Try.pinned (OpenSpec.ofChange sumsJoinSpec)

/-- ITS FALSE NEIGHBOUR: 'it returns false'. Refute it at one input. -/
def sumsJoinWrong : ChangeSpec := { name := "sumsJoin", fn := fun _ => fun
  | [d1, d2, d3] => { results := [.lit (.bool false)], args := [d1, d2, d3] }
  | _ => none }
def SumsJoinWrongFalsely : Prop := sumsJoinRow.holds Try.pinned (OpenSpec.ofChange sumsJoinWrong)

/-- 'tithebarnlaw18.SumsOrder': WHATEVER THE INPUT: true; the input reads as it did. -/
def sumsOrderSpec : ChangeSpec := { name := "sumsOrder", fn := fun _ => fun
  | [d1, d2, d3] => { results := [.lit (.bool true)], args := [d1, d2, d3] }
  | _ => none }
def sumsOrderRow : OpenClaim := { program := "ytodeodndjkkkbaa", sum := "44b59a4ad983da214c49e782a16496b09c93b66779a852570afc6ee34cdea597", func := "tithebarn/tithebarnlaw18.SumsOrder", spec := "sumsOrder", apart := false }
def SumsOrderSaid : Prop := sumsOrderRow.holds Try.pinned (OpenSpec.ofChange sumsOrderSpec)

/-- ITS FALSE NEIGHBOUR: 'it returns false'. Refute it at one input. -/
def sumsOrderWrong : ChangeSpec := { name := "sumsOrder", fn := fun _ => fun
  | [d1, d2, d3] => { results := [.lit (.bool false)], args := [d1, d2, d3] }
  | _ => none }
def SumsOrderWrongFalsely : Prop := sumsOrderRow.holds Try.pinned (OpenSpec.ofChange sumsOrderWrong)

/-- 'tithebarnlaw18.SumsBounds': WHATEVER THE INPUT: true; the input reads as it did. -/
def sumsBoundsSpec : ChangeSpec := { name := "sumsBounds", fn := fun _ => fun
  | [d1, d2] => { results := [.lit (.bool true)], args := [d1, d2] }
  | _ => none }
def sumsBoundsRow : OpenClaim := { program := "ytodeodndjkkkbaa", sum := "44b59a4ad983da214c49e782a16496b09c93b66779a852570afc6ee34cdea597", func := "tithebarn/tithebarnlaw18.SumsBounds", spec := "sumsBounds", apart := false }
def SumsBoundsSaid : Prop := sumsBoundsRow.holds Try.pinned (OpenSpec.ofChange sumsBoundsSpec)

/-- ITS FALSE NEIGHBOUR: 'it returns false'. Refute it at one input. -/
def sumsBoundsWrong : ChangeSpec := { name := "sumsBounds", fn := fun _ => fun
  | [d1, d2] => { results := [.lit (.bool false)], args := [d1, d2] }
  | _ => none }
def SumsBoundsWrongFalsely : Prop := sumsBoundsRow.holds Try.pinned (OpenSpec.ofChange sumsBoundsWrong)

/-- 'tithebarnlaw18.SumsShift': WHATEVER THE INPUT: true; the input reads as it did. -/
def sumsShiftSpec : ChangeSpec := { name := "sumsShift", fn := fun _ => fun
  | [d1, d2, d3] => { results := [.lit (.bool true)], args := [d1, d2, d3] }
  | _ => none }
def sumsShiftRow : OpenClaim := { program := "ytodeodndjkkkbaa", sum := "44b59a4ad983da214c49e782a16496b09c93b66779a852570afc6ee34cdea597", func := "tithebarn/tithebarnlaw18.SumsShift", spec := "sumsShift", apart := false }
def SumsShiftSaid : Prop := sumsShiftRow.holds Try.pinned (OpenSpec.ofChange sumsShiftSpec)

/-- ITS FALSE NEIGHBOUR: 'it returns false'. Refute it at one input. -/
def sumsShiftWrong : ChangeSpec := { name := "sumsShift", fn := fun _ => fun
  | [d1, d2, d3] => { results := [.lit (.bool false)], args := [d1, d2, d3] }
  | _ => none }
def SumsShiftWrongFalsely : Prop := sumsShiftRow.holds Try.pinned (OpenSpec.ofChange sumsShiftWrong)

/- THE SECOND FORM. 'bulk': how many values and letters a reading holds, each counted each time it is reached (what is shared counts as often as it is met; a slice's spare places count too). A statement '..UptoSaid' is the law's where the arguments, and the package variables that the reading takes, are together of bulk at most 1048576: NARROWER than '..Said'. Prove '..Said' where nothing that the law and all that it calls make is longer than what came in: it says more and counts as full. Else prove '..UptoSaid'. A law counts once. -/
mutual
def uptoBulk {H : Type} : DataW H → Nat
  | .lit (.string bytes) => bytes.length + 1
  | .lit _ => 1
  | .nil => 1
  | .ptr d => uptoBulk d + 1
  | .slice elems spare => uptoBulkAll elems + uptoBulkAll spare + 1
  | .agg parts => uptoBulkAll parts + 1
  | .iface _ d => uptoBulk d + 1
  | .map entries => uptoBulkEntries entries + 1
  | .held _ => 1
def uptoBulkAll {H : Type} : List (DataW H) → Nat
  | [] => 0
  | d :: r => uptoBulk d + uptoBulkAll r
def uptoBulkEntries {H : Type} : List (Lit × DataW H) → Nat
  | [] => 0
  | x :: r => uptoBulkEntry x + uptoBulkEntries r
def uptoBulkEntry {H : Type} : Lit × DataW H → Nat
  | (.string bytes, d) => bytes.length + uptoBulk d + 1
  | (_, d) => uptoBulk d + 1
 end
def uptoSmall : (H : Type) → List (DataW H) → Bool := fun _ ds => decide (uptoBulkAll ds ≤ 1048576)
def OpenSpec.upto (s : _root_.Go.ChangeSpec) : _root_.Go.OpenSpec := { _root_.Go.OpenSpec.ofChange s with cond := some uptoSmall }

/-- 'tithebarnlaw17.LevelsPick', WHERE WHAT IT READS IS OF BULK AT MOST 1048576: true; the input reads as it did. -/
def levelsPickUptoRow : OpenClaim := { program := "ytodeodndjkkkbaa", sum := "44b59a4ad983da214c49e782a16496b09c93b66779a852570afc6ee34cdea597", func := "tithebarn/tithebarnlaw17.LevelsPick", spec := "levelsPick", unfollowed := true, recurses := true, apart := false, narrowed := true }
def LevelsPickUptoSaid : Prop := levelsPickUptoRow.holds Try.pinned (OpenSpec.upto levelsPickSpec)

/-- 'tithebarnlaw17.LevelsNames', WHERE WHAT IT READS IS OF BULK AT MOST 1048576: true; the input reads as it did. -/
def levelsNamesUptoRow : OpenClaim := { program := "ytodeodndjkkkbaa", sum := "44b59a4ad983da214c49e782a16496b09c93b66779a852570afc6ee34cdea597", func := "tithebarn/tithebarnlaw17.LevelsNames", spec := "levelsNames", unfollowed := true, recurses := true, apart := false, narrowed := true }
def LevelsNamesUptoSaid : Prop := levelsNamesUptoRow.holds Try.pinned (OpenSpec.upto levelsNamesSpec)

/-- 'tithebarnlaw17.LevelsKeeps', WHERE WHAT IT READS IS OF BULK AT MOST 1048576: true; the input reads as it did. -/
def levelsKeepsUptoRow : OpenClaim := { program := "ytodeodndjkkkbaa", sum := "44b59a4ad983da214c49e782a16496b09c93b66779a852570afc6ee34cdea597", func := "tithebarn/tithebarnlaw17.LevelsKeeps", spec := "levelsKeeps", unfollowed := true, recurses := true, apart := false, narrowed := true }
def LevelsKeepsUptoSaid : Prop := levelsKeepsUptoRow.holds Try.pinned (OpenSpec.upto levelsKeepsSpec)

/-- 'tithebarnlaw17.LevelsOrder', WHERE WHAT IT READS IS OF BULK AT MOST 1048576: true; the input reads as it did. -/
def levelsOrderUptoRow : OpenClaim := { program := "ytodeodndjkkkbaa", sum := "44b59a4ad983da214c49e782a16496b09c93b66779a852570afc6ee34cdea597", func := "tithebarn/tithebarnlaw17.LevelsOrder", spec := "levelsOrder", unfollowed := true, recurses := true, apart := false, narrowed := true }
def LevelsOrderUptoSaid : Prop := levelsOrderUptoRow.holds Try.pinned (OpenSpec.upto levelsOrderSpec)

/-- 'tithebarnlaw17.LevelsFew', WHERE WHAT IT READS IS OF BULK AT MOST 1048576: true; the input reads as it did. -/
def levelsFewUptoRow : OpenClaim := { program := "ytodeodndjkkkbaa", sum := "44b59a4ad983da214c49e782a16496b09c93b66779a852570afc6ee34cdea597", func := "tithebarn/tithebarnlaw17.LevelsFew", spec := "levelsFew", unfollowed := true, recurses := true, apart := false, narrowed := true }
def LevelsFewUptoSaid : Prop := levelsFewUptoRow.holds Try.pinned (OpenSpec.upto levelsFewSpec)

/-- 'tithebarnlaw18.SumsProject', WHERE WHAT IT READS IS OF BULK AT MOST 1048576: true; the input reads as it did. -/
def sumsProjectUptoRow : OpenClaim := { program := "ytodeodndjkkkbaa", sum := "44b59a4ad983da214c49e782a16496b09c93b66779a852570afc6ee34cdea597", func := "tithebarn/tithebarnlaw18.SumsProject", spec := "sumsProject", apart := false, narrowed := true }
def SumsProjectUptoSaid : Prop := sumsProjectUptoRow.holds Try.pinned (OpenSpec.upto sumsProjectSpec)

/-- 'tithebarnlaw18.SumsJoin', WHERE WHAT IT READS IS OF BULK AT MOST 1048576: true; the input reads as it did. -/
def sumsJoinUptoRow : OpenClaim := { program := "ytodeodndjkkkbaa", sum := "44b59a4ad983da214c49e782a16496b09c93b66779a852570afc6ee34cdea597", func := "tithebarn/tithebarnlaw18.SumsJoin", spec := "sumsJoin", apart := false, narrowed := true }
def SumsJoinUptoSaid : Prop := sumsJoinUptoRow.holds Try.pinned (OpenSpec.upto sumsJoinSpec)

/-- 'tithebarnlaw18.SumsOrder', WHERE WHAT IT READS IS OF BULK AT MOST 1048576: true; the input reads as it did. -/
def sumsOrderUptoRow : OpenClaim := { program := "ytodeodndjkkkbaa", sum := "44b59a4ad983da214c49e782a16496b09c93b66779a852570afc6ee34cdea597", func := "tithebarn/tithebarnlaw18.SumsOrder", spec := "sumsOrder", apart := false, narrowed := true }
def SumsOrderUptoSaid : Prop := sumsOrderUptoRow.holds Try.pinned (OpenSpec.upto sumsOrderSpec)

/-- 'tithebarnlaw18.SumsBounds', WHERE WHAT IT READS IS OF BULK AT MOST 1048576: true; the input reads as it did. -/
def sumsBoundsUptoRow : OpenClaim := { program := "ytodeodndjkkkbaa", sum := "44b59a4ad983da214c49e782a16496b09c93b66779a852570afc6ee34cdea597", func := "tithebarn/tithebarnlaw18.SumsBounds", spec := "sumsBounds", apart := false, narrowed := true }
def SumsBoundsUptoSaid : Prop := sumsBoundsUptoRow.holds Try.pinned (OpenSpec.upto sumsBoundsSpec)

/-- 'tithebarnlaw18.SumsShift', WHERE WHAT IT READS IS OF BULK AT MOST 1048576: true; the input reads as it did. -/
def sumsShiftUptoRow : OpenClaim := { program := "ytodeodndjkkkbaa", sum := "44b59a4ad983da214c49e782a16496b09c93b66779a852570afc6ee34cdea597", func := "tithebarn/tithebarnlaw18.SumsShift", spec := "sumsShift", apart := false, narrowed := true }
def SumsShiftUptoSaid : Prop := sumsShiftUptoRow.holds Try.pinned (OpenSpec.upto sumsShiftSpec)

end Rows
end Go.Proofs.Ytodeodndjkkkbaa
