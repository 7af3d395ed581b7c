/-
  DERIVED. GIVEN WITH THE SEED: THE CARDS: each row of YtbelkhkllneifaaGreatDoorRows.lean that lists a variable, with what it lists TIED to the program's text (the seventh form; the later family's looks); each row that meets fmt, with fmt's text TOLD by the authors' own Lean function (tested against real Go, not proved from fmt's source: count such statements apart). THE CARD IS WHAT COUNTS. Prove the row's statement (the work); the ties are given (YtbelkhkllneifaaGreatDoorTie.lean); close each card by the builder's one call (the guide's Derived/Test/ToyasCard.lean, 'card_holds'). Laid BY PROGRAM, IN A SANDBOX (cutbox-door.mjs). By AI agents, Wed Nov 11 2026. No macro, syntax, notation, axiom, sorry.
-/
import Derived.Test.YtbelkhkllneifaaGreatDoorRows
import GoSem.ClaimSeven
namespace Go.Proofs.YtbelkhkllneifaaGreatDoor
namespace Rows

/-- THE TIED CARD OF 'tithebarnlaw13.RunWrites'. -/
def runWritesCard : Claim7 := { stood := { row := runWritesRow, standIns := [], harness := (true, "491c6eb99ce33efd2c1c74ec97b82f4b2df1ac520dc68c668e789c99a4b28dcb"), looks := false }, kinds := [], alts := [], laidByText := true, laidKinds := [.data, .data], laidTests := true, laidLooks := .later }
def RunWritesCardSaid : Prop := Claim7.holds Tryz.pinned (.plain (OpenSpec.ofChange runWritesSpec)) runWritesCard

/-- THE TIED CARD OF 'tithebarnlaw13.RunBack'. -/
def runBackCard : Claim7 := { stood := { row := runBackRow, standIns := [], harness := (true, "491c6eb99ce33efd2c1c74ec97b82f4b2df1ac520dc68c668e789c99a4b28dcb"), looks := false }, kinds := [], alts := [], laidByText := true, laidKinds := [.data, .data], laidTests := true, laidLooks := .later }
def RunBackCardSaid : Prop := Claim7.holds Tryz.pinned (.plain (OpenSpec.ofChange runBackSpec)) runBackCard

/-- THE TIED CARD OF 'tithebarnlaw13.RunGets'. -/
def runGetsCard : Claim7 := { stood := { row := runGetsRow, standIns := [], harness := (true, "491c6eb99ce33efd2c1c74ec97b82f4b2df1ac520dc68c668e789c99a4b28dcb"), looks := false }, kinds := [], alts := [], laidByText := true, laidKinds := [.data, .data], laidTests := true, laidLooks := .later }
def RunGetsCardSaid : Prop := Claim7.holds Tryz.pinned (.plain (OpenSpec.ofChange runGetsSpec)) runGetsCard

/-- THE TIED CARD OF 'tithebarnlaw13.RunMatches'. -/
def runMatchesCard : Claim7 := { stood := { row := runMatchesRow, standIns := [], harness := (true, "491c6eb99ce33efd2c1c74ec97b82f4b2df1ac520dc68c668e789c99a4b28dcb"), looks := false }, kinds := [], alts := [], laidByText := true, laidKinds := [.data, .data], laidTests := true, laidLooks := .later }
def RunMatchesCardSaid : Prop := Claim7.holds Tryz.pinned (.plain (OpenSpec.ofChange runMatchesSpec)) runMatchesCard

/-- THE TIED CARD OF 'tithebarnlaw13.RunZones'. -/
def runZonesCard : Claim7 := { stood := { row := runZonesRow, standIns := [], harness := (true, "491c6eb99ce33efd2c1c74ec97b82f4b2df1ac520dc68c668e789c99a4b28dcb"), looks := false }, kinds := [], alts := [], laidByText := true, laidKinds := [.data, .data], laidTests := true, laidLooks := .later }
def RunZonesCardSaid : Prop := Claim7.holds Tryz.pinned (.plain (OpenSpec.ofChange runZonesSpec)) runZonesCard

/-- THE TIED CARD OF 'tithebarnlaw13.RunSplits'. -/
def runSplitsCard : Claim7 := { stood := { row := runSplitsRow, standIns := [], harness := (true, "491c6eb99ce33efd2c1c74ec97b82f4b2df1ac520dc68c668e789c99a4b28dcb"), looks := false }, kinds := [], alts := [], laidByText := true, laidKinds := [.data, .data], laidTests := true, laidLooks := .later }
def RunSplitsCardSaid : Prop := Claim7.holds Tryz.pinned (.plain (OpenSpec.ofChange runSplitsSpec)) runSplitsCard

/-- THE SECOND FORM's CARD OF 'tithebarnlaw13.RunWrites'. -/
def runWritesUptoCard : Claim7 := { stood := { row := runWritesUptoRow, standIns := [], harness := (true, "491c6eb99ce33efd2c1c74ec97b82f4b2df1ac520dc68c668e789c99a4b28dcb"), looks := false }, kinds := [], alts := [], laidByText := true, laidKinds := [.data, .data], laidTests := true, laidLooks := .later }
def RunWritesUptoCardSaid : Prop := Claim7.holds Tryz.pinned (.plain (OpenSpec.upto runWritesSpec)) runWritesUptoCard

/-- THE SECOND FORM's CARD OF 'tithebarnlaw13.RunBack'. -/
def runBackUptoCard : Claim7 := { stood := { row := runBackUptoRow, standIns := [], harness := (true, "491c6eb99ce33efd2c1c74ec97b82f4b2df1ac520dc68c668e789c99a4b28dcb"), looks := false }, kinds := [], alts := [], laidByText := true, laidKinds := [.data, .data], laidTests := true, laidLooks := .later }
def RunBackUptoCardSaid : Prop := Claim7.holds Tryz.pinned (.plain (OpenSpec.upto runBackSpec)) runBackUptoCard

/-- THE SECOND FORM's CARD OF 'tithebarnlaw13.RunGets'. -/
def runGetsUptoCard : Claim7 := { stood := { row := runGetsUptoRow, standIns := [], harness := (true, "491c6eb99ce33efd2c1c74ec97b82f4b2df1ac520dc68c668e789c99a4b28dcb"), looks := false }, kinds := [], alts := [], laidByText := true, laidKinds := [.data, .data], laidTests := true, laidLooks := .later }
def RunGetsUptoCardSaid : Prop := Claim7.holds Tryz.pinned (.plain (OpenSpec.upto runGetsSpec)) runGetsUptoCard

/-- THE SECOND FORM's CARD OF 'tithebarnlaw13.RunMatches'. -/
def runMatchesUptoCard : Claim7 := { stood := { row := runMatchesUptoRow, standIns := [], harness := (true, "491c6eb99ce33efd2c1c74ec97b82f4b2df1ac520dc68c668e789c99a4b28dcb"), looks := false }, kinds := [], alts := [], laidByText := true, laidKinds := [.data, .data], laidTests := true, laidLooks := .later }
def RunMatchesUptoCardSaid : Prop := Claim7.holds Tryz.pinned (.plain (OpenSpec.upto runMatchesSpec)) runMatchesUptoCard

/-- THE SECOND FORM's CARD OF 'tithebarnlaw13.RunZones'. -/
def runZonesUptoCard : Claim7 := { stood := { row := runZonesUptoRow, standIns := [], harness := (true, "491c6eb99ce33efd2c1c74ec97b82f4b2df1ac520dc68c668e789c99a4b28dcb"), looks := false }, kinds := [], alts := [], laidByText := true, laidKinds := [.data, .data], laidTests := true, laidLooks := .later }
def RunZonesUptoCardSaid : Prop := Claim7.holds Tryz.pinned (.plain (OpenSpec.upto runZonesSpec)) runZonesUptoCard

/-- THE SECOND FORM's CARD OF 'tithebarnlaw13.RunSplits'. -/
def runSplitsUptoCard : Claim7 := { stood := { row := runSplitsUptoRow, standIns := [], harness := (true, "491c6eb99ce33efd2c1c74ec97b82f4b2df1ac520dc68c668e789c99a4b28dcb"), looks := false }, kinds := [], alts := [], laidByText := true, laidKinds := [.data, .data], laidTests := true, laidLooks := .later }
def RunSplitsUptoCardSaid : Prop := Claim7.holds Tryz.pinned (.plain (OpenSpec.upto runSplitsSpec)) runSplitsUptoCard
end Rows
end Go.Proofs.YtbelkhkllneifaaGreatDoor
