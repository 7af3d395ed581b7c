/-
  DERIVED. GIVEN WITH THE SEED: THE CARDS: each row of YtccjfmjgkkpndaaDoorRows.lean that lists a variable, with what it lists TIED to the program's text (the seventh form; the later family's looks); each row that meets fmt, with fmt's text TOLD by the authors' own Lean function (tested against real Go, not proved from fmt's source: count such statements apart). THE CARD IS WHAT COUNTS. Prove the row's statement (the work); the ties are given (YtccjfmjgkkpndaaDoorTie.lean); close each card by the builder's one call (the guide's Derived/Test/ToyasCard.lean, 'card_holds'). Laid BY PROGRAM, IN A SANDBOX (cutbox-door.mjs). By AI agents, Wed Nov 11 2026. No macro, syntax, notation, axiom, sorry.
-/
import Derived.Test.YtccjfmjgkkpndaaDoorRows
import GoSem.ClaimSeven
namespace Go.Proofs.YtccjfmjgkkpndaaDoor
namespace Rows

/-- THE TIED CARD OF 'tithebarnlaw07.DeedsWrite'. -/
def deedsWriteCard : Claim7 := { stood := { row := deedsWriteRow, standIns := [], harness := (true, "8eaa4b728f397106572bfc8b0735e7702c94cb6844d26c791df89c06d92c3252"), looks := false }, kinds := [], alts := [], laidByText := true, laidKinds := [.data, .data], laidTests := true, laidLooks := .later }
def DeedsWriteCardSaid : Prop := Claim7.holds Tryd.pinned (.plain (OpenSpec.ofChange deedsWriteSpec)) deedsWriteCard

/-- THE TIED CARD OF 'tithebarnlaw07.DeedsRead'. -/
def deedsReadCard : Claim7 := { stood := { row := deedsReadRow, standIns := [], harness := (true, "8eaa4b728f397106572bfc8b0735e7702c94cb6844d26c791df89c06d92c3252"), looks := false }, kinds := [], alts := [], laidByText := true, laidKinds := [.data, .data], laidTests := true, laidLooks := .later }
def DeedsReadCardSaid : Prop := Claim7.holds Tryd.pinned (.plain (OpenSpec.ofChange deedsReadSpec)) deedsReadCard

/-- THE TIED CARD OF 'tithebarnlaw07.DeedsBack'. -/
def deedsBackCard : Claim7 := { stood := { row := deedsBackRow, standIns := [], harness := (true, "8eaa4b728f397106572bfc8b0735e7702c94cb6844d26c791df89c06d92c3252"), looks := false }, kinds := [], alts := [], laidByText := true, laidKinds := [.data, .data], laidTests := true, laidLooks := .later }
def DeedsBackCardSaid : Prop := Claim7.holds Tryd.pinned (.plain (OpenSpec.ofChange deedsBackSpec)) deedsBackCard

/-- THE TIED CARD OF 'tithebarnlaw07.DeedsOnly'. -/
def deedsOnlyCard : Claim7 := { stood := { row := deedsOnlyRow, standIns := [], harness := (true, "8eaa4b728f397106572bfc8b0735e7702c94cb6844d26c791df89c06d92c3252"), looks := false }, kinds := [], alts := [], laidByText := true, laidKinds := [.data, .data], laidTests := true, laidLooks := .later }
def DeedsOnlyCardSaid : Prop := Claim7.holds Tryd.pinned (.plain (OpenSpec.ofChange deedsOnlySpec)) deedsOnlyCard

/-- THE TIED CARD OF 'tithebarnlaw07.DeedsSame'. -/
def deedsSameCard : Claim7 := { stood := { row := deedsSameRow, standIns := [], harness := (true, "8eaa4b728f397106572bfc8b0735e7702c94cb6844d26c791df89c06d92c3252"), looks := false }, kinds := [], alts := [], laidByText := true, laidKinds := [.data, .data], laidTests := true, laidLooks := .later }
def DeedsSameCardSaid : Prop := Claim7.holds Tryd.pinned (.plain (OpenSpec.ofChange deedsSameSpec)) deedsSameCard

/-- THE TIED CARD OF 'tithebarnlaw07.DeedsCols'. -/
def deedsColsCard : Claim7 := { stood := { row := deedsColsRow, standIns := [], harness := (true, "8eaa4b728f397106572bfc8b0735e7702c94cb6844d26c791df89c06d92c3252"), looks := false }, kinds := [], alts := [], laidByText := true, laidKinds := [.data, .data], laidTests := true, laidLooks := .later }
def DeedsColsCardSaid : Prop := Claim7.holds Tryd.pinned (.plain (OpenSpec.ofChange deedsColsSpec)) deedsColsCard

/-- THE SECOND FORM's CARD OF 'tithebarnlaw07.DeedsWrite'. -/
def deedsWriteUptoCard : Claim7 := { stood := { row := deedsWriteUptoRow, standIns := [], harness := (true, "8eaa4b728f397106572bfc8b0735e7702c94cb6844d26c791df89c06d92c3252"), looks := false }, kinds := [], alts := [], laidByText := true, laidKinds := [.data, .data], laidTests := true, laidLooks := .later }
def DeedsWriteUptoCardSaid : Prop := Claim7.holds Tryd.pinned (.plain (OpenSpec.upto deedsWriteSpec)) deedsWriteUptoCard

/-- THE SECOND FORM's CARD OF 'tithebarnlaw07.DeedsRead'. -/
def deedsReadUptoCard : Claim7 := { stood := { row := deedsReadUptoRow, standIns := [], harness := (true, "8eaa4b728f397106572bfc8b0735e7702c94cb6844d26c791df89c06d92c3252"), looks := false }, kinds := [], alts := [], laidByText := true, laidKinds := [.data, .data], laidTests := true, laidLooks := .later }
def DeedsReadUptoCardSaid : Prop := Claim7.holds Tryd.pinned (.plain (OpenSpec.upto deedsReadSpec)) deedsReadUptoCard

/-- THE SECOND FORM's CARD OF 'tithebarnlaw07.DeedsBack'. -/
def deedsBackUptoCard : Claim7 := { stood := { row := deedsBackUptoRow, standIns := [], harness := (true, "8eaa4b728f397106572bfc8b0735e7702c94cb6844d26c791df89c06d92c3252"), looks := false }, kinds := [], alts := [], laidByText := true, laidKinds := [.data, .data], laidTests := true, laidLooks := .later }
def DeedsBackUptoCardSaid : Prop := Claim7.holds Tryd.pinned (.plain (OpenSpec.upto deedsBackSpec)) deedsBackUptoCard

/-- THE SECOND FORM's CARD OF 'tithebarnlaw07.DeedsOnly'. -/
def deedsOnlyUptoCard : Claim7 := { stood := { row := deedsOnlyUptoRow, standIns := [], harness := (true, "8eaa4b728f397106572bfc8b0735e7702c94cb6844d26c791df89c06d92c3252"), looks := false }, kinds := [], alts := [], laidByText := true, laidKinds := [.data, .data], laidTests := true, laidLooks := .later }
def DeedsOnlyUptoCardSaid : Prop := Claim7.holds Tryd.pinned (.plain (OpenSpec.upto deedsOnlySpec)) deedsOnlyUptoCard

/-- THE SECOND FORM's CARD OF 'tithebarnlaw07.DeedsSame'. -/
def deedsSameUptoCard : Claim7 := { stood := { row := deedsSameUptoRow, standIns := [], harness := (true, "8eaa4b728f397106572bfc8b0735e7702c94cb6844d26c791df89c06d92c3252"), looks := false }, kinds := [], alts := [], laidByText := true, laidKinds := [.data, .data], laidTests := true, laidLooks := .later }
def DeedsSameUptoCardSaid : Prop := Claim7.holds Tryd.pinned (.plain (OpenSpec.upto deedsSameSpec)) deedsSameUptoCard

/-- THE SECOND FORM's CARD OF 'tithebarnlaw07.DeedsCols'. -/
def deedsColsUptoCard : Claim7 := { stood := { row := deedsColsUptoRow, standIns := [], harness := (true, "8eaa4b728f397106572bfc8b0735e7702c94cb6844d26c791df89c06d92c3252"), looks := false }, kinds := [], alts := [], laidByText := true, laidKinds := [.data, .data], laidTests := true, laidLooks := .later }
def DeedsColsUptoCardSaid : Prop := Claim7.holds Tryd.pinned (.plain (OpenSpec.upto deedsColsSpec)) deedsColsUptoCard
end Rows
end Go.Proofs.YtccjfmjgkkpndaaDoor
