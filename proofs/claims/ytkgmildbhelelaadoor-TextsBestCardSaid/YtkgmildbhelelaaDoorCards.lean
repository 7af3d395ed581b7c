/-
  DERIVED. GIVEN WITH THE SEED: THE CARDS: each row of YtkgmildbhelelaaDoorRows.lean that lists a variable, with what it lists TIED to the program's text (the seventh form; the later family's looks); each row that meets fmt, with fmt's text TOLD by the authors' own Lean function (tested against real Go, not proved from fmt's source: count such statements apart). THE CARD IS WHAT COUNTS. Prove the row's statement (the work); the ties are given (YtkgmildbhelelaaDoorTie.lean); close each card by the builder's one call (the guide's Derived/Test/ToyasCard.lean, 'card_holds'). Laid BY PROGRAM, IN A SANDBOX (cutbox-door.mjs). By AI agents, Wed Nov 11 2026. No macro, syntax, notation, axiom, sorry.
-/
import Derived.Test.YtkgmildbhelelaaDoorRows
import GoSem.ClaimSeven
namespace Go.Proofs.YtkgmildbhelelaaDoor
namespace Rows

/-- THE TIED CARD OF 'tithebarnlaw04.IntsWith'. -/
def intsWithCard : Claim7 := { stood := { row := intsWithRow, standIns := [], harness := (true, "530f2fb453644a6e0a2a2b5de6c9a760f3057c86edf3c1f7bbb5aade31a766c2"), looks := false }, kinds := [], alts := [], laidByText := true, laidKinds := [.data, .data], laidTests := true, laidLooks := .later }
def IntsWithCardSaid : Prop := Claim7.holds Tryd.pinned (.plain (OpenSpec.ofChange intsWithSpec)) intsWithCard

/-- THE TIED CARD OF 'tithebarnlaw04.IntsBest'. -/
def intsBestCard : Claim7 := { stood := { row := intsBestRow, standIns := [], harness := (true, "530f2fb453644a6e0a2a2b5de6c9a760f3057c86edf3c1f7bbb5aade31a766c2"), looks := false }, kinds := [], alts := [], laidByText := true, laidKinds := [.data, .data], laidTests := true, laidLooks := .later }
def IntsBestCardSaid : Prop := Claim7.holds Tryd.pinned (.plain (OpenSpec.ofChange intsBestSpec)) intsBestCard

/-- THE TIED CARD OF 'tithebarnlaw04.IntsRead'. -/
def intsReadCard : Claim7 := { stood := { row := intsReadRow, standIns := [], harness := (true, "530f2fb453644a6e0a2a2b5de6c9a760f3057c86edf3c1f7bbb5aade31a766c2"), looks := false }, kinds := [], alts := [], laidByText := true, laidKinds := [.data, .data], laidTests := true, laidLooks := .later }
def IntsReadCardSaid : Prop := Claim7.holds Tryd.pinned (.plain (OpenSpec.ofChange intsReadSpec)) intsReadCard

/-- THE TIED CARD OF 'tithebarnlaw04.IntsBack'. -/
def intsBackCard : Claim7 := { stood := { row := intsBackRow, standIns := [], harness := (true, "530f2fb453644a6e0a2a2b5de6c9a760f3057c86edf3c1f7bbb5aade31a766c2"), looks := false }, kinds := [], alts := [], laidByText := true, laidKinds := [.data, .data], laidTests := true, laidLooks := .later }
def IntsBackCardSaid : Prop := Claim7.holds Tryd.pinned (.plain (OpenSpec.ofChange intsBackSpec)) intsBackCard

/-- THE TIED CARD OF 'tithebarnlaw04.IntsOnly'. -/
def intsOnlyCard : Claim7 := { stood := { row := intsOnlyRow, standIns := [], harness := (true, "530f2fb453644a6e0a2a2b5de6c9a760f3057c86edf3c1f7bbb5aade31a766c2"), looks := false }, kinds := [], alts := [], laidByText := true, laidKinds := [.data, .data], laidTests := true, laidLooks := .later }
def IntsOnlyCardSaid : Prop := Claim7.holds Tryd.pinned (.plain (OpenSpec.ofChange intsOnlySpec)) intsOnlyCard

/-- THE TIED CARD OF 'tithebarnlaw04.IntsSame'. -/
def intsSameCard : Claim7 := { stood := { row := intsSameRow, standIns := [], harness := (true, "530f2fb453644a6e0a2a2b5de6c9a760f3057c86edf3c1f7bbb5aade31a766c2"), looks := false }, kinds := [], alts := [], laidByText := true, laidKinds := [.data, .data], laidTests := true, laidLooks := .later }
def IntsSameCardSaid : Prop := Claim7.holds Tryd.pinned (.plain (OpenSpec.ofChange intsSameSpec)) intsSameCard

/-- THE TIED CARD OF 'tithebarnlaw05.TextsWith'. -/
def textsWithCard : Claim7 := { stood := { row := textsWithRow, standIns := [], harness := (true, "530f2fb453644a6e0a2a2b5de6c9a760f3057c86edf3c1f7bbb5aade31a766c2"), looks := false }, kinds := [], alts := [], laidByText := true, laidKinds := [.data, .data], laidTests := true, laidLooks := .later }
def TextsWithCardSaid : Prop := Claim7.holds Tryd.pinned (.plain (OpenSpec.ofChange textsWithSpec)) textsWithCard

/-- THE TIED CARD OF 'tithebarnlaw05.TextsBest'. -/
def textsBestCard : Claim7 := { stood := { row := textsBestRow, standIns := [], harness := (true, "530f2fb453644a6e0a2a2b5de6c9a760f3057c86edf3c1f7bbb5aade31a766c2"), looks := false }, kinds := [], alts := [], laidByText := true, laidKinds := [.data, .data], laidTests := true, laidLooks := .later }
def TextsBestCardSaid : Prop := Claim7.holds Tryd.pinned (.plain (OpenSpec.ofChange textsBestSpec)) textsBestCard

/-- THE TIED CARD OF 'tithebarnlaw05.TextsRead'. -/
def textsReadCard : Claim7 := { stood := { row := textsReadRow, standIns := [], harness := (true, "530f2fb453644a6e0a2a2b5de6c9a760f3057c86edf3c1f7bbb5aade31a766c2"), looks := false }, kinds := [], alts := [], laidByText := true, laidKinds := [.data, .data], laidTests := true, laidLooks := .later }
def TextsReadCardSaid : Prop := Claim7.holds Tryd.pinned (.plain (OpenSpec.ofChange textsReadSpec)) textsReadCard

/-- THE TIED CARD OF 'tithebarnlaw05.TextsBack'. -/
def textsBackCard : Claim7 := { stood := { row := textsBackRow, standIns := [], harness := (true, "530f2fb453644a6e0a2a2b5de6c9a760f3057c86edf3c1f7bbb5aade31a766c2"), looks := false }, kinds := [], alts := [], laidByText := true, laidKinds := [.data, .data], laidTests := true, laidLooks := .later }
def TextsBackCardSaid : Prop := Claim7.holds Tryd.pinned (.plain (OpenSpec.ofChange textsBackSpec)) textsBackCard

/-- THE TIED CARD OF 'tithebarnlaw05.TextsOnly'. -/
def textsOnlyCard : Claim7 := { stood := { row := textsOnlyRow, standIns := [], harness := (true, "530f2fb453644a6e0a2a2b5de6c9a760f3057c86edf3c1f7bbb5aade31a766c2"), looks := false }, kinds := [], alts := [], laidByText := true, laidKinds := [.data, .data], laidTests := true, laidLooks := .later }
def TextsOnlyCardSaid : Prop := Claim7.holds Tryd.pinned (.plain (OpenSpec.ofChange textsOnlySpec)) textsOnlyCard

/-- THE TIED CARD OF 'tithebarnlaw05.TextsSame'. -/
def textsSameCard : Claim7 := { stood := { row := textsSameRow, standIns := [], harness := (true, "530f2fb453644a6e0a2a2b5de6c9a760f3057c86edf3c1f7bbb5aade31a766c2"), looks := false }, kinds := [], alts := [], laidByText := true, laidKinds := [.data, .data], laidTests := true, laidLooks := .later }
def TextsSameCardSaid : Prop := Claim7.holds Tryd.pinned (.plain (OpenSpec.ofChange textsSameSpec)) textsSameCard

/-- THE SECOND FORM's CARD OF 'tithebarnlaw04.IntsWith'. -/
def intsWithUptoCard : Claim7 := { stood := { row := intsWithUptoRow, standIns := [], harness := (true, "530f2fb453644a6e0a2a2b5de6c9a760f3057c86edf3c1f7bbb5aade31a766c2"), looks := false }, kinds := [], alts := [], laidByText := true, laidKinds := [.data, .data], laidTests := true, laidLooks := .later }
def IntsWithUptoCardSaid : Prop := Claim7.holds Tryd.pinned (.plain (OpenSpec.upto intsWithSpec)) intsWithUptoCard

/-- THE SECOND FORM's CARD OF 'tithebarnlaw04.IntsBest'. -/
def intsBestUptoCard : Claim7 := { stood := { row := intsBestUptoRow, standIns := [], harness := (true, "530f2fb453644a6e0a2a2b5de6c9a760f3057c86edf3c1f7bbb5aade31a766c2"), looks := false }, kinds := [], alts := [], laidByText := true, laidKinds := [.data, .data], laidTests := true, laidLooks := .later }
def IntsBestUptoCardSaid : Prop := Claim7.holds Tryd.pinned (.plain (OpenSpec.upto intsBestSpec)) intsBestUptoCard

/-- THE SECOND FORM's CARD OF 'tithebarnlaw04.IntsRead'. -/
def intsReadUptoCard : Claim7 := { stood := { row := intsReadUptoRow, standIns := [], harness := (true, "530f2fb453644a6e0a2a2b5de6c9a760f3057c86edf3c1f7bbb5aade31a766c2"), looks := false }, kinds := [], alts := [], laidByText := true, laidKinds := [.data, .data], laidTests := true, laidLooks := .later }
def IntsReadUptoCardSaid : Prop := Claim7.holds Tryd.pinned (.plain (OpenSpec.upto intsReadSpec)) intsReadUptoCard

/-- THE SECOND FORM's CARD OF 'tithebarnlaw04.IntsBack'. -/
def intsBackUptoCard : Claim7 := { stood := { row := intsBackUptoRow, standIns := [], harness := (true, "530f2fb453644a6e0a2a2b5de6c9a760f3057c86edf3c1f7bbb5aade31a766c2"), looks := false }, kinds := [], alts := [], laidByText := true, laidKinds := [.data, .data], laidTests := true, laidLooks := .later }
def IntsBackUptoCardSaid : Prop := Claim7.holds Tryd.pinned (.plain (OpenSpec.upto intsBackSpec)) intsBackUptoCard

/-- THE SECOND FORM's CARD OF 'tithebarnlaw04.IntsOnly'. -/
def intsOnlyUptoCard : Claim7 := { stood := { row := intsOnlyUptoRow, standIns := [], harness := (true, "530f2fb453644a6e0a2a2b5de6c9a760f3057c86edf3c1f7bbb5aade31a766c2"), looks := false }, kinds := [], alts := [], laidByText := true, laidKinds := [.data, .data], laidTests := true, laidLooks := .later }
def IntsOnlyUptoCardSaid : Prop := Claim7.holds Tryd.pinned (.plain (OpenSpec.upto intsOnlySpec)) intsOnlyUptoCard

/-- THE SECOND FORM's CARD OF 'tithebarnlaw04.IntsSame'. -/
def intsSameUptoCard : Claim7 := { stood := { row := intsSameUptoRow, standIns := [], harness := (true, "530f2fb453644a6e0a2a2b5de6c9a760f3057c86edf3c1f7bbb5aade31a766c2"), looks := false }, kinds := [], alts := [], laidByText := true, laidKinds := [.data, .data], laidTests := true, laidLooks := .later }
def IntsSameUptoCardSaid : Prop := Claim7.holds Tryd.pinned (.plain (OpenSpec.upto intsSameSpec)) intsSameUptoCard

/-- THE SECOND FORM's CARD OF 'tithebarnlaw05.TextsWith'. -/
def textsWithUptoCard : Claim7 := { stood := { row := textsWithUptoRow, standIns := [], harness := (true, "530f2fb453644a6e0a2a2b5de6c9a760f3057c86edf3c1f7bbb5aade31a766c2"), looks := false }, kinds := [], alts := [], laidByText := true, laidKinds := [.data, .data], laidTests := true, laidLooks := .later }
def TextsWithUptoCardSaid : Prop := Claim7.holds Tryd.pinned (.plain (OpenSpec.upto textsWithSpec)) textsWithUptoCard

/-- THE SECOND FORM's CARD OF 'tithebarnlaw05.TextsBest'. -/
def textsBestUptoCard : Claim7 := { stood := { row := textsBestUptoRow, standIns := [], harness := (true, "530f2fb453644a6e0a2a2b5de6c9a760f3057c86edf3c1f7bbb5aade31a766c2"), looks := false }, kinds := [], alts := [], laidByText := true, laidKinds := [.data, .data], laidTests := true, laidLooks := .later }
def TextsBestUptoCardSaid : Prop := Claim7.holds Tryd.pinned (.plain (OpenSpec.upto textsBestSpec)) textsBestUptoCard

/-- THE SECOND FORM's CARD OF 'tithebarnlaw05.TextsRead'. -/
def textsReadUptoCard : Claim7 := { stood := { row := textsReadUptoRow, standIns := [], harness := (true, "530f2fb453644a6e0a2a2b5de6c9a760f3057c86edf3c1f7bbb5aade31a766c2"), looks := false }, kinds := [], alts := [], laidByText := true, laidKinds := [.data, .data], laidTests := true, laidLooks := .later }
def TextsReadUptoCardSaid : Prop := Claim7.holds Tryd.pinned (.plain (OpenSpec.upto textsReadSpec)) textsReadUptoCard

/-- THE SECOND FORM's CARD OF 'tithebarnlaw05.TextsBack'. -/
def textsBackUptoCard : Claim7 := { stood := { row := textsBackUptoRow, standIns := [], harness := (true, "530f2fb453644a6e0a2a2b5de6c9a760f3057c86edf3c1f7bbb5aade31a766c2"), looks := false }, kinds := [], alts := [], laidByText := true, laidKinds := [.data, .data], laidTests := true, laidLooks := .later }
def TextsBackUptoCardSaid : Prop := Claim7.holds Tryd.pinned (.plain (OpenSpec.upto textsBackSpec)) textsBackUptoCard

/-- THE SECOND FORM's CARD OF 'tithebarnlaw05.TextsOnly'. -/
def textsOnlyUptoCard : Claim7 := { stood := { row := textsOnlyUptoRow, standIns := [], harness := (true, "530f2fb453644a6e0a2a2b5de6c9a760f3057c86edf3c1f7bbb5aade31a766c2"), looks := false }, kinds := [], alts := [], laidByText := true, laidKinds := [.data, .data], laidTests := true, laidLooks := .later }
def TextsOnlyUptoCardSaid : Prop := Claim7.holds Tryd.pinned (.plain (OpenSpec.upto textsOnlySpec)) textsOnlyUptoCard

/-- THE SECOND FORM's CARD OF 'tithebarnlaw05.TextsSame'. -/
def textsSameUptoCard : Claim7 := { stood := { row := textsSameUptoRow, standIns := [], harness := (true, "530f2fb453644a6e0a2a2b5de6c9a760f3057c86edf3c1f7bbb5aade31a766c2"), looks := false }, kinds := [], alts := [], laidByText := true, laidKinds := [.data, .data], laidTests := true, laidLooks := .later }
def TextsSameUptoCardSaid : Prop := Claim7.holds Tryd.pinned (.plain (OpenSpec.upto textsSameSpec)) textsSameUptoCard
end Rows
end Go.Proofs.YtkgmildbhelelaaDoor
