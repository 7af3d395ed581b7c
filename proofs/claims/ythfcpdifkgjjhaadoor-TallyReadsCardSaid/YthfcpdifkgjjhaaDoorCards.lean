/-
  DERIVED. GIVEN WITH THE SEED: THE CARDS: each row of YthfcpdifkgjjhaaDoorRows.lean that lists a variable, with what it lists TIED to the program's text (the seventh form; the later family's looks); each row that meets fmt, with fmt's text TOLD by the authors' own Lean function (tested against real Go, not proved from fmt's source: count such statements apart). THE CARD IS WHAT COUNTS. Prove the row's statement (the work); the ties are given (YthfcpdifkgjjhaaDoorTie.lean); close each card by the builder's one call (the guide's Derived/Test/ToyasCard.lean, 'card_holds'). Laid BY PROGRAM, IN A SANDBOX (cutbox-door.mjs). By AI agents, Wed Nov 11 2026. No macro, syntax, notation, axiom, sorry.
-/
import Derived.Test.YthfcpdifkgjjhaaDoorRows
import GoSem.ClaimSeven
namespace Go.Proofs.YthfcpdifkgjjhaaDoor
namespace Rows

/-- THE TIED CARD OF 'tithebarnlaw01.TallyWrites'. -/
def tallyWritesCard : Claim7 := { stood := { row := tallyWritesRow, standIns := [], harness := (true, "36eaa3b85a61c1666380c1c2130316d66f53c77578003828ca5bc08d590d603b"), looks := false }, kinds := [], alts := [], laidByText := true, laidKinds := [.data, .data], laidTests := true, laidLooks := .later }
def TallyWritesCardSaid : Prop := Claim7.holds Tryd.pinned (.plain (OpenSpec.ofChange tallyWritesSpec)) tallyWritesCard

/-- THE TIED CARD OF 'tithebarnlaw01.TallyReads'. -/
def tallyReadsCard : Claim7 := { stood := { row := tallyReadsRow, standIns := [], harness := (true, "36eaa3b85a61c1666380c1c2130316d66f53c77578003828ca5bc08d590d603b"), looks := false }, kinds := [], alts := [], laidByText := true, laidKinds := [.data, .data], laidTests := true, laidLooks := .later }
def TallyReadsCardSaid : Prop := Claim7.holds Tryd.pinned (.plain (OpenSpec.ofChange tallyReadsSpec)) tallyReadsCard

/-- THE TIED CARD OF 'tithebarnlaw01.TallyBack'. -/
def tallyBackCard : Claim7 := { stood := { row := tallyBackRow, standIns := [], harness := (true, "36eaa3b85a61c1666380c1c2130316d66f53c77578003828ca5bc08d590d603b"), looks := false }, kinds := [], alts := [], laidByText := true, laidKinds := [.data, .data], laidTests := true, laidLooks := .later }
def TallyBackCardSaid : Prop := Claim7.holds Tryd.pinned (.plain (OpenSpec.ofChange tallyBackSpec)) tallyBackCard

/-- THE TIED CARD OF 'tithebarnlaw01.TallyOnly'. -/
def tallyOnlyCard : Claim7 := { stood := { row := tallyOnlyRow, standIns := [], harness := (true, "36eaa3b85a61c1666380c1c2130316d66f53c77578003828ca5bc08d590d603b"), looks := false }, kinds := [], alts := [], laidByText := true, laidKinds := [.data, .data], laidTests := true, laidLooks := .later }
def TallyOnlyCardSaid : Prop := Claim7.holds Tryd.pinned (.plain (OpenSpec.ofChange tallyOnlySpec)) tallyOnlyCard

/-- THE TIED CARD OF 'tithebarnlaw01.TallyOrder'. -/
def tallyOrderCard : Claim7 := { stood := { row := tallyOrderRow, standIns := [], harness := (true, "36eaa3b85a61c1666380c1c2130316d66f53c77578003828ca5bc08d590d603b"), looks := false }, kinds := [], alts := [], laidByText := true, laidKinds := [.data, .data], laidTests := true, laidLooks := .later }
def TallyOrderCardSaid : Prop := Claim7.holds Tryd.pinned (.plain (OpenSpec.ofChange tallyOrderSpec)) tallyOrderCard

/-- THE TIED CARD OF 'tithebarnlaw01.TallyNil'. -/
def tallyNilCard : Claim7 := { stood := { row := tallyNilRow, standIns := [], harness := (true, "36eaa3b85a61c1666380c1c2130316d66f53c77578003828ca5bc08d590d603b"), looks := false }, kinds := [], alts := [], laidByText := true, laidKinds := [.data, .data], laidTests := true, laidLooks := .later }
def TallyNilCardSaid : Prop := Claim7.holds Tryd.pinned (.plain (OpenSpec.ofChange tallyNilSpec)) tallyNilCard

/-- THE TIED CARD OF 'tithebarnlaw01.TallyCuts'. -/
def tallyCutsCard : Claim7 := { stood := { row := tallyCutsRow, standIns := [], harness := (true, "36eaa3b85a61c1666380c1c2130316d66f53c77578003828ca5bc08d590d603b"), looks := false }, kinds := [], alts := [], laidByText := true, laidKinds := [.data, .data], laidTests := true, laidLooks := .later }
def TallyCutsCardSaid : Prop := Claim7.holds Tryd.pinned (.plain (OpenSpec.ofChange tallyCutsSpec)) tallyCutsCard

/-- THE SECOND FORM's CARD OF 'tithebarnlaw01.TallyWrites'. -/
def tallyWritesUptoCard : Claim7 := { stood := { row := tallyWritesUptoRow, standIns := [], harness := (true, "36eaa3b85a61c1666380c1c2130316d66f53c77578003828ca5bc08d590d603b"), looks := false }, kinds := [], alts := [], laidByText := true, laidKinds := [.data, .data], laidTests := true, laidLooks := .later }
def TallyWritesUptoCardSaid : Prop := Claim7.holds Tryd.pinned (.plain (OpenSpec.upto tallyWritesSpec)) tallyWritesUptoCard

/-- THE SECOND FORM's CARD OF 'tithebarnlaw01.TallyReads'. -/
def tallyReadsUptoCard : Claim7 := { stood := { row := tallyReadsUptoRow, standIns := [], harness := (true, "36eaa3b85a61c1666380c1c2130316d66f53c77578003828ca5bc08d590d603b"), looks := false }, kinds := [], alts := [], laidByText := true, laidKinds := [.data, .data], laidTests := true, laidLooks := .later }
def TallyReadsUptoCardSaid : Prop := Claim7.holds Tryd.pinned (.plain (OpenSpec.upto tallyReadsSpec)) tallyReadsUptoCard

/-- THE SECOND FORM's CARD OF 'tithebarnlaw01.TallyBack'. -/
def tallyBackUptoCard : Claim7 := { stood := { row := tallyBackUptoRow, standIns := [], harness := (true, "36eaa3b85a61c1666380c1c2130316d66f53c77578003828ca5bc08d590d603b"), looks := false }, kinds := [], alts := [], laidByText := true, laidKinds := [.data, .data], laidTests := true, laidLooks := .later }
def TallyBackUptoCardSaid : Prop := Claim7.holds Tryd.pinned (.plain (OpenSpec.upto tallyBackSpec)) tallyBackUptoCard

/-- THE SECOND FORM's CARD OF 'tithebarnlaw01.TallyOnly'. -/
def tallyOnlyUptoCard : Claim7 := { stood := { row := tallyOnlyUptoRow, standIns := [], harness := (true, "36eaa3b85a61c1666380c1c2130316d66f53c77578003828ca5bc08d590d603b"), looks := false }, kinds := [], alts := [], laidByText := true, laidKinds := [.data, .data], laidTests := true, laidLooks := .later }
def TallyOnlyUptoCardSaid : Prop := Claim7.holds Tryd.pinned (.plain (OpenSpec.upto tallyOnlySpec)) tallyOnlyUptoCard

/-- THE SECOND FORM's CARD OF 'tithebarnlaw01.TallyOrder'. -/
def tallyOrderUptoCard : Claim7 := { stood := { row := tallyOrderUptoRow, standIns := [], harness := (true, "36eaa3b85a61c1666380c1c2130316d66f53c77578003828ca5bc08d590d603b"), looks := false }, kinds := [], alts := [], laidByText := true, laidKinds := [.data, .data], laidTests := true, laidLooks := .later }
def TallyOrderUptoCardSaid : Prop := Claim7.holds Tryd.pinned (.plain (OpenSpec.upto tallyOrderSpec)) tallyOrderUptoCard

/-- THE SECOND FORM's CARD OF 'tithebarnlaw01.TallyNil'. -/
def tallyNilUptoCard : Claim7 := { stood := { row := tallyNilUptoRow, standIns := [], harness := (true, "36eaa3b85a61c1666380c1c2130316d66f53c77578003828ca5bc08d590d603b"), looks := false }, kinds := [], alts := [], laidByText := true, laidKinds := [.data, .data], laidTests := true, laidLooks := .later }
def TallyNilUptoCardSaid : Prop := Claim7.holds Tryd.pinned (.plain (OpenSpec.upto tallyNilSpec)) tallyNilUptoCard

/-- THE SECOND FORM's CARD OF 'tithebarnlaw01.TallyCuts'. -/
def tallyCutsUptoCard : Claim7 := { stood := { row := tallyCutsUptoRow, standIns := [], harness := (true, "36eaa3b85a61c1666380c1c2130316d66f53c77578003828ca5bc08d590d603b"), looks := false }, kinds := [], alts := [], laidByText := true, laidKinds := [.data, .data], laidTests := true, laidLooks := .later }
def TallyCutsUptoCardSaid : Prop := Claim7.holds Tryd.pinned (.plain (OpenSpec.upto tallyCutsSpec)) tallyCutsUptoCard
end Rows
end Go.Proofs.YthfcpdifkgjjhaaDoor
