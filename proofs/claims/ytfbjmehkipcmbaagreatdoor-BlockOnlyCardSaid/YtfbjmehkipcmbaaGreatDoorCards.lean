/-
  DERIVED. GIVEN WITH THE SEED: THE CARDS: each row of YtfbjmehkipcmbaaGreatDoorRows.lean that lists a variable, with what it lists TIED to the program's text (the seventh form; the later family's looks); each row that meets fmt, with fmt's text TOLD by the authors' own Lean function (tested against real Go, not proved from fmt's source: count such statements apart). THE CARD IS WHAT COUNTS. Prove the row's statement (the work); the ties are given (YtfbjmehkipcmbaaGreatDoorTie.lean); close each card by the builder's one call (the guide's Derived/Test/ToyasCard.lean, 'card_holds'). Laid BY PROGRAM, IN A SANDBOX (cutbox-door.mjs). By AI agents, Wed Nov 11 2026. No macro, syntax, notation, axiom, sorry.
-/
import Derived.Test.YtfbjmehkipcmbaaGreatDoorRows
import GoSem.ClaimSeven
namespace Go.Proofs.YtfbjmehkipcmbaaGreatDoor
namespace Rows

/-- THE TIED CARD OF 'tithebarnlaw12.BlockWrites'. -/
def blockWritesCard : Claim7 := { stood := { row := blockWritesRow, standIns := [], harness := (true, "92426f17255b161ac74529116f3cfe6721becf188b1ed0b6db3defd59e4a7dcb"), looks := false }, kinds := [], alts := [], laidByText := true, laidKinds := [.data, .data], laidTests := true, laidLooks := .later }
def BlockWritesCardSaid : Prop := Claim7.holds Tryz.pinned (.plain (OpenSpec.ofChange blockWritesSpec)) blockWritesCard

/-- THE TIED CARD OF 'tithebarnlaw12.BlockReads'. -/
def blockReadsCard : Claim7 := { stood := { row := blockReadsRow, standIns := [], harness := (true, "92426f17255b161ac74529116f3cfe6721becf188b1ed0b6db3defd59e4a7dcb"), looks := false }, kinds := [], alts := [], laidByText := true, laidKinds := [.data, .data], laidTests := true, laidLooks := .later }
def BlockReadsCardSaid : Prop := Claim7.holds Tryz.pinned (.plain (OpenSpec.ofChange blockReadsSpec)) blockReadsCard

/-- THE TIED CARD OF 'tithebarnlaw12.BlockBack'. -/
def blockBackCard : Claim7 := { stood := { row := blockBackRow, standIns := [], harness := (true, "92426f17255b161ac74529116f3cfe6721becf188b1ed0b6db3defd59e4a7dcb"), looks := false }, kinds := [], alts := [], laidByText := true, laidKinds := [.data, .data], laidTests := true, laidLooks := .later }
def BlockBackCardSaid : Prop := Claim7.holds Tryz.pinned (.plain (OpenSpec.ofChange blockBackSpec)) blockBackCard

/-- THE TIED CARD OF 'tithebarnlaw12.BlockOnly'. -/
def blockOnlyCard : Claim7 := { stood := { row := blockOnlyRow, standIns := [], harness := (true, "92426f17255b161ac74529116f3cfe6721becf188b1ed0b6db3defd59e4a7dcb"), looks := false }, kinds := [], alts := [], laidByText := true, laidKinds := [.data, .data], laidTests := true, laidLooks := .later }
def BlockOnlyCardSaid : Prop := Claim7.holds Tryz.pinned (.plain (OpenSpec.ofChange blockOnlySpec)) blockOnlyCard

/-- THE TIED CARD OF 'tithebarnlaw12.BlockOrder'. -/
def blockOrderCard : Claim7 := { stood := { row := blockOrderRow, standIns := [], harness := (true, "92426f17255b161ac74529116f3cfe6721becf188b1ed0b6db3defd59e4a7dcb"), looks := false }, kinds := [], alts := [], laidByText := true, laidKinds := [.data, .data], laidTests := true, laidLooks := .later }
def BlockOrderCardSaid : Prop := Claim7.holds Tryz.pinned (.plain (OpenSpec.ofChange blockOrderSpec)) blockOrderCard

/-- THE SECOND FORM's CARD OF 'tithebarnlaw12.BlockWrites'. -/
def blockWritesUptoCard : Claim7 := { stood := { row := blockWritesUptoRow, standIns := [], harness := (true, "92426f17255b161ac74529116f3cfe6721becf188b1ed0b6db3defd59e4a7dcb"), looks := false }, kinds := [], alts := [], laidByText := true, laidKinds := [.data, .data], laidTests := true, laidLooks := .later }
def BlockWritesUptoCardSaid : Prop := Claim7.holds Tryz.pinned (.plain (OpenSpec.upto blockWritesSpec)) blockWritesUptoCard

/-- THE SECOND FORM's CARD OF 'tithebarnlaw12.BlockReads'. -/
def blockReadsUptoCard : Claim7 := { stood := { row := blockReadsUptoRow, standIns := [], harness := (true, "92426f17255b161ac74529116f3cfe6721becf188b1ed0b6db3defd59e4a7dcb"), looks := false }, kinds := [], alts := [], laidByText := true, laidKinds := [.data, .data], laidTests := true, laidLooks := .later }
def BlockReadsUptoCardSaid : Prop := Claim7.holds Tryz.pinned (.plain (OpenSpec.upto blockReadsSpec)) blockReadsUptoCard

/-- THE SECOND FORM's CARD OF 'tithebarnlaw12.BlockBack'. -/
def blockBackUptoCard : Claim7 := { stood := { row := blockBackUptoRow, standIns := [], harness := (true, "92426f17255b161ac74529116f3cfe6721becf188b1ed0b6db3defd59e4a7dcb"), looks := false }, kinds := [], alts := [], laidByText := true, laidKinds := [.data, .data], laidTests := true, laidLooks := .later }
def BlockBackUptoCardSaid : Prop := Claim7.holds Tryz.pinned (.plain (OpenSpec.upto blockBackSpec)) blockBackUptoCard

/-- THE SECOND FORM's CARD OF 'tithebarnlaw12.BlockOnly'. -/
def blockOnlyUptoCard : Claim7 := { stood := { row := blockOnlyUptoRow, standIns := [], harness := (true, "92426f17255b161ac74529116f3cfe6721becf188b1ed0b6db3defd59e4a7dcb"), looks := false }, kinds := [], alts := [], laidByText := true, laidKinds := [.data, .data], laidTests := true, laidLooks := .later }
def BlockOnlyUptoCardSaid : Prop := Claim7.holds Tryz.pinned (.plain (OpenSpec.upto blockOnlySpec)) blockOnlyUptoCard

/-- THE SECOND FORM's CARD OF 'tithebarnlaw12.BlockOrder'. -/
def blockOrderUptoCard : Claim7 := { stood := { row := blockOrderUptoRow, standIns := [], harness := (true, "92426f17255b161ac74529116f3cfe6721becf188b1ed0b6db3defd59e4a7dcb"), looks := false }, kinds := [], alts := [], laidByText := true, laidKinds := [.data, .data], laidTests := true, laidLooks := .later }
def BlockOrderUptoCardSaid : Prop := Claim7.holds Tryz.pinned (.plain (OpenSpec.upto blockOrderSpec)) blockOrderUptoCard
end Rows
end Go.Proofs.YtfbjmehkipcmbaaGreatDoor
