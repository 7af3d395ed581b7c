/-
  DERIVED. GIVEN WITH THE SEED: THE CARDS: each row of YtcognkgabdaneaaGreatDoorRows.lean that lists a variable, with what it lists TIED to the program's text (the seventh form; the later family's looks); each row that meets fmt, with fmt's text TOLD by the authors' own Lean function (tested against real Go, not proved from fmt's source: count such statements apart). THE CARD IS WHAT COUNTS. Prove the row's statement (the work); the ties are given (YtcognkgabdaneaaGreatDoorTie.lean); close each card by the builder's one call (the guide's Derived/Test/ToyasCard.lean, 'card_holds'). Laid BY PROGRAM, IN A SANDBOX (cutbox-door.mjs). By AI agents, Wed Nov 11 2026. No macro, syntax, notation, axiom, sorry.
-/
import Derived.Test.YtcognkgabdaneaaGreatDoorRows
import GoSem.ClaimSeven
namespace Go.Proofs.YtcognkgabdaneaaGreatDoor
namespace Rows

/-- THE TIED CARD OF 'tithebarnlaw06.ColumnWrites'. -/
def columnWritesCard : Claim7 := { stood := { row := columnWritesRow, standIns := [], harness := (true, "d957291440c6d809e5ae5d92a1635723b273a056456737bc546171e55df8f044"), looks := false }, kinds := [], alts := [], laidByText := true, laidKinds := [.data, .data], laidTests := true, laidLooks := .later }
def ColumnWritesCardSaid : Prop := Claim7.holds Tryz.pinned (.plain (OpenSpec.ofChange columnWritesSpec)) columnWritesCard

/-- THE TIED CARD OF 'tithebarnlaw06.ColumnReads'. -/
def columnReadsCard : Claim7 := { stood := { row := columnReadsRow, standIns := [], harness := (true, "d957291440c6d809e5ae5d92a1635723b273a056456737bc546171e55df8f044"), looks := false }, kinds := [], alts := [], laidByText := true, laidKinds := [.data, .data], laidTests := true, laidLooks := .later }
def ColumnReadsCardSaid : Prop := Claim7.holds Tryz.pinned (.plain (OpenSpec.ofChange columnReadsSpec)) columnReadsCard

/-- THE TIED CARD OF 'tithebarnlaw06.ColumnBack'. -/
def columnBackCard : Claim7 := { stood := { row := columnBackRow, standIns := [], harness := (true, "d957291440c6d809e5ae5d92a1635723b273a056456737bc546171e55df8f044"), looks := false }, kinds := [], alts := [], laidByText := true, laidKinds := [.data, .data], laidTests := true, laidLooks := .later }
def ColumnBackCardSaid : Prop := Claim7.holds Tryz.pinned (.plain (OpenSpec.ofChange columnBackSpec)) columnBackCard

/-- THE TIED CARD OF 'tithebarnlaw06.ColumnOnly'. -/
def columnOnlyCard : Claim7 := { stood := { row := columnOnlyRow, standIns := [], harness := (true, "d957291440c6d809e5ae5d92a1635723b273a056456737bc546171e55df8f044"), looks := false }, kinds := [], alts := [], laidByText := true, laidKinds := [.data, .data], laidTests := true, laidLooks := .later }
def ColumnOnlyCardSaid : Prop := Claim7.holds Tryz.pinned (.plain (OpenSpec.ofChange columnOnlySpec)) columnOnlyCard

/-- THE TIED CARD OF 'tithebarnlaw06.ColumnKinds'. -/
def columnKindsCard : Claim7 := { stood := { row := columnKindsRow, standIns := [], harness := (true, "d957291440c6d809e5ae5d92a1635723b273a056456737bc546171e55df8f044"), looks := false }, kinds := [], alts := [], laidByText := true, laidKinds := [.data, .data], laidTests := true, laidLooks := .later }
def ColumnKindsCardSaid : Prop := Claim7.holds Tryz.pinned (.plain (OpenSpec.ofChange columnKindsSpec)) columnKindsCard

/-- THE TIED CARD OF 'tithebarnlaw06.ColumnNulls'. -/
def columnNullsCard : Claim7 := { stood := { row := columnNullsRow, standIns := [], harness := (true, "d957291440c6d809e5ae5d92a1635723b273a056456737bc546171e55df8f044"), looks := false }, kinds := [], alts := [], laidByText := true, laidKinds := [.data, .data], laidTests := true, laidLooks := .later }
def ColumnNullsCardSaid : Prop := Claim7.holds Tryz.pinned (.plain (OpenSpec.ofChange columnNullsSpec)) columnNullsCard

/-- THE SECOND FORM's CARD OF 'tithebarnlaw06.ColumnWrites'. -/
def columnWritesUptoCard : Claim7 := { stood := { row := columnWritesUptoRow, standIns := [], harness := (true, "d957291440c6d809e5ae5d92a1635723b273a056456737bc546171e55df8f044"), looks := false }, kinds := [], alts := [], laidByText := true, laidKinds := [.data, .data], laidTests := true, laidLooks := .later }
def ColumnWritesUptoCardSaid : Prop := Claim7.holds Tryz.pinned (.plain (OpenSpec.upto columnWritesSpec)) columnWritesUptoCard

/-- THE SECOND FORM's CARD OF 'tithebarnlaw06.ColumnReads'. -/
def columnReadsUptoCard : Claim7 := { stood := { row := columnReadsUptoRow, standIns := [], harness := (true, "d957291440c6d809e5ae5d92a1635723b273a056456737bc546171e55df8f044"), looks := false }, kinds := [], alts := [], laidByText := true, laidKinds := [.data, .data], laidTests := true, laidLooks := .later }
def ColumnReadsUptoCardSaid : Prop := Claim7.holds Tryz.pinned (.plain (OpenSpec.upto columnReadsSpec)) columnReadsUptoCard

/-- THE SECOND FORM's CARD OF 'tithebarnlaw06.ColumnBack'. -/
def columnBackUptoCard : Claim7 := { stood := { row := columnBackUptoRow, standIns := [], harness := (true, "d957291440c6d809e5ae5d92a1635723b273a056456737bc546171e55df8f044"), looks := false }, kinds := [], alts := [], laidByText := true, laidKinds := [.data, .data], laidTests := true, laidLooks := .later }
def ColumnBackUptoCardSaid : Prop := Claim7.holds Tryz.pinned (.plain (OpenSpec.upto columnBackSpec)) columnBackUptoCard

/-- THE SECOND FORM's CARD OF 'tithebarnlaw06.ColumnOnly'. -/
def columnOnlyUptoCard : Claim7 := { stood := { row := columnOnlyUptoRow, standIns := [], harness := (true, "d957291440c6d809e5ae5d92a1635723b273a056456737bc546171e55df8f044"), looks := false }, kinds := [], alts := [], laidByText := true, laidKinds := [.data, .data], laidTests := true, laidLooks := .later }
def ColumnOnlyUptoCardSaid : Prop := Claim7.holds Tryz.pinned (.plain (OpenSpec.upto columnOnlySpec)) columnOnlyUptoCard

/-- THE SECOND FORM's CARD OF 'tithebarnlaw06.ColumnKinds'. -/
def columnKindsUptoCard : Claim7 := { stood := { row := columnKindsUptoRow, standIns := [], harness := (true, "d957291440c6d809e5ae5d92a1635723b273a056456737bc546171e55df8f044"), looks := false }, kinds := [], alts := [], laidByText := true, laidKinds := [.data, .data], laidTests := true, laidLooks := .later }
def ColumnKindsUptoCardSaid : Prop := Claim7.holds Tryz.pinned (.plain (OpenSpec.upto columnKindsSpec)) columnKindsUptoCard

/-- THE SECOND FORM's CARD OF 'tithebarnlaw06.ColumnNulls'. -/
def columnNullsUptoCard : Claim7 := { stood := { row := columnNullsUptoRow, standIns := [], harness := (true, "d957291440c6d809e5ae5d92a1635723b273a056456737bc546171e55df8f044"), looks := false }, kinds := [], alts := [], laidByText := true, laidKinds := [.data, .data], laidTests := true, laidLooks := .later }
def ColumnNullsUptoCardSaid : Prop := Claim7.holds Tryz.pinned (.plain (OpenSpec.upto columnNullsSpec)) columnNullsUptoCard
end Rows
end Go.Proofs.YtcognkgabdaneaaGreatDoor
