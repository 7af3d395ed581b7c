/-
  DERIVED. GIVEN WITH THE SEED: THE CARDS: each row of YtehnibknngejnaaDoorRows.lean that lists a variable, with what it lists TIED to the program's text (the seventh form; the later family's looks); each row that meets fmt, with fmt's text TOLD by the authors' own Lean function (tested against real Go, not proved from fmt's source: count such statements apart). THE CARD IS WHAT COUNTS. Prove the row's statement (the work); the ties are given (YtehnibknngejnaaDoorTie.lean); close each card by the builder's one call (the guide's Derived/Test/ToyasCard.lean, 'card_holds'). Laid BY PROGRAM, IN A SANDBOX (cutbox-door.mjs). By AI agents, Wed Nov 11 2026. No macro, syntax, notation, axiom, sorry.
-/
import Derived.Test.YtehnibknngejnaaDoorRows
import GoSem.ClaimSeven
namespace Go.Proofs.YtehnibknngejnaaDoor
namespace Rows

/-- THE TIED CARD OF 'tithebarnlaw04.IntsWith'. -/
def intsWithCard : Claim7 := { stood := { row := intsWithRow, standIns := [], harness := (true, "af229a752dd77282b0f8820085555969e2dd2523379766e09b151b465ff10d32"), looks := false }, kinds := [], alts := [], laidByText := true, laidKinds := [.data, .data], laidTests := true, laidLooks := .later }
def IntsWithCardSaid : Prop := Claim7.holds Tryd.pinned (.plain (OpenSpec.ofChange intsWithSpec)) intsWithCard

/-- THE TIED CARD OF 'tithebarnlaw04.IntsBest'. -/
def intsBestCard : Claim7 := { stood := { row := intsBestRow, standIns := [], harness := (true, "af229a752dd77282b0f8820085555969e2dd2523379766e09b151b465ff10d32"), looks := false }, kinds := [], alts := [], laidByText := true, laidKinds := [.data, .data], laidTests := true, laidLooks := .later }
def IntsBestCardSaid : Prop := Claim7.holds Tryd.pinned (.plain (OpenSpec.ofChange intsBestSpec)) intsBestCard

/-- THE TIED CARD OF 'tithebarnlaw04.IntsRead'. -/
def intsReadCard : Claim7 := { stood := { row := intsReadRow, standIns := [], harness := (true, "af229a752dd77282b0f8820085555969e2dd2523379766e09b151b465ff10d32"), looks := false }, kinds := [], alts := [], laidByText := true, laidKinds := [.data, .data], laidTests := true, laidLooks := .later }
def IntsReadCardSaid : Prop := Claim7.holds Tryd.pinned (.plain (OpenSpec.ofChange intsReadSpec)) intsReadCard

/-- THE TIED CARD OF 'tithebarnlaw04.IntsBack'. -/
def intsBackCard : Claim7 := { stood := { row := intsBackRow, standIns := [], harness := (true, "af229a752dd77282b0f8820085555969e2dd2523379766e09b151b465ff10d32"), looks := false }, kinds := [], alts := [], laidByText := true, laidKinds := [.data, .data], laidTests := true, laidLooks := .later }
def IntsBackCardSaid : Prop := Claim7.holds Tryd.pinned (.plain (OpenSpec.ofChange intsBackSpec)) intsBackCard

/-- THE TIED CARD OF 'tithebarnlaw04.IntsOnly'. -/
def intsOnlyCard : Claim7 := { stood := { row := intsOnlyRow, standIns := [], harness := (true, "af229a752dd77282b0f8820085555969e2dd2523379766e09b151b465ff10d32"), looks := false }, kinds := [], alts := [], laidByText := true, laidKinds := [.data, .data], laidTests := true, laidLooks := .later }
def IntsOnlyCardSaid : Prop := Claim7.holds Tryd.pinned (.plain (OpenSpec.ofChange intsOnlySpec)) intsOnlyCard

/-- THE TIED CARD OF 'tithebarnlaw04.IntsSame'. -/
def intsSameCard : Claim7 := { stood := { row := intsSameRow, standIns := [], harness := (true, "af229a752dd77282b0f8820085555969e2dd2523379766e09b151b465ff10d32"), looks := false }, kinds := [], alts := [], laidByText := true, laidKinds := [.data, .data], laidTests := true, laidLooks := .later }
def IntsSameCardSaid : Prop := Claim7.holds Tryd.pinned (.plain (OpenSpec.ofChange intsSameSpec)) intsSameCard

/-- THE SECOND FORM's CARD OF 'tithebarnlaw04.IntsWith'. -/
def intsWithUptoCard : Claim7 := { stood := { row := intsWithUptoRow, standIns := [], harness := (true, "af229a752dd77282b0f8820085555969e2dd2523379766e09b151b465ff10d32"), looks := false }, kinds := [], alts := [], laidByText := true, laidKinds := [.data, .data], laidTests := true, laidLooks := .later }
def IntsWithUptoCardSaid : Prop := Claim7.holds Tryd.pinned (.plain (OpenSpec.upto intsWithSpec)) intsWithUptoCard

/-- THE SECOND FORM's CARD OF 'tithebarnlaw04.IntsBest'. -/
def intsBestUptoCard : Claim7 := { stood := { row := intsBestUptoRow, standIns := [], harness := (true, "af229a752dd77282b0f8820085555969e2dd2523379766e09b151b465ff10d32"), looks := false }, kinds := [], alts := [], laidByText := true, laidKinds := [.data, .data], laidTests := true, laidLooks := .later }
def IntsBestUptoCardSaid : Prop := Claim7.holds Tryd.pinned (.plain (OpenSpec.upto intsBestSpec)) intsBestUptoCard

/-- THE SECOND FORM's CARD OF 'tithebarnlaw04.IntsRead'. -/
def intsReadUptoCard : Claim7 := { stood := { row := intsReadUptoRow, standIns := [], harness := (true, "af229a752dd77282b0f8820085555969e2dd2523379766e09b151b465ff10d32"), looks := false }, kinds := [], alts := [], laidByText := true, laidKinds := [.data, .data], laidTests := true, laidLooks := .later }
def IntsReadUptoCardSaid : Prop := Claim7.holds Tryd.pinned (.plain (OpenSpec.upto intsReadSpec)) intsReadUptoCard

/-- THE SECOND FORM's CARD OF 'tithebarnlaw04.IntsBack'. -/
def intsBackUptoCard : Claim7 := { stood := { row := intsBackUptoRow, standIns := [], harness := (true, "af229a752dd77282b0f8820085555969e2dd2523379766e09b151b465ff10d32"), looks := false }, kinds := [], alts := [], laidByText := true, laidKinds := [.data, .data], laidTests := true, laidLooks := .later }
def IntsBackUptoCardSaid : Prop := Claim7.holds Tryd.pinned (.plain (OpenSpec.upto intsBackSpec)) intsBackUptoCard

/-- THE SECOND FORM's CARD OF 'tithebarnlaw04.IntsOnly'. -/
def intsOnlyUptoCard : Claim7 := { stood := { row := intsOnlyUptoRow, standIns := [], harness := (true, "af229a752dd77282b0f8820085555969e2dd2523379766e09b151b465ff10d32"), looks := false }, kinds := [], alts := [], laidByText := true, laidKinds := [.data, .data], laidTests := true, laidLooks := .later }
def IntsOnlyUptoCardSaid : Prop := Claim7.holds Tryd.pinned (.plain (OpenSpec.upto intsOnlySpec)) intsOnlyUptoCard

/-- THE SECOND FORM's CARD OF 'tithebarnlaw04.IntsSame'. -/
def intsSameUptoCard : Claim7 := { stood := { row := intsSameUptoRow, standIns := [], harness := (true, "af229a752dd77282b0f8820085555969e2dd2523379766e09b151b465ff10d32"), looks := false }, kinds := [], alts := [], laidByText := true, laidKinds := [.data, .data], laidTests := true, laidLooks := .later }
def IntsSameUptoCardSaid : Prop := Claim7.holds Tryd.pinned (.plain (OpenSpec.upto intsSameSpec)) intsSameUptoCard
end Rows
end Go.Proofs.YtehnibknngejnaaDoor
