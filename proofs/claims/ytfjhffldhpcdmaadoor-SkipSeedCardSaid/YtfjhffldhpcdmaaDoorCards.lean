/-
  DERIVED. GIVEN WITH THE SEED: THE CARDS: each row of YtfjhffldhpcdmaaDoorRows.lean that lists a variable, with what it lists TIED to the program's text (the seventh form; the later family's looks); each row that meets fmt, with fmt's text TOLD by the authors' own Lean function (tested against real Go, not proved from fmt's source: count such statements apart). THE CARD IS WHAT COUNTS. Prove the row's statement (the work); the ties are given (YtfjhffldhpcdmaaDoorTie.lean); close each card by the builder's one call (the guide's Derived/Test/ToyasCard.lean, 'card_holds'). Laid BY PROGRAM, IN A SANDBOX (cutbox-door.mjs). By AI agents, Wed Nov 11 2026. No macro, syntax, notation, axiom, sorry.
-/
import Derived.Test.YtfjhffldhpcdmaaDoorRows
import GoSem.ClaimSeven
namespace Go.Proofs.YtfjhffldhpcdmaaDoor
namespace Rows

/-- THE TIED CARD OF 'tithebarnlaw10.SkipPlays'. -/
def skipPlaysCard : Claim7 := { stood := { row := skipPlaysRow, standIns := [], harness := (true, "a289a12081f697673b8e2c9030a3c872d52b06834a69b8a1b94f5b124fe49a94"), looks := false }, kinds := [], alts := [], laidByText := true, laidKinds := [.data], laidTests := true, laidLooks := .later }
def SkipPlaysCardSaid : Prop := Claim7.holds Tryd.pinned (.plain (OpenSpec.ofChange skipPlaysSpec)) skipPlaysCard

/-- THE TIED CARD OF 'tithebarnlaw10.SkipFrom'. -/
def skipFromCard : Claim7 := { stood := { row := skipFromRow, standIns := [], harness := (true, "a289a12081f697673b8e2c9030a3c872d52b06834a69b8a1b94f5b124fe49a94"), looks := false }, kinds := [], alts := [], laidByText := true, laidKinds := [.data], laidTests := true, laidLooks := .later }
def SkipFromCardSaid : Prop := Claim7.holds Tryd.pinned (.plain (OpenSpec.ofChange skipFromSpec)) skipFromCard

/-- THE TIED CARD OF 'tithebarnlaw10.SkipOrder'. -/
def skipOrderCard : Claim7 := { stood := { row := skipOrderRow, standIns := [], harness := (true, "a289a12081f697673b8e2c9030a3c872d52b06834a69b8a1b94f5b124fe49a94"), looks := false }, kinds := [], alts := [], laidByText := true, laidKinds := [.data], laidTests := true, laidLooks := .later }
def SkipOrderCardSaid : Prop := Claim7.holds Tryd.pinned (.plain (OpenSpec.ofChange skipOrderSpec)) skipOrderCard

/-- THE TIED CARD OF 'tithebarnlaw10.SkipSeed'. -/
def skipSeedCard : Claim7 := { stood := { row := skipSeedRow, standIns := [], harness := (true, "a289a12081f697673b8e2c9030a3c872d52b06834a69b8a1b94f5b124fe49a94"), looks := false }, kinds := [], alts := [], laidByText := true, laidKinds := [.data], laidTests := true, laidLooks := .later }
def SkipSeedCardSaid : Prop := Claim7.holds Tryd.pinned (.plain (OpenSpec.ofChange skipSeedSpec)) skipSeedCard

/-- THE TIED CARD OF 'tithebarnlaw10.SkipOwn'. -/
def skipOwnCard : Claim7 := { stood := { row := skipOwnRow, standIns := [], harness := (true, "a289a12081f697673b8e2c9030a3c872d52b06834a69b8a1b94f5b124fe49a94"), looks := false }, kinds := [], alts := [], laidByText := true, laidKinds := [.data], laidTests := true, laidLooks := .later }
def SkipOwnCardSaid : Prop := Claim7.holds Tryd.pinned (.plain (OpenSpec.ofChange skipOwnSpec)) skipOwnCard

/-- THE TIED CARD OF 'tithebarnlaw10.SkipNil'. -/
def skipNilCard : Claim7 := { stood := { row := skipNilRow, standIns := [], harness := (true, "a289a12081f697673b8e2c9030a3c872d52b06834a69b8a1b94f5b124fe49a94"), looks := false }, kinds := [], alts := [], laidByText := true, laidKinds := [.data], laidTests := true, laidLooks := .later }
def SkipNilCardSaid : Prop := Claim7.holds Tryd.pinned (.plain (OpenSpec.ofChange skipNilSpec)) skipNilCard

/-- THE SECOND FORM's CARD OF 'tithebarnlaw10.SkipPlays'. -/
def skipPlaysUptoCard : Claim7 := { stood := { row := skipPlaysUptoRow, standIns := [], harness := (true, "a289a12081f697673b8e2c9030a3c872d52b06834a69b8a1b94f5b124fe49a94"), looks := false }, kinds := [], alts := [], laidByText := true, laidKinds := [.data], laidTests := true, laidLooks := .later }
def SkipPlaysUptoCardSaid : Prop := Claim7.holds Tryd.pinned (.plain (OpenSpec.upto skipPlaysSpec)) skipPlaysUptoCard

/-- THE SECOND FORM's CARD OF 'tithebarnlaw10.SkipFrom'. -/
def skipFromUptoCard : Claim7 := { stood := { row := skipFromUptoRow, standIns := [], harness := (true, "a289a12081f697673b8e2c9030a3c872d52b06834a69b8a1b94f5b124fe49a94"), looks := false }, kinds := [], alts := [], laidByText := true, laidKinds := [.data], laidTests := true, laidLooks := .later }
def SkipFromUptoCardSaid : Prop := Claim7.holds Tryd.pinned (.plain (OpenSpec.upto skipFromSpec)) skipFromUptoCard

/-- THE SECOND FORM's CARD OF 'tithebarnlaw10.SkipOrder'. -/
def skipOrderUptoCard : Claim7 := { stood := { row := skipOrderUptoRow, standIns := [], harness := (true, "a289a12081f697673b8e2c9030a3c872d52b06834a69b8a1b94f5b124fe49a94"), looks := false }, kinds := [], alts := [], laidByText := true, laidKinds := [.data], laidTests := true, laidLooks := .later }
def SkipOrderUptoCardSaid : Prop := Claim7.holds Tryd.pinned (.plain (OpenSpec.upto skipOrderSpec)) skipOrderUptoCard

/-- THE SECOND FORM's CARD OF 'tithebarnlaw10.SkipSeed'. -/
def skipSeedUptoCard : Claim7 := { stood := { row := skipSeedUptoRow, standIns := [], harness := (true, "a289a12081f697673b8e2c9030a3c872d52b06834a69b8a1b94f5b124fe49a94"), looks := false }, kinds := [], alts := [], laidByText := true, laidKinds := [.data], laidTests := true, laidLooks := .later }
def SkipSeedUptoCardSaid : Prop := Claim7.holds Tryd.pinned (.plain (OpenSpec.upto skipSeedSpec)) skipSeedUptoCard

/-- THE SECOND FORM's CARD OF 'tithebarnlaw10.SkipOwn'. -/
def skipOwnUptoCard : Claim7 := { stood := { row := skipOwnUptoRow, standIns := [], harness := (true, "a289a12081f697673b8e2c9030a3c872d52b06834a69b8a1b94f5b124fe49a94"), looks := false }, kinds := [], alts := [], laidByText := true, laidKinds := [.data], laidTests := true, laidLooks := .later }
def SkipOwnUptoCardSaid : Prop := Claim7.holds Tryd.pinned (.plain (OpenSpec.upto skipOwnSpec)) skipOwnUptoCard

/-- THE SECOND FORM's CARD OF 'tithebarnlaw10.SkipNil'. -/
def skipNilUptoCard : Claim7 := { stood := { row := skipNilUptoRow, standIns := [], harness := (true, "a289a12081f697673b8e2c9030a3c872d52b06834a69b8a1b94f5b124fe49a94"), looks := false }, kinds := [], alts := [], laidByText := true, laidKinds := [.data], laidTests := true, laidLooks := .later }
def SkipNilUptoCardSaid : Prop := Claim7.holds Tryd.pinned (.plain (OpenSpec.upto skipNilSpec)) skipNilUptoCard
end Rows
end Go.Proofs.YtfjhffldhpcdmaaDoor
