/-
  DERIVED. GIVEN WITH THE SEED: THE CARDS: each row of YtdeecgmihfakgaaGreatDoorRows.lean that lists a variable, with what it lists TIED to the program's text (the seventh form; the later family's looks); each row that meets fmt, with fmt's text TOLD by the authors' own Lean function (tested against real Go, not proved from fmt's source: count such statements apart). THE CARD IS WHAT COUNTS. Prove the row's statement (the work); the ties are given (YtdeecgmihfakgaaGreatDoorTie.lean); close each card by the builder's one call (the guide's Derived/Test/ToyasCard.lean, 'card_holds'). Laid BY PROGRAM, IN A SANDBOX (cutbox-door.mjs). By AI agents, Wed Nov 11 2026. No macro, syntax, notation, axiom, sorry.
-/
import Derived.Test.YtdeecgmihfakgaaGreatDoorRows
import GoSem.ClaimSeven
namespace Go.Proofs.YtdeecgmihfakgaaGreatDoor
namespace Rows

/-- THE TIED CARD OF 'pouchlaw08.EncodeFixes'. -/
def encodeFixesCard : Claim7 := { stood := { row := encodeFixesRow, standIns := [], harness := (true, "b750f5d6a857c24cddb025377de6d088691e6d177806a80484fc5a0be23d67df"), looks := false }, kinds := [], alts := [], laidByText := true, laidKinds := [.data, .pinned], laidTests := true, laidLooks := .later }
def EncodeFixesCardSaid : Prop := Claim7.holds Tryz.pinned (.plain (OpenSpec.ofChange encodeFixesSpec)) encodeFixesCard

/-- THE TIED CARD OF 'pouchlaw08.EncodeOnce'. -/
def encodeOnceCard : Claim7 := { stood := { row := encodeOnceRow, standIns := [], harness := (true, "b750f5d6a857c24cddb025377de6d088691e6d177806a80484fc5a0be23d67df"), looks := false }, kinds := [], alts := [], laidByText := true, laidKinds := [.data, .pinned], laidTests := true, laidLooks := .later }
def EncodeOnceCardSaid : Prop := Claim7.holds Tryz.pinned (.plain (OpenSpec.ofChange encodeOnceSpec)) encodeOnceCard

/-- THE TIED CARD OF 'pouchlaw09.DecodeBytes'. -/
def decodeBytesCard : Claim7 := { stood := { row := decodeBytesRow, standIns := [], harness := (true, "b750f5d6a857c24cddb025377de6d088691e6d177806a80484fc5a0be23d67df"), looks := false }, kinds := [], alts := [], laidByText := true, laidKinds := [.data, .pinned], laidTests := true, laidLooks := .later }
def DecodeBytesCardSaid : Prop := Claim7.holds Tryz.pinned (.plain (OpenSpec.ofChange decodeBytesSpec)) decodeBytesCard

/-- THE TIED CARD OF 'pouchlaw09.DecodeBack'. -/
def decodeBackCard : Claim7 := { stood := { row := decodeBackRow, standIns := [], harness := (true, "b750f5d6a857c24cddb025377de6d088691e6d177806a80484fc5a0be23d67df"), looks := false }, kinds := [], alts := [], laidByText := true, laidKinds := [.data, .pinned], laidTests := true, laidLooks := .later }
def DecodeBackCardSaid : Prop := Claim7.holds Tryz.pinned (.plain (OpenSpec.ofChange decodeBackSpec)) decodeBackCard

/-- THE TIED CARD OF 'pouchlaw09.DecodeAgain'. -/
def decodeAgainCard : Claim7 := { stood := { row := decodeAgainRow, standIns := [], harness := (true, "b750f5d6a857c24cddb025377de6d088691e6d177806a80484fc5a0be23d67df"), looks := false }, kinds := [], alts := [], laidByText := true, laidKinds := [.data, .pinned], laidTests := true, laidLooks := .later }
def DecodeAgainCardSaid : Prop := Claim7.holds Tryz.pinned (.plain (OpenSpec.ofChange decodeAgainSpec)) decodeAgainCard

/-- THE TIED CARD OF 'pouchlaw09.DecodeCuts'. -/
def decodeCutsCard : Claim7 := { stood := { row := decodeCutsRow, standIns := [], harness := (true, "b750f5d6a857c24cddb025377de6d088691e6d177806a80484fc5a0be23d67df"), looks := false }, kinds := [], alts := [], laidByText := true, laidKinds := [.data, .pinned], laidTests := true, laidLooks := .later }
def DecodeCutsCardSaid : Prop := Claim7.holds Tryz.pinned (.plain (OpenSpec.ofChange decodeCutsSpec)) decodeCutsCard

/-- THE TIED CARD OF 'pouchlaw10.FramerFeeds'. -/
def framerFeedsCard : Claim7 := { stood := { row := framerFeedsRow, standIns := [], harness := (true, "b750f5d6a857c24cddb025377de6d088691e6d177806a80484fc5a0be23d67df"), looks := false }, kinds := [], alts := [], laidByText := true, laidKinds := [.data, .pinned], laidTests := true, laidLooks := .later }
def FramerFeedsCardSaid : Prop := Claim7.holds Tryz.pinned (.plain (OpenSpec.ofChange framerFeedsSpec)) framerFeedsCard

/-- THE TIED CARD OF 'pouchlaw10.FramerCuts'. -/
def framerCutsCard : Claim7 := { stood := { row := framerCutsRow, standIns := [], harness := (true, "b750f5d6a857c24cddb025377de6d088691e6d177806a80484fc5a0be23d67df"), looks := false }, kinds := [], alts := [], laidByText := true, laidKinds := [.data, .pinned], laidTests := true, laidLooks := .later }
def FramerCutsCardSaid : Prop := Claim7.holds Tryz.pinned (.plain (OpenSpec.ofChange framerCutsSpec)) framerCutsCard

/-- THE TIED CARD OF 'pouchlaw10.FramerHolds'. -/
def framerHoldsCard : Claim7 := { stood := { row := framerHoldsRow, standIns := [], harness := (true, "b750f5d6a857c24cddb025377de6d088691e6d177806a80484fc5a0be23d67df"), looks := false }, kinds := [], alts := [], laidByText := true, laidKinds := [.data, .pinned], laidTests := true, laidLooks := .later }
def FramerHoldsCardSaid : Prop := Claim7.holds Tryz.pinned (.plain (OpenSpec.ofChange framerHoldsSpec)) framerHoldsCard

/-- THE TIED CARD OF 'pouchlaw10.FramerStops'. -/
def framerStopsCard : Claim7 := { stood := { row := framerStopsRow, standIns := [], harness := (true, "b750f5d6a857c24cddb025377de6d088691e6d177806a80484fc5a0be23d67df"), looks := false }, kinds := [], alts := [], laidByText := true, laidKinds := [.data, .pinned], laidTests := true, laidLooks := .later }
def FramerStopsCardSaid : Prop := Claim7.holds Tryz.pinned (.plain (OpenSpec.ofChange framerStopsSpec)) framerStopsCard

/-- THE TIED CARD OF 'pouchlaw10.FramerNews'. -/
def framerNewsCard : Claim7 := { stood := { row := framerNewsRow, standIns := [], harness := (true, "b750f5d6a857c24cddb025377de6d088691e6d177806a80484fc5a0be23d67df"), looks := false }, kinds := [], alts := [], laidByText := true, laidKinds := [.data, .pinned], laidTests := true, laidLooks := .later }
def FramerNewsCardSaid : Prop := Claim7.holds Tryz.pinned (.plain (OpenSpec.ofChange framerNewsSpec)) framerNewsCard

/-- THE TIED CARD OF 'pouchlaw10.FramerMost'. -/
def framerMostCard : Claim7 := { stood := { row := framerMostRow, standIns := [], harness := (true, "b750f5d6a857c24cddb025377de6d088691e6d177806a80484fc5a0be23d67df"), looks := false }, kinds := [], alts := [], laidByText := true, laidKinds := [.data, .pinned], laidTests := true, laidLooks := .later }
def FramerMostCardSaid : Prop := Claim7.holds Tryz.pinned (.plain (OpenSpec.ofChange framerMostSpec)) framerMostCard

/-- THE SECOND FORM's CARD OF 'pouchlaw08.EncodeFixes'. -/
def encodeFixesUptoCard : Claim7 := { stood := { row := encodeFixesUptoRow, standIns := [], harness := (true, "b750f5d6a857c24cddb025377de6d088691e6d177806a80484fc5a0be23d67df"), looks := false }, kinds := [], alts := [], laidByText := true, laidKinds := [.data, .pinned], laidTests := true, laidLooks := .later }
def EncodeFixesUptoCardSaid : Prop := Claim7.holds Tryz.pinned (.plain (OpenSpec.upto encodeFixesSpec)) encodeFixesUptoCard

/-- THE SECOND FORM's CARD OF 'pouchlaw08.EncodeOnce'. -/
def encodeOnceUptoCard : Claim7 := { stood := { row := encodeOnceUptoRow, standIns := [], harness := (true, "b750f5d6a857c24cddb025377de6d088691e6d177806a80484fc5a0be23d67df"), looks := false }, kinds := [], alts := [], laidByText := true, laidKinds := [.data, .pinned], laidTests := true, laidLooks := .later }
def EncodeOnceUptoCardSaid : Prop := Claim7.holds Tryz.pinned (.plain (OpenSpec.upto encodeOnceSpec)) encodeOnceUptoCard

/-- THE SECOND FORM's CARD OF 'pouchlaw09.DecodeBytes'. -/
def decodeBytesUptoCard : Claim7 := { stood := { row := decodeBytesUptoRow, standIns := [], harness := (true, "b750f5d6a857c24cddb025377de6d088691e6d177806a80484fc5a0be23d67df"), looks := false }, kinds := [], alts := [], laidByText := true, laidKinds := [.data, .pinned], laidTests := true, laidLooks := .later }
def DecodeBytesUptoCardSaid : Prop := Claim7.holds Tryz.pinned (.plain (OpenSpec.upto decodeBytesSpec)) decodeBytesUptoCard

/-- THE SECOND FORM's CARD OF 'pouchlaw09.DecodeBack'. -/
def decodeBackUptoCard : Claim7 := { stood := { row := decodeBackUptoRow, standIns := [], harness := (true, "b750f5d6a857c24cddb025377de6d088691e6d177806a80484fc5a0be23d67df"), looks := false }, kinds := [], alts := [], laidByText := true, laidKinds := [.data, .pinned], laidTests := true, laidLooks := .later }
def DecodeBackUptoCardSaid : Prop := Claim7.holds Tryz.pinned (.plain (OpenSpec.upto decodeBackSpec)) decodeBackUptoCard

/-- THE SECOND FORM's CARD OF 'pouchlaw09.DecodeAgain'. -/
def decodeAgainUptoCard : Claim7 := { stood := { row := decodeAgainUptoRow, standIns := [], harness := (true, "b750f5d6a857c24cddb025377de6d088691e6d177806a80484fc5a0be23d67df"), looks := false }, kinds := [], alts := [], laidByText := true, laidKinds := [.data, .pinned], laidTests := true, laidLooks := .later }
def DecodeAgainUptoCardSaid : Prop := Claim7.holds Tryz.pinned (.plain (OpenSpec.upto decodeAgainSpec)) decodeAgainUptoCard

/-- THE SECOND FORM's CARD OF 'pouchlaw09.DecodeCuts'. -/
def decodeCutsUptoCard : Claim7 := { stood := { row := decodeCutsUptoRow, standIns := [], harness := (true, "b750f5d6a857c24cddb025377de6d088691e6d177806a80484fc5a0be23d67df"), looks := false }, kinds := [], alts := [], laidByText := true, laidKinds := [.data, .pinned], laidTests := true, laidLooks := .later }
def DecodeCutsUptoCardSaid : Prop := Claim7.holds Tryz.pinned (.plain (OpenSpec.upto decodeCutsSpec)) decodeCutsUptoCard

/-- THE SECOND FORM's CARD OF 'pouchlaw10.FramerFeeds'. -/
def framerFeedsUptoCard : Claim7 := { stood := { row := framerFeedsUptoRow, standIns := [], harness := (true, "b750f5d6a857c24cddb025377de6d088691e6d177806a80484fc5a0be23d67df"), looks := false }, kinds := [], alts := [], laidByText := true, laidKinds := [.data, .pinned], laidTests := true, laidLooks := .later }
def FramerFeedsUptoCardSaid : Prop := Claim7.holds Tryz.pinned (.plain (OpenSpec.upto framerFeedsSpec)) framerFeedsUptoCard

/-- THE SECOND FORM's CARD OF 'pouchlaw10.FramerCuts'. -/
def framerCutsUptoCard : Claim7 := { stood := { row := framerCutsUptoRow, standIns := [], harness := (true, "b750f5d6a857c24cddb025377de6d088691e6d177806a80484fc5a0be23d67df"), looks := false }, kinds := [], alts := [], laidByText := true, laidKinds := [.data, .pinned], laidTests := true, laidLooks := .later }
def FramerCutsUptoCardSaid : Prop := Claim7.holds Tryz.pinned (.plain (OpenSpec.upto framerCutsSpec)) framerCutsUptoCard

/-- THE SECOND FORM's CARD OF 'pouchlaw10.FramerHolds'. -/
def framerHoldsUptoCard : Claim7 := { stood := { row := framerHoldsUptoRow, standIns := [], harness := (true, "b750f5d6a857c24cddb025377de6d088691e6d177806a80484fc5a0be23d67df"), looks := false }, kinds := [], alts := [], laidByText := true, laidKinds := [.data, .pinned], laidTests := true, laidLooks := .later }
def FramerHoldsUptoCardSaid : Prop := Claim7.holds Tryz.pinned (.plain (OpenSpec.upto framerHoldsSpec)) framerHoldsUptoCard

/-- THE SECOND FORM's CARD OF 'pouchlaw10.FramerStops'. -/
def framerStopsUptoCard : Claim7 := { stood := { row := framerStopsUptoRow, standIns := [], harness := (true, "b750f5d6a857c24cddb025377de6d088691e6d177806a80484fc5a0be23d67df"), looks := false }, kinds := [], alts := [], laidByText := true, laidKinds := [.data, .pinned], laidTests := true, laidLooks := .later }
def FramerStopsUptoCardSaid : Prop := Claim7.holds Tryz.pinned (.plain (OpenSpec.upto framerStopsSpec)) framerStopsUptoCard

/-- THE SECOND FORM's CARD OF 'pouchlaw10.FramerNews'. -/
def framerNewsUptoCard : Claim7 := { stood := { row := framerNewsUptoRow, standIns := [], harness := (true, "b750f5d6a857c24cddb025377de6d088691e6d177806a80484fc5a0be23d67df"), looks := false }, kinds := [], alts := [], laidByText := true, laidKinds := [.data, .pinned], laidTests := true, laidLooks := .later }
def FramerNewsUptoCardSaid : Prop := Claim7.holds Tryz.pinned (.plain (OpenSpec.upto framerNewsSpec)) framerNewsUptoCard

/-- THE SECOND FORM's CARD OF 'pouchlaw10.FramerMost'. -/
def framerMostUptoCard : Claim7 := { stood := { row := framerMostUptoRow, standIns := [], harness := (true, "b750f5d6a857c24cddb025377de6d088691e6d177806a80484fc5a0be23d67df"), looks := false }, kinds := [], alts := [], laidByText := true, laidKinds := [.data, .pinned], laidTests := true, laidLooks := .later }
def FramerMostUptoCardSaid : Prop := Claim7.holds Tryz.pinned (.plain (OpenSpec.upto framerMostSpec)) framerMostUptoCard
end Rows
end Go.Proofs.YtdeecgmihfakgaaGreatDoor
