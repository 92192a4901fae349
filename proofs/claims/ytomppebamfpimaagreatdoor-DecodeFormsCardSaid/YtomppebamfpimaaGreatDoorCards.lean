/-
  DERIVED. GIVEN WITH THE SEED: THE CARDS: each row of YtomppebamfpimaaGreatDoorRows.lean that lists a variable, with what it lists TIED to the program's text (the seventh form; the later family's looks); each row that meets fmt, with fmt's text TOLD by the authors' own Lean function (tested against real Go, not proved from fmt's source: count such statements apart). THE CARD IS WHAT COUNTS. Prove the row's statement (the work); the ties are given (YtomppebamfpimaaGreatDoorTie.lean); close each card by the builder's one call (the guide's Derived/Test/ToyasCard.lean, 'card_holds'). Laid BY PROGRAM, IN A SANDBOX (cutbox-door.mjs). By AI agents, Wed Nov 11 2026. No macro, syntax, notation, axiom, sorry.
-/
import Derived.Test.YtomppebamfpimaaGreatDoorRows
import GoSem.ClaimSeven
namespace Go.Proofs.YtomppebamfpimaaGreatDoor
namespace Rows

/-- THE TIED CARD OF 'pouchlaw08.EncodePackets'. -/
def encodePacketsCard : Claim7 := { stood := { row := encodePacketsRow, standIns := [], harness := (true, "904b0494e1faa132e4f9f11c638cf9ea057de9519ef5dfeca5cf74d88a94b46f"), looks := false }, kinds := [], alts := [], laidByText := true, laidKinds := [.data, .pinned], laidTests := true, laidLooks := .later }
def EncodePacketsCardSaid : Prop := Claim7.holds Tryz.pinned (.plain (OpenSpec.ofChange encodePacketsSpec)) encodePacketsCard

/-- THE TIED CARD OF 'pouchlaw08.EncodeFixes'. -/
def encodeFixesCard : Claim7 := { stood := { row := encodeFixesRow, standIns := [], harness := (true, "904b0494e1faa132e4f9f11c638cf9ea057de9519ef5dfeca5cf74d88a94b46f"), looks := false }, kinds := [], alts := [], laidByText := true, laidKinds := [.data, .pinned], laidTests := true, laidLooks := .later }
def EncodeFixesCardSaid : Prop := Claim7.holds Tryz.pinned (.plain (OpenSpec.ofChange encodeFixesSpec)) encodeFixesCard

/-- THE TIED CARD OF 'pouchlaw08.EncodeOnce'. -/
def encodeOnceCard : Claim7 := { stood := { row := encodeOnceRow, standIns := [], harness := (true, "904b0494e1faa132e4f9f11c638cf9ea057de9519ef5dfeca5cf74d88a94b46f"), looks := false }, kinds := [], alts := [], laidByText := true, laidKinds := [.data, .pinned], laidTests := true, laidLooks := .later }
def EncodeOnceCardSaid : Prop := Claim7.holds Tryz.pinned (.plain (OpenSpec.ofChange encodeOnceSpec)) encodeOnceCard

/-- THE TIED CARD OF 'pouchlaw08.EncodeLong'. -/
def encodeLongCard : Claim7 := { stood := { row := encodeLongRow, standIns := [], harness := (true, "904b0494e1faa132e4f9f11c638cf9ea057de9519ef5dfeca5cf74d88a94b46f"), looks := false }, kinds := [], alts := [], laidByText := true, laidKinds := [.data, .pinned], laidTests := true, laidLooks := .later }
def EncodeLongCardSaid : Prop := Claim7.holds Tryz.pinned (.plain (OpenSpec.ofChange encodeLongSpec)) encodeLongCard

/-- THE TIED CARD OF 'pouchlaw09.DecodeHeads'. -/
def decodeHeadsCard : Claim7 := { stood := { row := decodeHeadsRow, standIns := [], harness := (true, "904b0494e1faa132e4f9f11c638cf9ea057de9519ef5dfeca5cf74d88a94b46f"), looks := false }, kinds := [], alts := [], laidByText := true, laidKinds := [.data, .pinned], laidTests := true, laidLooks := .later }
def DecodeHeadsCardSaid : Prop := Claim7.holds Tryz.pinned (.plain (OpenSpec.ofChange decodeHeadsSpec)) decodeHeadsCard

/-- THE TIED CARD OF 'pouchlaw09.DecodeBytes'. -/
def decodeBytesCard : Claim7 := { stood := { row := decodeBytesRow, standIns := [], harness := (true, "904b0494e1faa132e4f9f11c638cf9ea057de9519ef5dfeca5cf74d88a94b46f"), looks := false }, kinds := [], alts := [], laidByText := true, laidKinds := [.data, .pinned], laidTests := true, laidLooks := .later }
def DecodeBytesCardSaid : Prop := Claim7.holds Tryz.pinned (.plain (OpenSpec.ofChange decodeBytesSpec)) decodeBytesCard

/-- THE TIED CARD OF 'pouchlaw09.DecodeBack'. -/
def decodeBackCard : Claim7 := { stood := { row := decodeBackRow, standIns := [], harness := (true, "904b0494e1faa132e4f9f11c638cf9ea057de9519ef5dfeca5cf74d88a94b46f"), looks := false }, kinds := [], alts := [], laidByText := true, laidKinds := [.data, .pinned], laidTests := true, laidLooks := .later }
def DecodeBackCardSaid : Prop := Claim7.holds Tryz.pinned (.plain (OpenSpec.ofChange decodeBackSpec)) decodeBackCard

/-- THE TIED CARD OF 'pouchlaw09.DecodeAgain'. -/
def decodeAgainCard : Claim7 := { stood := { row := decodeAgainRow, standIns := [], harness := (true, "904b0494e1faa132e4f9f11c638cf9ea057de9519ef5dfeca5cf74d88a94b46f"), looks := false }, kinds := [], alts := [], laidByText := true, laidKinds := [.data, .pinned], laidTests := true, laidLooks := .later }
def DecodeAgainCardSaid : Prop := Claim7.holds Tryz.pinned (.plain (OpenSpec.ofChange decodeAgainSpec)) decodeAgainCard

/-- THE TIED CARD OF 'pouchlaw09.DecodeCuts'. -/
def decodeCutsCard : Claim7 := { stood := { row := decodeCutsRow, standIns := [], harness := (true, "904b0494e1faa132e4f9f11c638cf9ea057de9519ef5dfeca5cf74d88a94b46f"), looks := false }, kinds := [], alts := [], laidByText := true, laidKinds := [.data, .pinned], laidTests := true, laidLooks := .later }
def DecodeCutsCardSaid : Prop := Claim7.holds Tryz.pinned (.plain (OpenSpec.ofChange decodeCutsSpec)) decodeCutsCard

/-- THE TIED CARD OF 'pouchlaw09.DecodeForms'. -/
def decodeFormsCard : Claim7 := { stood := { row := decodeFormsRow, standIns := [], harness := (true, "904b0494e1faa132e4f9f11c638cf9ea057de9519ef5dfeca5cf74d88a94b46f"), looks := false }, kinds := [], alts := [], laidByText := true, laidKinds := [.data, .pinned], laidTests := true, laidLooks := .later }
def DecodeFormsCardSaid : Prop := Claim7.holds Tryz.pinned (.plain (OpenSpec.ofChange decodeFormsSpec)) decodeFormsCard

/-- THE TIED CARD OF 'pouchlaw10.FramerNews'. -/
def framerNewsCard : Claim7 := { stood := { row := framerNewsRow, standIns := [], harness := (true, "904b0494e1faa132e4f9f11c638cf9ea057de9519ef5dfeca5cf74d88a94b46f"), looks := false }, kinds := [], alts := [], laidByText := true, laidKinds := [.data, .pinned], laidTests := true, laidLooks := .later }
def FramerNewsCardSaid : Prop := Claim7.holds Tryz.pinned (.plain (OpenSpec.ofChange framerNewsSpec)) framerNewsCard

/-- THE TIED CARD OF 'pouchlaw10.FramerMost'. -/
def framerMostCard : Claim7 := { stood := { row := framerMostRow, standIns := [], harness := (true, "904b0494e1faa132e4f9f11c638cf9ea057de9519ef5dfeca5cf74d88a94b46f"), looks := false }, kinds := [], alts := [], laidByText := true, laidKinds := [.data, .pinned], laidTests := true, laidLooks := .later }
def FramerMostCardSaid : Prop := Claim7.holds Tryz.pinned (.plain (OpenSpec.ofChange framerMostSpec)) framerMostCard

/-- THE SECOND FORM's CARD OF 'pouchlaw08.EncodePackets'. -/
def encodePacketsUptoCard : Claim7 := { stood := { row := encodePacketsUptoRow, standIns := [], harness := (true, "904b0494e1faa132e4f9f11c638cf9ea057de9519ef5dfeca5cf74d88a94b46f"), looks := false }, kinds := [], alts := [], laidByText := true, laidKinds := [.data, .pinned], laidTests := true, laidLooks := .later }
def EncodePacketsUptoCardSaid : Prop := Claim7.holds Tryz.pinned (.plain (OpenSpec.upto encodePacketsSpec)) encodePacketsUptoCard

/-- THE SECOND FORM's CARD OF 'pouchlaw08.EncodeFixes'. -/
def encodeFixesUptoCard : Claim7 := { stood := { row := encodeFixesUptoRow, standIns := [], harness := (true, "904b0494e1faa132e4f9f11c638cf9ea057de9519ef5dfeca5cf74d88a94b46f"), looks := false }, kinds := [], alts := [], laidByText := true, laidKinds := [.data, .pinned], laidTests := true, laidLooks := .later }
def EncodeFixesUptoCardSaid : Prop := Claim7.holds Tryz.pinned (.plain (OpenSpec.upto encodeFixesSpec)) encodeFixesUptoCard

/-- THE SECOND FORM's CARD OF 'pouchlaw08.EncodeOnce'. -/
def encodeOnceUptoCard : Claim7 := { stood := { row := encodeOnceUptoRow, standIns := [], harness := (true, "904b0494e1faa132e4f9f11c638cf9ea057de9519ef5dfeca5cf74d88a94b46f"), looks := false }, kinds := [], alts := [], laidByText := true, laidKinds := [.data, .pinned], laidTests := true, laidLooks := .later }
def EncodeOnceUptoCardSaid : Prop := Claim7.holds Tryz.pinned (.plain (OpenSpec.upto encodeOnceSpec)) encodeOnceUptoCard

/-- THE SECOND FORM's CARD OF 'pouchlaw08.EncodeLong'. -/
def encodeLongUptoCard : Claim7 := { stood := { row := encodeLongUptoRow, standIns := [], harness := (true, "904b0494e1faa132e4f9f11c638cf9ea057de9519ef5dfeca5cf74d88a94b46f"), looks := false }, kinds := [], alts := [], laidByText := true, laidKinds := [.data, .pinned], laidTests := true, laidLooks := .later }
def EncodeLongUptoCardSaid : Prop := Claim7.holds Tryz.pinned (.plain (OpenSpec.upto encodeLongSpec)) encodeLongUptoCard

/-- THE SECOND FORM's CARD OF 'pouchlaw09.DecodeHeads'. -/
def decodeHeadsUptoCard : Claim7 := { stood := { row := decodeHeadsUptoRow, standIns := [], harness := (true, "904b0494e1faa132e4f9f11c638cf9ea057de9519ef5dfeca5cf74d88a94b46f"), looks := false }, kinds := [], alts := [], laidByText := true, laidKinds := [.data, .pinned], laidTests := true, laidLooks := .later }
def DecodeHeadsUptoCardSaid : Prop := Claim7.holds Tryz.pinned (.plain (OpenSpec.upto decodeHeadsSpec)) decodeHeadsUptoCard

/-- THE SECOND FORM's CARD OF 'pouchlaw09.DecodeBytes'. -/
def decodeBytesUptoCard : Claim7 := { stood := { row := decodeBytesUptoRow, standIns := [], harness := (true, "904b0494e1faa132e4f9f11c638cf9ea057de9519ef5dfeca5cf74d88a94b46f"), looks := false }, kinds := [], alts := [], laidByText := true, laidKinds := [.data, .pinned], laidTests := true, laidLooks := .later }
def DecodeBytesUptoCardSaid : Prop := Claim7.holds Tryz.pinned (.plain (OpenSpec.upto decodeBytesSpec)) decodeBytesUptoCard

/-- THE SECOND FORM's CARD OF 'pouchlaw09.DecodeBack'. -/
def decodeBackUptoCard : Claim7 := { stood := { row := decodeBackUptoRow, standIns := [], harness := (true, "904b0494e1faa132e4f9f11c638cf9ea057de9519ef5dfeca5cf74d88a94b46f"), looks := false }, kinds := [], alts := [], laidByText := true, laidKinds := [.data, .pinned], laidTests := true, laidLooks := .later }
def DecodeBackUptoCardSaid : Prop := Claim7.holds Tryz.pinned (.plain (OpenSpec.upto decodeBackSpec)) decodeBackUptoCard

/-- THE SECOND FORM's CARD OF 'pouchlaw09.DecodeAgain'. -/
def decodeAgainUptoCard : Claim7 := { stood := { row := decodeAgainUptoRow, standIns := [], harness := (true, "904b0494e1faa132e4f9f11c638cf9ea057de9519ef5dfeca5cf74d88a94b46f"), looks := false }, kinds := [], alts := [], laidByText := true, laidKinds := [.data, .pinned], laidTests := true, laidLooks := .later }
def DecodeAgainUptoCardSaid : Prop := Claim7.holds Tryz.pinned (.plain (OpenSpec.upto decodeAgainSpec)) decodeAgainUptoCard

/-- THE SECOND FORM's CARD OF 'pouchlaw09.DecodeCuts'. -/
def decodeCutsUptoCard : Claim7 := { stood := { row := decodeCutsUptoRow, standIns := [], harness := (true, "904b0494e1faa132e4f9f11c638cf9ea057de9519ef5dfeca5cf74d88a94b46f"), looks := false }, kinds := [], alts := [], laidByText := true, laidKinds := [.data, .pinned], laidTests := true, laidLooks := .later }
def DecodeCutsUptoCardSaid : Prop := Claim7.holds Tryz.pinned (.plain (OpenSpec.upto decodeCutsSpec)) decodeCutsUptoCard

/-- THE SECOND FORM's CARD OF 'pouchlaw09.DecodeForms'. -/
def decodeFormsUptoCard : Claim7 := { stood := { row := decodeFormsUptoRow, standIns := [], harness := (true, "904b0494e1faa132e4f9f11c638cf9ea057de9519ef5dfeca5cf74d88a94b46f"), looks := false }, kinds := [], alts := [], laidByText := true, laidKinds := [.data, .pinned], laidTests := true, laidLooks := .later }
def DecodeFormsUptoCardSaid : Prop := Claim7.holds Tryz.pinned (.plain (OpenSpec.upto decodeFormsSpec)) decodeFormsUptoCard

/-- THE SECOND FORM's CARD OF 'pouchlaw10.FramerNews'. -/
def framerNewsUptoCard : Claim7 := { stood := { row := framerNewsUptoRow, standIns := [], harness := (true, "904b0494e1faa132e4f9f11c638cf9ea057de9519ef5dfeca5cf74d88a94b46f"), looks := false }, kinds := [], alts := [], laidByText := true, laidKinds := [.data, .pinned], laidTests := true, laidLooks := .later }
def FramerNewsUptoCardSaid : Prop := Claim7.holds Tryz.pinned (.plain (OpenSpec.upto framerNewsSpec)) framerNewsUptoCard

/-- THE SECOND FORM's CARD OF 'pouchlaw10.FramerMost'. -/
def framerMostUptoCard : Claim7 := { stood := { row := framerMostUptoRow, standIns := [], harness := (true, "904b0494e1faa132e4f9f11c638cf9ea057de9519ef5dfeca5cf74d88a94b46f"), looks := false }, kinds := [], alts := [], laidByText := true, laidKinds := [.data, .pinned], laidTests := true, laidLooks := .later }
def FramerMostUptoCardSaid : Prop := Claim7.holds Tryz.pinned (.plain (OpenSpec.upto framerMostSpec)) framerMostUptoCard
end Rows
end Go.Proofs.YtomppebamfpimaaGreatDoor
