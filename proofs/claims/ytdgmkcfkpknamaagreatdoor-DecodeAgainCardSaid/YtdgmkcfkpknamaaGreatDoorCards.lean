/-
  DERIVED. GIVEN WITH THE SEED: THE CARDS: each row of YtdgmkcfkpknamaaGreatDoorRows.lean that lists a variable, with what it lists TIED to the program's text (the seventh form; the later family's looks); each row that meets fmt, with fmt's text TOLD by the authors' own Lean function (tested against real Go, not proved from fmt's source: count such statements apart). THE CARD IS WHAT COUNTS. Prove the row's statement (the work); the ties are given (YtdgmkcfkpknamaaGreatDoorTie.lean); close each card by the builder's one call (the guide's Derived/Test/ToyasCard.lean, 'card_holds'). Laid BY PROGRAM, IN A SANDBOX (cutbox-door.mjs). By AI agents, Wed Nov 11 2026. No macro, syntax, notation, axiom, sorry.
-/
import Derived.Test.YtdgmkcfkpknamaaGreatDoorRows
import GoSem.ClaimSeven
namespace Go.Proofs.YtdgmkcfkpknamaaGreatDoor
namespace Rows

/-- THE TIED CARD OF 'pouchlaw09.DecodeBack'. -/
def decodeBackCard : Claim7 := { stood := { row := decodeBackRow, standIns := [], harness := (true, "e684123e1cef6dd280bf5c0eaaafb42dce73eeba99105a7e40a5c63f5dd0a1eb"), looks := false }, kinds := [], alts := [], laidByText := true, laidKinds := [.data, .pinned], laidTests := true, laidLooks := .later }
def DecodeBackCardSaid : Prop := Claim7.holds Tryz.pinned (.plain (OpenSpec.ofChange decodeBackSpec)) decodeBackCard

/-- THE TIED CARD OF 'pouchlaw09.DecodeAgain'. -/
def decodeAgainCard : Claim7 := { stood := { row := decodeAgainRow, standIns := [], harness := (true, "e684123e1cef6dd280bf5c0eaaafb42dce73eeba99105a7e40a5c63f5dd0a1eb"), looks := false }, kinds := [], alts := [], laidByText := true, laidKinds := [.data, .pinned], laidTests := true, laidLooks := .later }
def DecodeAgainCardSaid : Prop := Claim7.holds Tryz.pinned (.plain (OpenSpec.ofChange decodeAgainSpec)) decodeAgainCard

/-- THE TIED CARD OF 'pouchlaw09.DecodeCuts'. -/
def decodeCutsCard : Claim7 := { stood := { row := decodeCutsRow, standIns := [], harness := (true, "e684123e1cef6dd280bf5c0eaaafb42dce73eeba99105a7e40a5c63f5dd0a1eb"), looks := false }, kinds := [], alts := [], laidByText := true, laidKinds := [.data, .pinned], laidTests := true, laidLooks := .later }
def DecodeCutsCardSaid : Prop := Claim7.holds Tryz.pinned (.plain (OpenSpec.ofChange decodeCutsSpec)) decodeCutsCard

/-- THE TIED CARD OF 'pouchlaw10.FramerFeeds'. -/
def framerFeedsCard : Claim7 := { stood := { row := framerFeedsRow, standIns := [], harness := (true, "e684123e1cef6dd280bf5c0eaaafb42dce73eeba99105a7e40a5c63f5dd0a1eb"), looks := false }, kinds := [], alts := [], laidByText := true, laidKinds := [.data, .pinned], laidTests := true, laidLooks := .later }
def FramerFeedsCardSaid : Prop := Claim7.holds Tryz.pinned (.plain (OpenSpec.ofChange framerFeedsSpec)) framerFeedsCard

/-- THE TIED CARD OF 'pouchlaw10.FramerCuts'. -/
def framerCutsCard : Claim7 := { stood := { row := framerCutsRow, standIns := [], harness := (true, "e684123e1cef6dd280bf5c0eaaafb42dce73eeba99105a7e40a5c63f5dd0a1eb"), looks := false }, kinds := [], alts := [], laidByText := true, laidKinds := [.data, .pinned], laidTests := true, laidLooks := .later }
def FramerCutsCardSaid : Prop := Claim7.holds Tryz.pinned (.plain (OpenSpec.ofChange framerCutsSpec)) framerCutsCard

/-- THE TIED CARD OF 'pouchtop.PouchRound'. -/
def pouchRoundCard : Claim7 := { stood := { row := pouchRoundRow, standIns := [], harness := (true, "e684123e1cef6dd280bf5c0eaaafb42dce73eeba99105a7e40a5c63f5dd0a1eb"), looks := false }, kinds := [], alts := [], laidByText := true, laidKinds := [.data, .pinned], laidTests := true, laidLooks := .later }
def PouchRoundCardSaid : Prop := Claim7.holds Tryz.pinned (.plain (OpenSpec.ofChange pouchRoundSpec)) pouchRoundCard

/-- THE TIED CARD OF 'pouchtop.PouchPrefix'. -/
def pouchPrefixCard : Claim7 := { stood := { row := pouchPrefixRow, standIns := [], harness := (true, "e684123e1cef6dd280bf5c0eaaafb42dce73eeba99105a7e40a5c63f5dd0a1eb"), looks := false }, kinds := [], alts := [], laidByText := true, laidKinds := [.data, .pinned], laidTests := true, laidLooks := .later }
def PouchPrefixCardSaid : Prop := Claim7.holds Tryz.pinned (.plain (OpenSpec.ofChange pouchPrefixSpec)) pouchPrefixCard

/-- THE TIED CARD OF 'pouchtop.PouchGrammar'. -/
def pouchGrammarCard : Claim7 := { stood := { row := pouchGrammarRow, standIns := [], harness := (true, "e684123e1cef6dd280bf5c0eaaafb42dce73eeba99105a7e40a5c63f5dd0a1eb"), looks := false }, kinds := [], alts := [], laidByText := true, laidKinds := [.data, .pinned], laidTests := true, laidLooks := .later }
def PouchGrammarCardSaid : Prop := Claim7.holds Tryz.pinned (.plain (OpenSpec.ofChange pouchGrammarSpec)) pouchGrammarCard

/-- THE TIED CARD OF 'pouchtop.PouchStream'. -/
def pouchStreamCard : Claim7 := { stood := { row := pouchStreamRow, standIns := [], harness := (true, "e684123e1cef6dd280bf5c0eaaafb42dce73eeba99105a7e40a5c63f5dd0a1eb"), looks := false }, kinds := [], alts := [], laidByText := true, laidKinds := [.data, .pinned], laidTests := true, laidLooks := .later }
def PouchStreamCardSaid : Prop := Claim7.holds Tryz.pinned (.plain (OpenSpec.ofChange pouchStreamSpec)) pouchStreamCard

/-- THE SECOND FORM's CARD OF 'pouchlaw09.DecodeBack'. -/
def decodeBackUptoCard : Claim7 := { stood := { row := decodeBackUptoRow, standIns := [], harness := (true, "e684123e1cef6dd280bf5c0eaaafb42dce73eeba99105a7e40a5c63f5dd0a1eb"), looks := false }, kinds := [], alts := [], laidByText := true, laidKinds := [.data, .pinned], laidTests := true, laidLooks := .later }
def DecodeBackUptoCardSaid : Prop := Claim7.holds Tryz.pinned (.plain (OpenSpec.upto decodeBackSpec)) decodeBackUptoCard

/-- THE SECOND FORM's CARD OF 'pouchlaw09.DecodeAgain'. -/
def decodeAgainUptoCard : Claim7 := { stood := { row := decodeAgainUptoRow, standIns := [], harness := (true, "e684123e1cef6dd280bf5c0eaaafb42dce73eeba99105a7e40a5c63f5dd0a1eb"), looks := false }, kinds := [], alts := [], laidByText := true, laidKinds := [.data, .pinned], laidTests := true, laidLooks := .later }
def DecodeAgainUptoCardSaid : Prop := Claim7.holds Tryz.pinned (.plain (OpenSpec.upto decodeAgainSpec)) decodeAgainUptoCard

/-- THE SECOND FORM's CARD OF 'pouchlaw09.DecodeCuts'. -/
def decodeCutsUptoCard : Claim7 := { stood := { row := decodeCutsUptoRow, standIns := [], harness := (true, "e684123e1cef6dd280bf5c0eaaafb42dce73eeba99105a7e40a5c63f5dd0a1eb"), looks := false }, kinds := [], alts := [], laidByText := true, laidKinds := [.data, .pinned], laidTests := true, laidLooks := .later }
def DecodeCutsUptoCardSaid : Prop := Claim7.holds Tryz.pinned (.plain (OpenSpec.upto decodeCutsSpec)) decodeCutsUptoCard

/-- THE SECOND FORM's CARD OF 'pouchlaw10.FramerFeeds'. -/
def framerFeedsUptoCard : Claim7 := { stood := { row := framerFeedsUptoRow, standIns := [], harness := (true, "e684123e1cef6dd280bf5c0eaaafb42dce73eeba99105a7e40a5c63f5dd0a1eb"), looks := false }, kinds := [], alts := [], laidByText := true, laidKinds := [.data, .pinned], laidTests := true, laidLooks := .later }
def FramerFeedsUptoCardSaid : Prop := Claim7.holds Tryz.pinned (.plain (OpenSpec.upto framerFeedsSpec)) framerFeedsUptoCard

/-- THE SECOND FORM's CARD OF 'pouchlaw10.FramerCuts'. -/
def framerCutsUptoCard : Claim7 := { stood := { row := framerCutsUptoRow, standIns := [], harness := (true, "e684123e1cef6dd280bf5c0eaaafb42dce73eeba99105a7e40a5c63f5dd0a1eb"), looks := false }, kinds := [], alts := [], laidByText := true, laidKinds := [.data, .pinned], laidTests := true, laidLooks := .later }
def FramerCutsUptoCardSaid : Prop := Claim7.holds Tryz.pinned (.plain (OpenSpec.upto framerCutsSpec)) framerCutsUptoCard

/-- THE SECOND FORM's CARD OF 'pouchtop.PouchRound'. -/
def pouchRoundUptoCard : Claim7 := { stood := { row := pouchRoundUptoRow, standIns := [], harness := (true, "e684123e1cef6dd280bf5c0eaaafb42dce73eeba99105a7e40a5c63f5dd0a1eb"), looks := false }, kinds := [], alts := [], laidByText := true, laidKinds := [.data, .pinned], laidTests := true, laidLooks := .later }
def PouchRoundUptoCardSaid : Prop := Claim7.holds Tryz.pinned (.plain (OpenSpec.upto pouchRoundSpec)) pouchRoundUptoCard

/-- THE SECOND FORM's CARD OF 'pouchtop.PouchPrefix'. -/
def pouchPrefixUptoCard : Claim7 := { stood := { row := pouchPrefixUptoRow, standIns := [], harness := (true, "e684123e1cef6dd280bf5c0eaaafb42dce73eeba99105a7e40a5c63f5dd0a1eb"), looks := false }, kinds := [], alts := [], laidByText := true, laidKinds := [.data, .pinned], laidTests := true, laidLooks := .later }
def PouchPrefixUptoCardSaid : Prop := Claim7.holds Tryz.pinned (.plain (OpenSpec.upto pouchPrefixSpec)) pouchPrefixUptoCard

/-- THE SECOND FORM's CARD OF 'pouchtop.PouchGrammar'. -/
def pouchGrammarUptoCard : Claim7 := { stood := { row := pouchGrammarUptoRow, standIns := [], harness := (true, "e684123e1cef6dd280bf5c0eaaafb42dce73eeba99105a7e40a5c63f5dd0a1eb"), looks := false }, kinds := [], alts := [], laidByText := true, laidKinds := [.data, .pinned], laidTests := true, laidLooks := .later }
def PouchGrammarUptoCardSaid : Prop := Claim7.holds Tryz.pinned (.plain (OpenSpec.upto pouchGrammarSpec)) pouchGrammarUptoCard

/-- THE SECOND FORM's CARD OF 'pouchtop.PouchStream'. -/
def pouchStreamUptoCard : Claim7 := { stood := { row := pouchStreamUptoRow, standIns := [], harness := (true, "e684123e1cef6dd280bf5c0eaaafb42dce73eeba99105a7e40a5c63f5dd0a1eb"), looks := false }, kinds := [], alts := [], laidByText := true, laidKinds := [.data, .pinned], laidTests := true, laidLooks := .later }
def PouchStreamUptoCardSaid : Prop := Claim7.holds Tryz.pinned (.plain (OpenSpec.upto pouchStreamSpec)) pouchStreamUptoCard
end Rows
end Go.Proofs.YtdgmkcfkpknamaaGreatDoor
