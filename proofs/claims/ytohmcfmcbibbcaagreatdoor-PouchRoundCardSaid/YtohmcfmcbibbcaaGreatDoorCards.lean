/-
  DERIVED. GIVEN WITH THE SEED: THE CARDS: each row of YtohmcfmcbibbcaaGreatDoorRows.lean that lists a variable, with what it lists TIED to the program's text (the seventh form; the later family's looks); each row that meets fmt, with fmt's text TOLD by the authors' own Lean function (tested against real Go, not proved from fmt's source: count such statements apart). THE CARD IS WHAT COUNTS. Prove the row's statement (the work); the ties are given (YtohmcfmcbibbcaaGreatDoorTie.lean); close each card by the builder's one call (the guide's Derived/Test/ToyasCard.lean, 'card_holds'). Laid BY PROGRAM, IN A SANDBOX (cutbox-door.mjs). By AI agents, Wed Nov 11 2026. No macro, syntax, notation, axiom, sorry.
-/
import Derived.Test.YtohmcfmcbibbcaaGreatDoorRows
import GoSem.ClaimSeven
namespace Go.Proofs.YtohmcfmcbibbcaaGreatDoor
namespace Rows

/-- THE TIED CARD OF 'pouchtop.PouchRound'. -/
def pouchRoundCard : Claim7 := { stood := { row := pouchRoundRow, standIns := [], harness := (true, "0a44a52f044d0685389ab9a7fd8baa5df7810bf909d8e96803841f5cc7145783"), looks := false }, kinds := [], alts := [], laidByText := true, laidKinds := [.data, .pinned], laidTests := true, laidLooks := .later }
def PouchRoundCardSaid : Prop := Claim7.holds Tryz.pinned (.plain (OpenSpec.ofChange pouchRoundSpec)) pouchRoundCard

/-- THE TIED CARD OF 'pouchtop.PouchPrefix'. -/
def pouchPrefixCard : Claim7 := { stood := { row := pouchPrefixRow, standIns := [], harness := (true, "0a44a52f044d0685389ab9a7fd8baa5df7810bf909d8e96803841f5cc7145783"), looks := false }, kinds := [], alts := [], laidByText := true, laidKinds := [.data, .pinned], laidTests := true, laidLooks := .later }
def PouchPrefixCardSaid : Prop := Claim7.holds Tryz.pinned (.plain (OpenSpec.ofChange pouchPrefixSpec)) pouchPrefixCard

/-- THE TIED CARD OF 'pouchtop.PouchGrammar'. -/
def pouchGrammarCard : Claim7 := { stood := { row := pouchGrammarRow, standIns := [], harness := (true, "0a44a52f044d0685389ab9a7fd8baa5df7810bf909d8e96803841f5cc7145783"), looks := false }, kinds := [], alts := [], laidByText := true, laidKinds := [.data, .pinned], laidTests := true, laidLooks := .later }
def PouchGrammarCardSaid : Prop := Claim7.holds Tryz.pinned (.plain (OpenSpec.ofChange pouchGrammarSpec)) pouchGrammarCard

/-- THE TIED CARD OF 'pouchtop.PouchStream'. -/
def pouchStreamCard : Claim7 := { stood := { row := pouchStreamRow, standIns := [], harness := (true, "0a44a52f044d0685389ab9a7fd8baa5df7810bf909d8e96803841f5cc7145783"), looks := false }, kinds := [], alts := [], laidByText := true, laidKinds := [.data, .pinned], laidTests := true, laidLooks := .later }
def PouchStreamCardSaid : Prop := Claim7.holds Tryz.pinned (.plain (OpenSpec.ofChange pouchStreamSpec)) pouchStreamCard

/-- THE SECOND FORM's CARD OF 'pouchtop.PouchRound'. -/
def pouchRoundUptoCard : Claim7 := { stood := { row := pouchRoundUptoRow, standIns := [], harness := (true, "0a44a52f044d0685389ab9a7fd8baa5df7810bf909d8e96803841f5cc7145783"), looks := false }, kinds := [], alts := [], laidByText := true, laidKinds := [.data, .pinned], laidTests := true, laidLooks := .later }
def PouchRoundUptoCardSaid : Prop := Claim7.holds Tryz.pinned (.plain (OpenSpec.upto pouchRoundSpec)) pouchRoundUptoCard

/-- THE SECOND FORM's CARD OF 'pouchtop.PouchPrefix'. -/
def pouchPrefixUptoCard : Claim7 := { stood := { row := pouchPrefixUptoRow, standIns := [], harness := (true, "0a44a52f044d0685389ab9a7fd8baa5df7810bf909d8e96803841f5cc7145783"), looks := false }, kinds := [], alts := [], laidByText := true, laidKinds := [.data, .pinned], laidTests := true, laidLooks := .later }
def PouchPrefixUptoCardSaid : Prop := Claim7.holds Tryz.pinned (.plain (OpenSpec.upto pouchPrefixSpec)) pouchPrefixUptoCard

/-- THE SECOND FORM's CARD OF 'pouchtop.PouchGrammar'. -/
def pouchGrammarUptoCard : Claim7 := { stood := { row := pouchGrammarUptoRow, standIns := [], harness := (true, "0a44a52f044d0685389ab9a7fd8baa5df7810bf909d8e96803841f5cc7145783"), looks := false }, kinds := [], alts := [], laidByText := true, laidKinds := [.data, .pinned], laidTests := true, laidLooks := .later }
def PouchGrammarUptoCardSaid : Prop := Claim7.holds Tryz.pinned (.plain (OpenSpec.upto pouchGrammarSpec)) pouchGrammarUptoCard

/-- THE SECOND FORM's CARD OF 'pouchtop.PouchStream'. -/
def pouchStreamUptoCard : Claim7 := { stood := { row := pouchStreamUptoRow, standIns := [], harness := (true, "0a44a52f044d0685389ab9a7fd8baa5df7810bf909d8e96803841f5cc7145783"), looks := false }, kinds := [], alts := [], laidByText := true, laidKinds := [.data, .pinned], laidTests := true, laidLooks := .later }
def PouchStreamUptoCardSaid : Prop := Claim7.holds Tryz.pinned (.plain (OpenSpec.upto pouchStreamSpec)) pouchStreamUptoCard
end Rows
end Go.Proofs.YtohmcfmcbibbcaaGreatDoor
