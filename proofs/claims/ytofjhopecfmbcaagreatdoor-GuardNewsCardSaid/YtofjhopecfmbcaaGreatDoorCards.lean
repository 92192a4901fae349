/-
  DERIVED. GIVEN WITH THE SEED: THE CARDS: each row of YtofjhopecfmbcaaGreatDoorRows.lean that lists a variable, with what it lists TIED to the program's text (the seventh form; the later family's looks); each row that meets fmt, with fmt's text TOLD by the authors' own Lean function (tested against real Go, not proved from fmt's source: count such statements apart). THE CARD IS WHAT COUNTS. Prove the row's statement (the work); the ties are given (YtofjhopecfmbcaaGreatDoorTie.lean); close each card by the builder's one call (the guide's Derived/Test/ToyasCard.lean, 'card_holds'). Laid BY PROGRAM, IN A SANDBOX (cutbox-door.mjs). By AI agents, Wed Nov 11 2026. No macro, syntax, notation, axiom, sorry.
-/
import Derived.Test.YtofjhopecfmbcaaGreatDoorRows
import GoSem.ClaimSeven
namespace Go.Proofs.YtofjhopecfmbcaaGreatDoor
namespace Rows

/-- THE TIED CARD OF 'pouchlaw14.GuardNews'. -/
def guardNewsCard : Claim7 := { stood := { row := guardNewsRow, standIns := [], harness := (true, "79f54228148f5a45dace73d6bf260e033670697dcb9763c68105cc8de8bcee67"), looks := false }, kinds := [], alts := [], laidByText := true, laidKinds := [.data, .pinned], laidTests := true, laidLooks := .later }
def GuardNewsCardSaid : Prop := Claim7.holds Tryz.pinned (.plain (OpenSpec.ofChange guardNewsSpec)) guardNewsCard

/-- THE SECOND FORM's CARD OF 'pouchlaw14.GuardNews'. -/
def guardNewsUptoCard : Claim7 := { stood := { row := guardNewsUptoRow, standIns := [], harness := (true, "79f54228148f5a45dace73d6bf260e033670697dcb9763c68105cc8de8bcee67"), looks := false }, kinds := [], alts := [], laidByText := true, laidKinds := [.data, .pinned], laidTests := true, laidLooks := .later }
def GuardNewsUptoCardSaid : Prop := Claim7.holds Tryz.pinned (.plain (OpenSpec.upto guardNewsSpec)) guardNewsUptoCard
end Rows
end Go.Proofs.YtofjhopecfmbcaaGreatDoor
