/-
  DERIVED. GIVEN WITH THE SEED: THE CARDS: each row of YtkochkhfbhjicaaGreatDoorRows.lean that lists a variable, with what it lists TIED to the program's text (the seventh form; the later family's looks); each row that meets fmt, with fmt's text TOLD by the authors' own Lean function (tested against real Go, not proved from fmt's source: count such statements apart). THE CARD IS WHAT COUNTS. Prove the row's statement (the work); the ties are given (YtkochkhfbhjicaaGreatDoorTie.lean); close each card by the builder's one call (the guide's Derived/Test/ToyasCard.lean, 'card_holds'). Laid BY PROGRAM, IN A SANDBOX (cutbox-door.mjs). By AI agents, Wed Nov 11 2026. No macro, syntax, notation, axiom, sorry.
-/
import Derived.Test.YtkochkhfbhjicaaGreatDoorRows
import GoSem.ClaimSeven
namespace Go.Proofs.YtkochkhfbhjicaaGreatDoor
namespace Rows

/-- THE TIED CARD OF 'pouchlaw08.EncodeOnce'. -/
def encodeOnceCard : Claim7 := { stood := { row := encodeOnceRow, standIns := [], harness := (true, "1237d02bdf0dea301c2c5f19d9e4662e444578cc1043ca746b4154d2293088bf"), looks := false }, kinds := [], alts := [], laidByText := true, laidKinds := [.data, .pinned], laidTests := true, laidLooks := .later }
def EncodeOnceCardSaid : Prop := Claim7.holds Tryz.pinned (.plain (OpenSpec.ofChange encodeOnceSpec)) encodeOnceCard

/-- THE SECOND FORM's CARD OF 'pouchlaw08.EncodeOnce'. -/
def encodeOnceUptoCard : Claim7 := { stood := { row := encodeOnceUptoRow, standIns := [], harness := (true, "1237d02bdf0dea301c2c5f19d9e4662e444578cc1043ca746b4154d2293088bf"), looks := false }, kinds := [], alts := [], laidByText := true, laidKinds := [.data, .pinned], laidTests := true, laidLooks := .later }
def EncodeOnceUptoCardSaid : Prop := Claim7.holds Tryz.pinned (.plain (OpenSpec.upto encodeOnceSpec)) encodeOnceUptoCard
end Rows
end Go.Proofs.YtkochkhfbhjicaaGreatDoor
