/-
  DERIVED. GIVEN WITH THE SEED: THE CARDS: each row of YtbddcogjeahfeaaGreatDoorRows.lean that lists a variable, with what it lists TIED to the program's text (the seventh form; the later family's looks); each row that meets fmt, with fmt's text TOLD by the authors' own Lean function (tested against real Go, not proved from fmt's source: count such statements apart). THE CARD IS WHAT COUNTS. Prove the row's statement (the work); the ties are given (YtbddcogjeahfeaaGreatDoorTie.lean); close each card by the builder's one call (the guide's Derived/Test/ToyasCard.lean, 'card_holds'). Laid BY PROGRAM, IN A SANDBOX (cutbox-door.mjs). By AI agents, Wed Nov 11 2026. No macro, syntax, notation, axiom, sorry.
-/
import Derived.Test.YtbddcogjeahfeaaGreatDoorRows
import GoSem.ClaimSeven
namespace Go.Proofs.YtbddcogjeahfeaaGreatDoor
namespace Rows

/-- THE TIED CARD OF 'pouchlaw13.LimitsOf'. -/
def limitsOfCard : Claim7 := { stood := { row := limitsOfRow, standIns := [], harness := (true, "9acc9a516cff9bd646bf727d212454370e8ad60d0727f094dfd166f7cc6124c9"), looks := false }, kinds := [], alts := [], laidByText := true, laidKinds := [.data, .pinned], laidTests := true, laidLooks := .later }
def LimitsOfCardSaid : Prop := Claim7.holds Tryz.pinned (.plain (OpenSpec.ofChange limitsOfSpec)) limitsOfCard

/-- THE TIED CARD OF 'pouchlaw13.LimitsFixes'. -/
def limitsFixesCard : Claim7 := { stood := { row := limitsFixesRow, standIns := [], harness := (true, "9acc9a516cff9bd646bf727d212454370e8ad60d0727f094dfd166f7cc6124c9"), looks := false }, kinds := [], alts := [], laidByText := true, laidKinds := [.data, .pinned], laidTests := true, laidLooks := .later }
def LimitsFixesCardSaid : Prop := Claim7.holds Tryz.pinned (.plain (OpenSpec.ofChange limitsFixesSpec)) limitsFixesCard

/-- THE SECOND FORM's CARD OF 'pouchlaw13.LimitsOf'. -/
def limitsOfUptoCard : Claim7 := { stood := { row := limitsOfUptoRow, standIns := [], harness := (true, "9acc9a516cff9bd646bf727d212454370e8ad60d0727f094dfd166f7cc6124c9"), looks := false }, kinds := [], alts := [], laidByText := true, laidKinds := [.data, .pinned], laidTests := true, laidLooks := .later }
def LimitsOfUptoCardSaid : Prop := Claim7.holds Tryz.pinned (.plain (OpenSpec.upto limitsOfSpec)) limitsOfUptoCard

/-- THE SECOND FORM's CARD OF 'pouchlaw13.LimitsFixes'. -/
def limitsFixesUptoCard : Claim7 := { stood := { row := limitsFixesUptoRow, standIns := [], harness := (true, "9acc9a516cff9bd646bf727d212454370e8ad60d0727f094dfd166f7cc6124c9"), looks := false }, kinds := [], alts := [], laidByText := true, laidKinds := [.data, .pinned], laidTests := true, laidLooks := .later }
def LimitsFixesUptoCardSaid : Prop := Claim7.holds Tryz.pinned (.plain (OpenSpec.upto limitsFixesSpec)) limitsFixesUptoCard
end Rows
end Go.Proofs.YtbddcogjeahfeaaGreatDoor
