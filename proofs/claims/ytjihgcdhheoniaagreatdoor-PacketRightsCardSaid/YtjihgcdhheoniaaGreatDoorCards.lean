/-
  DERIVED. GIVEN WITH THE SEED: THE CARDS: each row of YtjihgcdhheoniaaGreatDoorRows.lean that lists a variable, with what it lists TIED to the program's text (the seventh form; the later family's looks); each row that meets fmt, with fmt's text TOLD by the authors' own Lean function (tested against real Go, not proved from fmt's source: count such statements apart). THE CARD IS WHAT COUNTS. Prove the row's statement (the work); the ties are given (YtjihgcdhheoniaaGreatDoorTie.lean); close each card by the builder's one call (the guide's Derived/Test/ToyasCard.lean, 'card_holds'). Laid BY PROGRAM, IN A SANDBOX (cutbox-door.mjs). By AI agents, Wed Nov 11 2026. No macro, syntax, notation, axiom, sorry.
-/
import Derived.Test.YtjihgcdhheoniaaGreatDoorRows
import GoSem.ClaimSeven
namespace Go.Proofs.YtjihgcdhheoniaaGreatDoor
namespace Rows

/-- THE TIED CARD OF 'pouchlaw07.PacketRights'. -/
def packetRightsCard : Claim7 := { stood := { row := packetRightsRow, standIns := [], harness := (true, "fc16c421d1072c42934704fc1d3e3c593f355920255106ed5d8e942582823d5a"), looks := false }, kinds := [], alts := [], laidByText := true, laidKinds := [.data, .data, .pinned], laidTests := true, laidLooks := .later }
def PacketRightsCardSaid : Prop := Claim7.holds Tryz.pinned (.plain (OpenSpec.ofChange packetRightsSpec)) packetRightsCard

/-- THE TIED CARD OF 'pouchlaw07.PacketFixes'. -/
def packetFixesCard : Claim7 := { stood := { row := packetFixesRow, standIns := [], harness := (true, "fc16c421d1072c42934704fc1d3e3c593f355920255106ed5d8e942582823d5a"), looks := false }, kinds := [], alts := [], laidByText := true, laidKinds := [.data, .data, .pinned], laidTests := true, laidLooks := .later }
def PacketFixesCardSaid : Prop := Claim7.holds Tryz.pinned (.plain (OpenSpec.ofChange packetFixesSpec)) packetFixesCard

/-- THE TIED CARD OF 'pouchlaw07.PacketBares'. -/
def packetBaresCard : Claim7 := { stood := { row := packetBaresRow, standIns := [], harness := (true, "fc16c421d1072c42934704fc1d3e3c593f355920255106ed5d8e942582823d5a"), looks := false }, kinds := [], alts := [], laidByText := true, laidKinds := [.data, .data, .pinned], laidTests := true, laidLooks := .later }
def PacketBaresCardSaid : Prop := Claim7.holds Tryz.pinned (.plain (OpenSpec.ofChange packetBaresSpec)) packetBaresCard

/-- THE SECOND FORM's CARD OF 'pouchlaw07.PacketRights'. -/
def packetRightsUptoCard : Claim7 := { stood := { row := packetRightsUptoRow, standIns := [], harness := (true, "fc16c421d1072c42934704fc1d3e3c593f355920255106ed5d8e942582823d5a"), looks := false }, kinds := [], alts := [], laidByText := true, laidKinds := [.data, .data, .pinned], laidTests := true, laidLooks := .later }
def PacketRightsUptoCardSaid : Prop := Claim7.holds Tryz.pinned (.plain (OpenSpec.upto packetRightsSpec)) packetRightsUptoCard

/-- THE SECOND FORM's CARD OF 'pouchlaw07.PacketFixes'. -/
def packetFixesUptoCard : Claim7 := { stood := { row := packetFixesUptoRow, standIns := [], harness := (true, "fc16c421d1072c42934704fc1d3e3c593f355920255106ed5d8e942582823d5a"), looks := false }, kinds := [], alts := [], laidByText := true, laidKinds := [.data, .data, .pinned], laidTests := true, laidLooks := .later }
def PacketFixesUptoCardSaid : Prop := Claim7.holds Tryz.pinned (.plain (OpenSpec.upto packetFixesSpec)) packetFixesUptoCard

/-- THE SECOND FORM's CARD OF 'pouchlaw07.PacketBares'. -/
def packetBaresUptoCard : Claim7 := { stood := { row := packetBaresUptoRow, standIns := [], harness := (true, "fc16c421d1072c42934704fc1d3e3c593f355920255106ed5d8e942582823d5a"), looks := false }, kinds := [], alts := [], laidByText := true, laidKinds := [.data, .data, .pinned], laidTests := true, laidLooks := .later }
def PacketBaresUptoCardSaid : Prop := Claim7.holds Tryz.pinned (.plain (OpenSpec.upto packetBaresSpec)) packetBaresUptoCard
end Rows
end Go.Proofs.YtjihgcdhheoniaaGreatDoor
