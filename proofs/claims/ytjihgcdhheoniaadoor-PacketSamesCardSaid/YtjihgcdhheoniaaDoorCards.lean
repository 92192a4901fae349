/-
  DERIVED. GIVEN WITH THE SEED: THE CARDS: each row of YtjihgcdhheoniaaDoorRows.lean that lists a variable, with what it lists TIED to the program's text (the seventh form; the later family's looks); each row that meets fmt, with fmt's text TOLD by the authors' own Lean function (tested against real Go, not proved from fmt's source: count such statements apart). THE CARD IS WHAT COUNTS. Prove the row's statement (the work); the ties are given (YtjihgcdhheoniaaDoorTie.lean); close each card by the builder's one call (the guide's Derived/Test/ToyasCard.lean, 'card_holds'). Laid BY PROGRAM, IN A SANDBOX (cutbox-door.mjs). By AI agents, Wed Nov 11 2026. No macro, syntax, notation, axiom, sorry.
-/
import Derived.Test.YtjihgcdhheoniaaDoorRows
import GoSem.ClaimSeven
namespace Go.Proofs.YtjihgcdhheoniaaDoor
namespace Rows

/-- THE TIED CARD OF 'pouchlaw07.PacketSames'. -/
def packetSamesCard : Claim7 := { stood := { row := packetSamesRow, standIns := [], harness := (true, "66cc76b535840ae37ee15fb6ad102bcbd976326152331e796d955d9a8d9c31bd"), looks := false }, kinds := [], alts := [], laidByText := true, laidKinds := [.data, .data, .pinned], laidTests := true, laidLooks := .later }
def PacketSamesCardSaid : Prop := Claim7.holds Tryd.pinned (.plain (OpenSpec.ofChange packetSamesSpec)) packetSamesCard

/-- THE SECOND FORM's CARD OF 'pouchlaw07.PacketSames'. -/
def packetSamesUptoCard : Claim7 := { stood := { row := packetSamesUptoRow, standIns := [], harness := (true, "66cc76b535840ae37ee15fb6ad102bcbd976326152331e796d955d9a8d9c31bd"), looks := false }, kinds := [], alts := [], laidByText := true, laidKinds := [.data, .data, .pinned], laidTests := true, laidLooks := .later }
def PacketSamesUptoCardSaid : Prop := Claim7.holds Tryd.pinned (.plain (OpenSpec.upto packetSamesSpec)) packetSamesUptoCard
end Rows
end Go.Proofs.YtjihgcdhheoniaaDoor
