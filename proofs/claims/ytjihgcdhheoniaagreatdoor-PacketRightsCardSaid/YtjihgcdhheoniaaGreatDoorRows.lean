/-
  NARROWER THAN 'FOR EVERY INPUT', by the rows' own cells (each row's printed sentence says how): PacketRights: laid · PacketFixes: laid · PacketBares: laid.
  DERIVED. THE GIVEN ROWS OF THIS SEAT. 3 by the template 'for every input the law returns true; each argument reads behind the call as it read before'; 0 by the template 'total and deterministic' (their statements: YtjihgcdhheoniaaGreatDoorTotals.lean).
  GIVEN WITH THE SEED: the statements are not yours to turn. If you find one false, say at which input.
  Laid BY PROGRAM, IN A SANDBOX (cutbox-rows.mjs): the forced cells as the released guide's own fill.sh prints them over the translation f4d5dec2e76192c3… (all of the seat's roots in one cut). By AI agents, Wed Nov 11 2026. No macro, syntax, notation, axiom, sorry.
-/
import Derived.Test.YtjihgcdhheoniaaGreatDoorChecked
import GoSem.PinnedTables
import GoSem.Claim
import GoSem.ClaimJoined
import GoSem.ClaimMapViews
import Derived.JoinedTies
import Derived.KernelRfl
namespace Go.Proofs.YtjihgcdhheoniaaGreatDoor
/- THE CELL 'sum', in the pinned program and in every row, IS THE sha256 OF THE DUMP (.gsa) THAT YtjihgcdhheoniaaGreatDoorProg.lean LOADS. Nothing in Lean hashes anything: it is a label: what it is worth is what the hold of that sum in a sandbox is worth. -/
noncomputable def Tryz.pinned : Pinned := { name := "ytjihgcdhheoniaagreatdoor", sum := "f4d5dec2e76192c362ac0b1a4bc221a139958e54f94350734ea3e040e0e00de4", checked := Tryz.checked }
namespace Rows
def none {H : Type} : Left H := { results := [], args := [] }

/- WHAT THE LISTED PACKAGE-LEVEL VARIABLES READ AS WHEN THE CALL BEGINS. Each datum BY PROGRAM (the guide's laid-datum.mjs) off the statement by which the dump's own 'gosem.cut.vars' lays the variable. In a bare row this is a premise. The card (YtjihgcdhheoniaaGreatDoorCards.lean) ties it to the program's text. -/
def laid_unicode_utf8_acceptRanges {H : Type} : DataW H := .agg [.agg [.lit (.int .u8 128), .lit (.int .u8 191)], .agg [.lit (.int .u8 160), .lit (.int .u8 191)], .agg [.lit (.int .u8 128), .lit (.int .u8 159)], .agg [.lit (.int .u8 144), .lit (.int .u8 191)], .agg [.lit (.int .u8 128), .lit (.int .u8 143)], .agg [.lit (.int .u8 0), .lit (.int .u8 0)], .agg [.lit (.int .u8 0), .lit (.int .u8 0)], .agg [.lit (.int .u8 0), .lit (.int .u8 0)], .agg [.lit (.int .u8 0), .lit (.int .u8 0)], .agg [.lit (.int .u8 0), .lit (.int .u8 0)], .agg [.lit (.int .u8 0), .lit (.int .u8 0)], .agg [.lit (.int .u8 0), .lit (.int .u8 0)], .agg [.lit (.int .u8 0), .lit (.int .u8 0)], .agg [.lit (.int .u8 0), .lit (.int .u8 0)], .agg [.lit (.int .u8 0), .lit (.int .u8 0)], .agg [.lit (.int .u8 0), .lit (.int .u8 0)]]
def laid_pouch_packet_names {H : Type} : DataW H := .agg [.lit (.string [99, 111, 110, 110, 101, 99, 116]), .lit (.string [99, 111, 110, 110, 97, 99, 107]), .lit (.string [112, 117, 98, 108, 105, 115, 104]), .lit (.string [112, 117, 98, 97, 99, 107]), .lit (.string [112, 117, 98, 114, 101, 99]), .lit (.string [112, 117, 98, 114, 101, 108]), .lit (.string [112, 117, 98, 99, 111, 109, 112]), .lit (.string [115, 117, 98, 115, 99, 114, 105, 98, 101]), .lit (.string [115, 117, 98, 97, 99, 107]), .lit (.string [117, 110, 115, 117, 98, 115, 99, 114, 105, 98, 101]), .lit (.string [117, 110, 115, 117, 98, 97, 99, 107]), .lit (.string [112, 105, 110, 103, 114, 101, 113]), .lit (.string [112, 105, 110, 103, 114, 101, 115, 112]), .lit (.string [100, 105, 115, 99, 111, 110, 110, 101, 99, 116]), .lit (.string [97, 117, 116, 104])]
/-- One of Go's own tables, pinned by name: the form's constant. -/
def laid_unicode_utf8_first : DataW Unit := Go.Pinned.utf8First

/-- 'pouchlaw07.PacketRights': WHATEVER THE INPUT: true; the input reads as it did. -/
def packetRightsSpec : ChangeSpec := { name := "packetRights", fn := fun _ => fun
  | [d1, d2] => { results := [.lit (.bool true)], args := [d1, d2] }
  | _ => none }
def packetRightsRow : OpenClaim := { program := "ytjihgcdhheoniaagreatdoor", sum := "f4d5dec2e76192c362ac0b1a4bc221a139958e54f94350734ea3e040e0e00de4", func := "pouch/pouchlaw07.PacketRights", spec := "packetRights", inPlace := ["internal/bytealg.IndexByteString", "internal/bytealg.IndexString", "internal/bytealg.CountString"], named := ["unicode/utf8.first", "unicode/utf8.acceptRanges", "internal/bytealg.MaxLen", "pouch/packet.names"], apart := false, laid := [("unicode/utf8.acceptRanges", laid_unicode_utf8_acceptRanges), ("pouch/packet.names", laid_pouch_packet_names), ("unicode/utf8.first", laid_unicode_utf8_first)] }
def PacketRightsSaid : Prop := packetRightsRow.holds Tryz.pinned (OpenSpec.ofChange packetRightsSpec)

/-- ITS FALSE NEIGHBOUR: 'it returns false'. Refute it at one input. -/
def packetRightsWrong : ChangeSpec := { name := "packetRights", fn := fun _ => fun
  | [d1, d2] => { results := [.lit (.bool false)], args := [d1, d2] }
  | _ => none }
def PacketRightsWrongFalsely : Prop := packetRightsRow.holds Tryz.pinned (OpenSpec.ofChange packetRightsWrong)

/-- 'pouchlaw07.PacketFixes': WHATEVER THE INPUT: true; the input reads as it did. -/
def packetFixesSpec : ChangeSpec := { name := "packetFixes", fn := fun _ => fun
  | [d1, d2, d3] => { results := [.lit (.bool true)], args := [d1, d2, d3] }
  | _ => none }
def packetFixesRow : OpenClaim := { program := "ytjihgcdhheoniaagreatdoor", sum := "f4d5dec2e76192c362ac0b1a4bc221a139958e54f94350734ea3e040e0e00de4", func := "pouch/pouchlaw07.PacketFixes", spec := "packetFixes", inPlace := ["internal/bytealg.IndexByteString", "internal/bytealg.IndexString", "internal/bytealg.CountString"], named := ["unicode/utf8.first", "unicode/utf8.acceptRanges", "internal/bytealg.MaxLen", "pouch/packet.names"], apart := false, laid := [("unicode/utf8.acceptRanges", laid_unicode_utf8_acceptRanges), ("pouch/packet.names", laid_pouch_packet_names), ("unicode/utf8.first", laid_unicode_utf8_first)] }
def PacketFixesSaid : Prop := packetFixesRow.holds Tryz.pinned (OpenSpec.ofChange packetFixesSpec)

/-- ITS FALSE NEIGHBOUR: 'it returns false'. Refute it at one input. -/
def packetFixesWrong : ChangeSpec := { name := "packetFixes", fn := fun _ => fun
  | [d1, d2, d3] => { results := [.lit (.bool false)], args := [d1, d2, d3] }
  | _ => none }
def PacketFixesWrongFalsely : Prop := packetFixesRow.holds Tryz.pinned (OpenSpec.ofChange packetFixesWrong)

/-- 'pouchlaw07.PacketBares': WHATEVER THE INPUT: true; the input reads as it did. -/
def packetBaresSpec : ChangeSpec := { name := "packetBares", fn := fun _ => fun
  | [d1, d2, d3] => { results := [.lit (.bool true)], args := [d1, d2, d3] }
  | _ => none }
def packetBaresRow : OpenClaim := { program := "ytjihgcdhheoniaagreatdoor", sum := "f4d5dec2e76192c362ac0b1a4bc221a139958e54f94350734ea3e040e0e00de4", func := "pouch/pouchlaw07.PacketBares", spec := "packetBares", inPlace := ["internal/bytealg.IndexByteString", "internal/bytealg.IndexString", "internal/bytealg.CountString"], named := ["unicode/utf8.first", "unicode/utf8.acceptRanges", "internal/bytealg.MaxLen", "pouch/packet.names"], apart := false, laid := [("unicode/utf8.acceptRanges", laid_unicode_utf8_acceptRanges), ("pouch/packet.names", laid_pouch_packet_names), ("unicode/utf8.first", laid_unicode_utf8_first)] }
def PacketBaresSaid : Prop := packetBaresRow.holds Tryz.pinned (OpenSpec.ofChange packetBaresSpec)

/-- ITS FALSE NEIGHBOUR: 'it returns false'. Refute it at one input. -/
def packetBaresWrong : ChangeSpec := { name := "packetBares", fn := fun _ => fun
  | [d1, d2, d3] => { results := [.lit (.bool false)], args := [d1, d2, d3] }
  | _ => none }
def PacketBaresWrongFalsely : Prop := packetBaresRow.holds Tryz.pinned (OpenSpec.ofChange packetBaresWrong)

/- THE SECOND FORM. 'bulk': how many values and letters a reading holds, each counted each time it is reached (what is shared counts as often as it is met; a slice's spare places count too). A statement '..UptoSaid' is the law's where the arguments, and the package variables that the reading takes, are together of bulk at most 1048576: NARROWER than '..Said'. Prove '..Said' where nothing that the law and all that it calls make is longer than what came in: it says more and counts as full. Else prove '..UptoSaid'. A law counts once. -/
mutual
def uptoBulk {H : Type} : DataW H → Nat
  | .lit (.string bytes) => bytes.length + 1
  | .lit _ => 1
  | .nil => 1
  | .ptr d => uptoBulk d + 1
  | .slice elems spare => uptoBulkAll elems + uptoBulkAll spare + 1
  | .agg parts => uptoBulkAll parts + 1
  | .iface _ d => uptoBulk d + 1
  | .map entries => uptoBulkEntries entries + 1
  | .held _ => 1
def uptoBulkAll {H : Type} : List (DataW H) → Nat
  | [] => 0
  | d :: r => uptoBulk d + uptoBulkAll r
def uptoBulkEntries {H : Type} : List (Lit × DataW H) → Nat
  | [] => 0
  | x :: r => uptoBulkEntry x + uptoBulkEntries r
def uptoBulkEntry {H : Type} : Lit × DataW H → Nat
  | (.string bytes, d) => bytes.length + uptoBulk d + 1
  | (_, d) => uptoBulk d + 1
 end
def uptoSmall : (H : Type) → List (DataW H) → Bool := fun _ ds => decide (uptoBulkAll ds ≤ 1048576)
def OpenSpec.upto (s : _root_.Go.ChangeSpec) : _root_.Go.OpenSpec := { _root_.Go.OpenSpec.ofChange s with cond := some uptoSmall }

/-- 'pouchlaw07.PacketRights', WHERE WHAT IT READS IS OF BULK AT MOST 1048576: true; the input reads as it did. -/
def packetRightsUptoRow : OpenClaim := { program := "ytjihgcdhheoniaagreatdoor", sum := "f4d5dec2e76192c362ac0b1a4bc221a139958e54f94350734ea3e040e0e00de4", func := "pouch/pouchlaw07.PacketRights", spec := "packetRights", inPlace := ["internal/bytealg.IndexByteString", "internal/bytealg.IndexString", "internal/bytealg.CountString"], named := ["unicode/utf8.first", "unicode/utf8.acceptRanges", "internal/bytealg.MaxLen", "pouch/packet.names"], apart := false, laid := [("unicode/utf8.acceptRanges", laid_unicode_utf8_acceptRanges), ("pouch/packet.names", laid_pouch_packet_names), ("unicode/utf8.first", laid_unicode_utf8_first)], narrowed := true }
def PacketRightsUptoSaid : Prop := packetRightsUptoRow.holds Tryz.pinned (OpenSpec.upto packetRightsSpec)

/-- 'pouchlaw07.PacketFixes', WHERE WHAT IT READS IS OF BULK AT MOST 1048576: true; the input reads as it did. -/
def packetFixesUptoRow : OpenClaim := { program := "ytjihgcdhheoniaagreatdoor", sum := "f4d5dec2e76192c362ac0b1a4bc221a139958e54f94350734ea3e040e0e00de4", func := "pouch/pouchlaw07.PacketFixes", spec := "packetFixes", inPlace := ["internal/bytealg.IndexByteString", "internal/bytealg.IndexString", "internal/bytealg.CountString"], named := ["unicode/utf8.first", "unicode/utf8.acceptRanges", "internal/bytealg.MaxLen", "pouch/packet.names"], apart := false, laid := [("unicode/utf8.acceptRanges", laid_unicode_utf8_acceptRanges), ("pouch/packet.names", laid_pouch_packet_names), ("unicode/utf8.first", laid_unicode_utf8_first)], narrowed := true }
def PacketFixesUptoSaid : Prop := packetFixesUptoRow.holds Tryz.pinned (OpenSpec.upto packetFixesSpec)

/-- 'pouchlaw07.PacketBares', WHERE WHAT IT READS IS OF BULK AT MOST 1048576: true; the input reads as it did. -/
def packetBaresUptoRow : OpenClaim := { program := "ytjihgcdhheoniaagreatdoor", sum := "f4d5dec2e76192c362ac0b1a4bc221a139958e54f94350734ea3e040e0e00de4", func := "pouch/pouchlaw07.PacketBares", spec := "packetBares", inPlace := ["internal/bytealg.IndexByteString", "internal/bytealg.IndexString", "internal/bytealg.CountString"], named := ["unicode/utf8.first", "unicode/utf8.acceptRanges", "internal/bytealg.MaxLen", "pouch/packet.names"], apart := false, laid := [("unicode/utf8.acceptRanges", laid_unicode_utf8_acceptRanges), ("pouch/packet.names", laid_pouch_packet_names), ("unicode/utf8.first", laid_unicode_utf8_first)], narrowed := true }
def PacketBaresUptoSaid : Prop := packetBaresUptoRow.holds Tryz.pinned (OpenSpec.upto packetBaresSpec)

end Rows
end Go.Proofs.YtjihgcdhheoniaaGreatDoor
