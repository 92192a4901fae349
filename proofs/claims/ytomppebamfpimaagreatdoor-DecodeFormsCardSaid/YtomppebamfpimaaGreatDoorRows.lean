/-
  NARROWER THAN 'FOR EVERY INPUT', by the rows' own cells (each row's printed sentence says how): EncodePackets: laid · EncodeFixes: laid · EncodeOnce: laid · EncodeLong: laid · DecodeHeads: laid · DecodeBytes: laid · DecodeBack: laid · DecodeAgain: laid · DecodeCuts: laid · DecodeForms: laid · FramerNews: laid · FramerMost: laid.
  DERIVED. THE GIVEN ROWS OF THIS SEAT. 12 by the template 'for every input the law returns true; each argument reads behind the call as it read before'; 0 by the template 'total and deterministic' (their statements: YtomppebamfpimaaGreatDoorTotals.lean).
  GIVEN WITH THE SEED: the statements are not yours to turn. If you find one false, say at which input.
  Laid BY PROGRAM, IN A SANDBOX (cutbox-rows.mjs): the forced cells as the released guide's own fill.sh prints them over the translation 4d09884de9948d3b… (all of the seat's roots in one cut). By AI agents, Wed Nov 11 2026. No macro, syntax, notation, axiom, sorry.
-/
import Derived.Test.YtomppebamfpimaaGreatDoorChecked
import GoSem.PinnedTables
import GoSem.Claim
import GoSem.ClaimJoined
import GoSem.ClaimMapViews
import Derived.JoinedTies
import Derived.KernelRfl
namespace Go.Proofs.YtomppebamfpimaaGreatDoor
/- THE CELL 'sum', in the pinned program and in every row, IS THE sha256 OF THE DUMP (.gsa) THAT YtomppebamfpimaaGreatDoorProg.lean LOADS. Nothing in Lean hashes anything: it is a label: what it is worth is what the hold of that sum in a sandbox is worth. -/
noncomputable def Tryz.pinned : Pinned := { name := "ytomppebamfpimaagreatdoor", sum := "4d09884de9948d3bc109bf095bdd8199017b49a34c3ac2a9330abd8094054767", checked := Tryz.checked }
namespace Rows
def none {H : Type} : Left H := { results := [], args := [] }

/- WHAT THE LISTED PACKAGE-LEVEL VARIABLES READ AS WHEN THE CALL BEGINS. Each datum BY PROGRAM (the guide's laid-datum.mjs) off the statement by which the dump's own 'gosem.cut.vars' lays the variable. In a bare row this is a premise. The card (YtomppebamfpimaaGreatDoorCards.lean) ties it to the program's text. -/
def laid_unicode_utf8_acceptRanges {H : Type} : DataW H := .agg [.agg [.lit (.int .u8 128), .lit (.int .u8 191)], .agg [.lit (.int .u8 160), .lit (.int .u8 191)], .agg [.lit (.int .u8 128), .lit (.int .u8 159)], .agg [.lit (.int .u8 144), .lit (.int .u8 191)], .agg [.lit (.int .u8 128), .lit (.int .u8 143)], .agg [.lit (.int .u8 0), .lit (.int .u8 0)], .agg [.lit (.int .u8 0), .lit (.int .u8 0)], .agg [.lit (.int .u8 0), .lit (.int .u8 0)], .agg [.lit (.int .u8 0), .lit (.int .u8 0)], .agg [.lit (.int .u8 0), .lit (.int .u8 0)], .agg [.lit (.int .u8 0), .lit (.int .u8 0)], .agg [.lit (.int .u8 0), .lit (.int .u8 0)], .agg [.lit (.int .u8 0), .lit (.int .u8 0)], .agg [.lit (.int .u8 0), .lit (.int .u8 0)], .agg [.lit (.int .u8 0), .lit (.int .u8 0)], .agg [.lit (.int .u8 0), .lit (.int .u8 0)]]
/-- One of Go's own tables, pinned by name: the form's constant. -/
def laid_unicode_utf8_first : DataW Unit := Go.Pinned.utf8First

/-- 'pouchlaw08.EncodePackets': WHATEVER THE INPUT: true; the input reads as it did. -/
def encodePacketsSpec : ChangeSpec := { name := "encodePackets", fn := fun _ => fun
  | [d1, d2] => { results := [.lit (.bool true)], args := [d1, d2] }
  | _ => none }
def encodePacketsRow : OpenClaim := { program := "ytomppebamfpimaagreatdoor", sum := "4d09884de9948d3bc109bf095bdd8199017b49a34c3ac2a9330abd8094054767", func := "pouch/pouchlaw08.EncodePackets", spec := "encodePackets", inPlace := ["internal/bytealg.IndexByteString", "internal/bytealg.IndexString", "internal/bytealg.CountString"], named := ["unicode/utf8.first", "unicode/utf8.acceptRanges", "internal/bytealg.MaxLen"], apart := false, laid := [("unicode/utf8.acceptRanges", laid_unicode_utf8_acceptRanges), ("unicode/utf8.first", laid_unicode_utf8_first)] }
def EncodePacketsSaid : Prop := encodePacketsRow.holds Tryz.pinned (OpenSpec.ofChange encodePacketsSpec)

/-- ITS FALSE NEIGHBOUR: 'it returns false'. Refute it at one input. -/
def encodePacketsWrong : ChangeSpec := { name := "encodePackets", fn := fun _ => fun
  | [d1, d2] => { results := [.lit (.bool false)], args := [d1, d2] }
  | _ => none }
def EncodePacketsWrongFalsely : Prop := encodePacketsRow.holds Tryz.pinned (OpenSpec.ofChange encodePacketsWrong)

/-- 'pouchlaw08.EncodeFixes': WHATEVER THE INPUT: true; the input reads as it did. -/
def encodeFixesSpec : ChangeSpec := { name := "encodeFixes", fn := fun _ => fun
  | [d1, d2] => { results := [.lit (.bool true)], args := [d1, d2] }
  | _ => none }
def encodeFixesRow : OpenClaim := { program := "ytomppebamfpimaagreatdoor", sum := "4d09884de9948d3bc109bf095bdd8199017b49a34c3ac2a9330abd8094054767", func := "pouch/pouchlaw08.EncodeFixes", spec := "encodeFixes", inPlace := ["internal/bytealg.IndexByteString", "internal/bytealg.IndexString", "internal/bytealg.CountString"], named := ["unicode/utf8.first", "unicode/utf8.acceptRanges", "internal/bytealg.MaxLen"], apart := false, laid := [("unicode/utf8.acceptRanges", laid_unicode_utf8_acceptRanges), ("unicode/utf8.first", laid_unicode_utf8_first)] }
def EncodeFixesSaid : Prop := encodeFixesRow.holds Tryz.pinned (OpenSpec.ofChange encodeFixesSpec)

/-- ITS FALSE NEIGHBOUR: 'it returns false'. Refute it at one input. -/
def encodeFixesWrong : ChangeSpec := { name := "encodeFixes", fn := fun _ => fun
  | [d1, d2] => { results := [.lit (.bool false)], args := [d1, d2] }
  | _ => none }
def EncodeFixesWrongFalsely : Prop := encodeFixesRow.holds Tryz.pinned (OpenSpec.ofChange encodeFixesWrong)

/-- 'pouchlaw08.EncodeOnce': WHATEVER THE INPUT: true; the input reads as it did. -/
def encodeOnceSpec : ChangeSpec := { name := "encodeOnce", fn := fun _ => fun
  | [d1, d2, d3] => { results := [.lit (.bool true)], args := [d1, d2, d3] }
  | _ => none }
def encodeOnceRow : OpenClaim := { program := "ytomppebamfpimaagreatdoor", sum := "4d09884de9948d3bc109bf095bdd8199017b49a34c3ac2a9330abd8094054767", func := "pouch/pouchlaw08.EncodeOnce", spec := "encodeOnce", inPlace := ["internal/bytealg.IndexByteString", "internal/bytealg.IndexString", "internal/bytealg.CountString"], named := ["unicode/utf8.first", "unicode/utf8.acceptRanges", "internal/bytealg.MaxLen"], apart := false, laid := [("unicode/utf8.acceptRanges", laid_unicode_utf8_acceptRanges), ("unicode/utf8.first", laid_unicode_utf8_first)] }
def EncodeOnceSaid : Prop := encodeOnceRow.holds Tryz.pinned (OpenSpec.ofChange encodeOnceSpec)

/-- ITS FALSE NEIGHBOUR: 'it returns false'. Refute it at one input. -/
def encodeOnceWrong : ChangeSpec := { name := "encodeOnce", fn := fun _ => fun
  | [d1, d2, d3] => { results := [.lit (.bool false)], args := [d1, d2, d3] }
  | _ => none }
def EncodeOnceWrongFalsely : Prop := encodeOnceRow.holds Tryz.pinned (OpenSpec.ofChange encodeOnceWrong)

/-- 'pouchlaw08.EncodeLong': WHATEVER THE INPUT: true; the input reads as it did. -/
def encodeLongSpec : ChangeSpec := { name := "encodeLong", fn := fun _ => fun
  | [d1, d2] => { results := [.lit (.bool true)], args := [d1, d2] }
  | _ => none }
def encodeLongRow : OpenClaim := { program := "ytomppebamfpimaagreatdoor", sum := "4d09884de9948d3bc109bf095bdd8199017b49a34c3ac2a9330abd8094054767", func := "pouch/pouchlaw08.EncodeLong", spec := "encodeLong", inPlace := ["internal/bytealg.IndexByteString", "internal/bytealg.IndexString", "internal/bytealg.CountString"], named := ["unicode/utf8.first", "unicode/utf8.acceptRanges", "internal/bytealg.MaxLen"], apart := false, laid := [("unicode/utf8.acceptRanges", laid_unicode_utf8_acceptRanges), ("unicode/utf8.first", laid_unicode_utf8_first)] }
def EncodeLongSaid : Prop := encodeLongRow.holds Tryz.pinned (OpenSpec.ofChange encodeLongSpec)

/-- ITS FALSE NEIGHBOUR: 'it returns false'. Refute it at one input. -/
def encodeLongWrong : ChangeSpec := { name := "encodeLong", fn := fun _ => fun
  | [d1, d2] => { results := [.lit (.bool false)], args := [d1, d2] }
  | _ => none }
def EncodeLongWrongFalsely : Prop := encodeLongRow.holds Tryz.pinned (OpenSpec.ofChange encodeLongWrong)

/-- 'pouchlaw09.DecodeHeads': WHATEVER THE INPUT: true; the input reads as it did. -/
def decodeHeadsSpec : ChangeSpec := { name := "decodeHeads", fn := fun _ => fun
  | [d] => { results := [.lit (.bool true)], args := [d] }
  | _ => none }
def decodeHeadsRow : OpenClaim := { program := "ytomppebamfpimaagreatdoor", sum := "4d09884de9948d3bc109bf095bdd8199017b49a34c3ac2a9330abd8094054767", func := "pouch/pouchlaw09.DecodeHeads", spec := "decodeHeads", inPlace := ["internal/bytealg.IndexByteString", "internal/bytealg.IndexString", "internal/bytealg.CountString"], unfollowed := true, recurses := true, named := ["unicode/utf8.first", "unicode/utf8.acceptRanges", "internal/bytealg.MaxLen"], apart := false, laid := [("unicode/utf8.acceptRanges", laid_unicode_utf8_acceptRanges), ("unicode/utf8.first", laid_unicode_utf8_first)] }
def DecodeHeadsSaid : Prop := decodeHeadsRow.holds Tryz.pinned (OpenSpec.ofChange decodeHeadsSpec)

/-- ITS FALSE NEIGHBOUR: 'it returns false'. Refute it at one input. -/
def decodeHeadsWrong : ChangeSpec := { name := "decodeHeads", fn := fun _ => fun
  | [d] => { results := [.lit (.bool false)], args := [d] }
  | _ => none }
def DecodeHeadsWrongFalsely : Prop := decodeHeadsRow.holds Tryz.pinned (OpenSpec.ofChange decodeHeadsWrong)

/-- 'pouchlaw09.DecodeBytes': WHATEVER THE INPUT: true; the input reads as it did. -/
def decodeBytesSpec : ChangeSpec := { name := "decodeBytes", fn := fun _ => fun
  | [d1, d2] => { results := [.lit (.bool true)], args := [d1, d2] }
  | _ => none }
def decodeBytesRow : OpenClaim := { program := "ytomppebamfpimaagreatdoor", sum := "4d09884de9948d3bc109bf095bdd8199017b49a34c3ac2a9330abd8094054767", func := "pouch/pouchlaw09.DecodeBytes", spec := "decodeBytes", inPlace := ["internal/bytealg.IndexByteString", "internal/bytealg.IndexString", "internal/bytealg.CountString"], unfollowed := true, recurses := true, named := ["unicode/utf8.first", "unicode/utf8.acceptRanges", "internal/bytealg.MaxLen"], apart := false, laid := [("unicode/utf8.acceptRanges", laid_unicode_utf8_acceptRanges), ("unicode/utf8.first", laid_unicode_utf8_first)] }
def DecodeBytesSaid : Prop := decodeBytesRow.holds Tryz.pinned (OpenSpec.ofChange decodeBytesSpec)

/-- ITS FALSE NEIGHBOUR: 'it returns false'. Refute it at one input. -/
def decodeBytesWrong : ChangeSpec := { name := "decodeBytes", fn := fun _ => fun
  | [d1, d2] => { results := [.lit (.bool false)], args := [d1, d2] }
  | _ => none }
def DecodeBytesWrongFalsely : Prop := decodeBytesRow.holds Tryz.pinned (OpenSpec.ofChange decodeBytesWrong)

/-- 'pouchlaw09.DecodeBack': WHATEVER THE INPUT: true; the input reads as it did. -/
def decodeBackSpec : ChangeSpec := { name := "decodeBack", fn := fun _ => fun
  | [d1, d2] => { results := [.lit (.bool true)], args := [d1, d2] }
  | _ => none }
def decodeBackRow : OpenClaim := { program := "ytomppebamfpimaagreatdoor", sum := "4d09884de9948d3bc109bf095bdd8199017b49a34c3ac2a9330abd8094054767", func := "pouch/pouchlaw09.DecodeBack", spec := "decodeBack", inPlace := ["internal/bytealg.IndexByteString", "internal/bytealg.IndexString", "internal/bytealg.CountString"], unfollowed := true, recurses := true, named := ["unicode/utf8.first", "unicode/utf8.acceptRanges", "internal/bytealg.MaxLen"], apart := false, laid := [("unicode/utf8.acceptRanges", laid_unicode_utf8_acceptRanges), ("unicode/utf8.first", laid_unicode_utf8_first)] }
def DecodeBackSaid : Prop := decodeBackRow.holds Tryz.pinned (OpenSpec.ofChange decodeBackSpec)

/-- ITS FALSE NEIGHBOUR: 'it returns false'. Refute it at one input. -/
def decodeBackWrong : ChangeSpec := { name := "decodeBack", fn := fun _ => fun
  | [d1, d2] => { results := [.lit (.bool false)], args := [d1, d2] }
  | _ => none }
def DecodeBackWrongFalsely : Prop := decodeBackRow.holds Tryz.pinned (OpenSpec.ofChange decodeBackWrong)

/-- 'pouchlaw09.DecodeAgain': WHATEVER THE INPUT: true; the input reads as it did. -/
def decodeAgainSpec : ChangeSpec := { name := "decodeAgain", fn := fun _ => fun
  | [d1, d2] => { results := [.lit (.bool true)], args := [d1, d2] }
  | _ => none }
def decodeAgainRow : OpenClaim := { program := "ytomppebamfpimaagreatdoor", sum := "4d09884de9948d3bc109bf095bdd8199017b49a34c3ac2a9330abd8094054767", func := "pouch/pouchlaw09.DecodeAgain", spec := "decodeAgain", inPlace := ["internal/bytealg.IndexByteString", "internal/bytealg.IndexString", "internal/bytealg.CountString"], unfollowed := true, recurses := true, named := ["unicode/utf8.first", "unicode/utf8.acceptRanges", "internal/bytealg.MaxLen"], apart := false, laid := [("unicode/utf8.acceptRanges", laid_unicode_utf8_acceptRanges), ("unicode/utf8.first", laid_unicode_utf8_first)] }
def DecodeAgainSaid : Prop := decodeAgainRow.holds Tryz.pinned (OpenSpec.ofChange decodeAgainSpec)

/-- ITS FALSE NEIGHBOUR: 'it returns false'. Refute it at one input. -/
def decodeAgainWrong : ChangeSpec := { name := "decodeAgain", fn := fun _ => fun
  | [d1, d2] => { results := [.lit (.bool false)], args := [d1, d2] }
  | _ => none }
def DecodeAgainWrongFalsely : Prop := decodeAgainRow.holds Tryz.pinned (OpenSpec.ofChange decodeAgainWrong)

/-- 'pouchlaw09.DecodeCuts': WHATEVER THE INPUT: true; the input reads as it did. -/
def decodeCutsSpec : ChangeSpec := { name := "decodeCuts", fn := fun _ => fun
  | [d1, d2, d3] => { results := [.lit (.bool true)], args := [d1, d2, d3] }
  | _ => none }
def decodeCutsRow : OpenClaim := { program := "ytomppebamfpimaagreatdoor", sum := "4d09884de9948d3bc109bf095bdd8199017b49a34c3ac2a9330abd8094054767", func := "pouch/pouchlaw09.DecodeCuts", spec := "decodeCuts", inPlace := ["internal/bytealg.IndexByteString", "internal/bytealg.IndexString", "internal/bytealg.CountString"], unfollowed := true, recurses := true, named := ["unicode/utf8.first", "unicode/utf8.acceptRanges", "internal/bytealg.MaxLen"], apart := false, laid := [("unicode/utf8.acceptRanges", laid_unicode_utf8_acceptRanges), ("unicode/utf8.first", laid_unicode_utf8_first)] }
def DecodeCutsSaid : Prop := decodeCutsRow.holds Tryz.pinned (OpenSpec.ofChange decodeCutsSpec)

/-- ITS FALSE NEIGHBOUR: 'it returns false'. Refute it at one input. -/
def decodeCutsWrong : ChangeSpec := { name := "decodeCuts", fn := fun _ => fun
  | [d1, d2, d3] => { results := [.lit (.bool false)], args := [d1, d2, d3] }
  | _ => none }
def DecodeCutsWrongFalsely : Prop := decodeCutsRow.holds Tryz.pinned (OpenSpec.ofChange decodeCutsWrong)

/-- 'pouchlaw09.DecodeForms': WHATEVER THE INPUT: true; the input reads as it did. -/
def decodeFormsSpec : ChangeSpec := { name := "decodeForms", fn := fun _ => fun
  | [d1, d2, d3] => { results := [.lit (.bool true)], args := [d1, d2, d3] }
  | _ => none }
def decodeFormsRow : OpenClaim := { program := "ytomppebamfpimaagreatdoor", sum := "4d09884de9948d3bc109bf095bdd8199017b49a34c3ac2a9330abd8094054767", func := "pouch/pouchlaw09.DecodeForms", spec := "decodeForms", inPlace := ["internal/bytealg.IndexByteString", "internal/bytealg.IndexString", "internal/bytealg.CountString"], unfollowed := true, recurses := true, named := ["unicode/utf8.first", "unicode/utf8.acceptRanges", "internal/bytealg.MaxLen"], apart := false, laid := [("unicode/utf8.acceptRanges", laid_unicode_utf8_acceptRanges), ("unicode/utf8.first", laid_unicode_utf8_first)] }
def DecodeFormsSaid : Prop := decodeFormsRow.holds Tryz.pinned (OpenSpec.ofChange decodeFormsSpec)

/-- ITS FALSE NEIGHBOUR: 'it returns false'. Refute it at one input. -/
def decodeFormsWrong : ChangeSpec := { name := "decodeForms", fn := fun _ => fun
  | [d1, d2, d3] => { results := [.lit (.bool false)], args := [d1, d2, d3] }
  | _ => none }
def DecodeFormsWrongFalsely : Prop := decodeFormsRow.holds Tryz.pinned (OpenSpec.ofChange decodeFormsWrong)

/-- 'pouchlaw10.FramerNews': WHATEVER THE INPUT: true; the input reads as it did. -/
def framerNewsSpec : ChangeSpec := { name := "framerNews", fn := fun _ => fun
  | [d1, d2] => { results := [.lit (.bool true)], args := [d1, d2] }
  | _ => none }
def framerNewsRow : OpenClaim := { program := "ytomppebamfpimaagreatdoor", sum := "4d09884de9948d3bc109bf095bdd8199017b49a34c3ac2a9330abd8094054767", func := "pouch/pouchlaw10.FramerNews", spec := "framerNews", inPlace := ["internal/bytealg.IndexByteString", "internal/bytealg.IndexString", "internal/bytealg.CountString"], unfollowed := true, recurses := true, named := ["unicode/utf8.first", "unicode/utf8.acceptRanges", "internal/bytealg.MaxLen"], apart := false, laid := [("unicode/utf8.acceptRanges", laid_unicode_utf8_acceptRanges), ("unicode/utf8.first", laid_unicode_utf8_first)] }
def FramerNewsSaid : Prop := framerNewsRow.holds Tryz.pinned (OpenSpec.ofChange framerNewsSpec)

/-- ITS FALSE NEIGHBOUR: 'it returns false'. Refute it at one input. -/
def framerNewsWrong : ChangeSpec := { name := "framerNews", fn := fun _ => fun
  | [d1, d2] => { results := [.lit (.bool false)], args := [d1, d2] }
  | _ => none }
def FramerNewsWrongFalsely : Prop := framerNewsRow.holds Tryz.pinned (OpenSpec.ofChange framerNewsWrong)

/-- 'pouchlaw10.FramerMost': WHATEVER THE INPUT: true; the input reads as it did. -/
def framerMostSpec : ChangeSpec := { name := "framerMost", fn := fun _ => fun
  | [d1, d2, d3] => { results := [.lit (.bool true)], args := [d1, d2, d3] }
  | _ => none }
def framerMostRow : OpenClaim := { program := "ytomppebamfpimaagreatdoor", sum := "4d09884de9948d3bc109bf095bdd8199017b49a34c3ac2a9330abd8094054767", func := "pouch/pouchlaw10.FramerMost", spec := "framerMost", inPlace := ["internal/bytealg.IndexByteString", "internal/bytealg.IndexString", "internal/bytealg.CountString"], unfollowed := true, recurses := true, named := ["unicode/utf8.first", "unicode/utf8.acceptRanges", "internal/bytealg.MaxLen"], apart := false, laid := [("unicode/utf8.acceptRanges", laid_unicode_utf8_acceptRanges), ("unicode/utf8.first", laid_unicode_utf8_first)] }
def FramerMostSaid : Prop := framerMostRow.holds Tryz.pinned (OpenSpec.ofChange framerMostSpec)

/-- ITS FALSE NEIGHBOUR: 'it returns false'. Refute it at one input. -/
def framerMostWrong : ChangeSpec := { name := "framerMost", fn := fun _ => fun
  | [d1, d2, d3] => { results := [.lit (.bool false)], args := [d1, d2, d3] }
  | _ => none }
def FramerMostWrongFalsely : Prop := framerMostRow.holds Tryz.pinned (OpenSpec.ofChange framerMostWrong)

/- THE SECOND FORM. 'bulk': how many values and letters a reading holds, each counted each time it is reached (what is shared counts as often as it is met; a slice's spare places count too). A statement '..UptoSaid' is the law's where the arguments, and the package variables that the reading takes, are together of bulk at most 1048576: NARROWER than '..Said'. Prove '..Said' where nothing that the law and all that it calls make is longer than what came in: it says more and counts as full. Else prove '..UptoSaid'. A law counts once. -/
mutual
def uptoBulk {H : Type} : DataW H → Nat
  | .lit (.string bytes) => bytes.length + 1
  | .lit _ => 1
  | .nil => 1
  | .ptr d => uptoBulk d + 1
  | .slice elems spare => uptoBulkAll elems + uptoBulkAll spare + 1
  | .agg parts => uptoBulkAll parts + 1
  | .iface _ d => uptoBulk d + 1
  | .map entries => uptoBulkEntries entries + 1
  | .held _ => 1
def uptoBulkAll {H : Type} : List (DataW H) → Nat
  | [] => 0
  | d :: r => uptoBulk d + uptoBulkAll r
def uptoBulkEntries {H : Type} : List (Lit × DataW H) → Nat
  | [] => 0
  | x :: r => uptoBulkEntry x + uptoBulkEntries r
def uptoBulkEntry {H : Type} : Lit × DataW H → Nat
  | (.string bytes, d) => bytes.length + uptoBulk d + 1
  | (_, d) => uptoBulk d + 1
 end
def uptoSmall : (H : Type) → List (DataW H) → Bool := fun _ ds => decide (uptoBulkAll ds ≤ 1048576)
def OpenSpec.upto (s : _root_.Go.ChangeSpec) : _root_.Go.OpenSpec := { _root_.Go.OpenSpec.ofChange s with cond := some uptoSmall }

/-- 'pouchlaw08.EncodePackets', WHERE WHAT IT READS IS OF BULK AT MOST 1048576: true; the input reads as it did. -/
def encodePacketsUptoRow : OpenClaim := { program := "ytomppebamfpimaagreatdoor", sum := "4d09884de9948d3bc109bf095bdd8199017b49a34c3ac2a9330abd8094054767", func := "pouch/pouchlaw08.EncodePackets", spec := "encodePackets", inPlace := ["internal/bytealg.IndexByteString", "internal/bytealg.IndexString", "internal/bytealg.CountString"], named := ["unicode/utf8.first", "unicode/utf8.acceptRanges", "internal/bytealg.MaxLen"], apart := false, laid := [("unicode/utf8.acceptRanges", laid_unicode_utf8_acceptRanges), ("unicode/utf8.first", laid_unicode_utf8_first)], narrowed := true }
def EncodePacketsUptoSaid : Prop := encodePacketsUptoRow.holds Tryz.pinned (OpenSpec.upto encodePacketsSpec)

/-- 'pouchlaw08.EncodeFixes', WHERE WHAT IT READS IS OF BULK AT MOST 1048576: true; the input reads as it did. -/
def encodeFixesUptoRow : OpenClaim := { program := "ytomppebamfpimaagreatdoor", sum := "4d09884de9948d3bc109bf095bdd8199017b49a34c3ac2a9330abd8094054767", func := "pouch/pouchlaw08.EncodeFixes", spec := "encodeFixes", inPlace := ["internal/bytealg.IndexByteString", "internal/bytealg.IndexString", "internal/bytealg.CountString"], named := ["unicode/utf8.first", "unicode/utf8.acceptRanges", "internal/bytealg.MaxLen"], apart := false, laid := [("unicode/utf8.acceptRanges", laid_unicode_utf8_acceptRanges), ("unicode/utf8.first", laid_unicode_utf8_first)], narrowed := true }
def EncodeFixesUptoSaid : Prop := encodeFixesUptoRow.holds Tryz.pinned (OpenSpec.upto encodeFixesSpec)

/-- 'pouchlaw08.EncodeOnce', WHERE WHAT IT READS IS OF BULK AT MOST 1048576: true; the input reads as it did. -/
def encodeOnceUptoRow : OpenClaim := { program := "ytomppebamfpimaagreatdoor", sum := "4d09884de9948d3bc109bf095bdd8199017b49a34c3ac2a9330abd8094054767", func := "pouch/pouchlaw08.EncodeOnce", spec := "encodeOnce", inPlace := ["internal/bytealg.IndexByteString", "internal/bytealg.IndexString", "internal/bytealg.CountString"], named := ["unicode/utf8.first", "unicode/utf8.acceptRanges", "internal/bytealg.MaxLen"], apart := false, laid := [("unicode/utf8.acceptRanges", laid_unicode_utf8_acceptRanges), ("unicode/utf8.first", laid_unicode_utf8_first)], narrowed := true }
def EncodeOnceUptoSaid : Prop := encodeOnceUptoRow.holds Tryz.pinned (OpenSpec.upto encodeOnceSpec)

/-- 'pouchlaw08.EncodeLong', WHERE WHAT IT READS IS OF BULK AT MOST 1048576: true; the input reads as it did. -/
def encodeLongUptoRow : OpenClaim := { program := "ytomppebamfpimaagreatdoor", sum := "4d09884de9948d3bc109bf095bdd8199017b49a34c3ac2a9330abd8094054767", func := "pouch/pouchlaw08.EncodeLong", spec := "encodeLong", inPlace := ["internal/bytealg.IndexByteString", "internal/bytealg.IndexString", "internal/bytealg.CountString"], named := ["unicode/utf8.first", "unicode/utf8.acceptRanges", "internal/bytealg.MaxLen"], apart := false, laid := [("unicode/utf8.acceptRanges", laid_unicode_utf8_acceptRanges), ("unicode/utf8.first", laid_unicode_utf8_first)], narrowed := true }
def EncodeLongUptoSaid : Prop := encodeLongUptoRow.holds Tryz.pinned (OpenSpec.upto encodeLongSpec)

/-- 'pouchlaw09.DecodeHeads', WHERE WHAT IT READS IS OF BULK AT MOST 1048576: true; the input reads as it did. -/
def decodeHeadsUptoRow : OpenClaim := { program := "ytomppebamfpimaagreatdoor", sum := "4d09884de9948d3bc109bf095bdd8199017b49a34c3ac2a9330abd8094054767", func := "pouch/pouchlaw09.DecodeHeads", spec := "decodeHeads", inPlace := ["internal/bytealg.IndexByteString", "internal/bytealg.IndexString", "internal/bytealg.CountString"], unfollowed := true, recurses := true, named := ["unicode/utf8.first", "unicode/utf8.acceptRanges", "internal/bytealg.MaxLen"], apart := false, laid := [("unicode/utf8.acceptRanges", laid_unicode_utf8_acceptRanges), ("unicode/utf8.first", laid_unicode_utf8_first)], narrowed := true }
def DecodeHeadsUptoSaid : Prop := decodeHeadsUptoRow.holds Tryz.pinned (OpenSpec.upto decodeHeadsSpec)

/-- 'pouchlaw09.DecodeBytes', WHERE WHAT IT READS IS OF BULK AT MOST 1048576: true; the input reads as it did. -/
def decodeBytesUptoRow : OpenClaim := { program := "ytomppebamfpimaagreatdoor", sum := "4d09884de9948d3bc109bf095bdd8199017b49a34c3ac2a9330abd8094054767", func := "pouch/pouchlaw09.DecodeBytes", spec := "decodeBytes", inPlace := ["internal/bytealg.IndexByteString", "internal/bytealg.IndexString", "internal/bytealg.CountString"], unfollowed := true, recurses := true, named := ["unicode/utf8.first", "unicode/utf8.acceptRanges", "internal/bytealg.MaxLen"], apart := false, laid := [("unicode/utf8.acceptRanges", laid_unicode_utf8_acceptRanges), ("unicode/utf8.first", laid_unicode_utf8_first)], narrowed := true }
def DecodeBytesUptoSaid : Prop := decodeBytesUptoRow.holds Tryz.pinned (OpenSpec.upto decodeBytesSpec)

/-- 'pouchlaw09.DecodeBack', WHERE WHAT IT READS IS OF BULK AT MOST 1048576: true; the input reads as it did. -/
def decodeBackUptoRow : OpenClaim := { program := "ytomppebamfpimaagreatdoor", sum := "4d09884de9948d3bc109bf095bdd8199017b49a34c3ac2a9330abd8094054767", func := "pouch/pouchlaw09.DecodeBack", spec := "decodeBack", inPlace := ["internal/bytealg.IndexByteString", "internal/bytealg.IndexString", "internal/bytealg.CountString"], unfollowed := true, recurses := true, named := ["unicode/utf8.first", "unicode/utf8.acceptRanges", "internal/bytealg.MaxLen"], apart := false, laid := [("unicode/utf8.acceptRanges", laid_unicode_utf8_acceptRanges), ("unicode/utf8.first", laid_unicode_utf8_first)], narrowed := true }
def DecodeBackUptoSaid : Prop := decodeBackUptoRow.holds Tryz.pinned (OpenSpec.upto decodeBackSpec)

/-- 'pouchlaw09.DecodeAgain', WHERE WHAT IT READS IS OF BULK AT MOST 1048576: true; the input reads as it did. -/
def decodeAgainUptoRow : OpenClaim := { program := "ytomppebamfpimaagreatdoor", sum := "4d09884de9948d3bc109bf095bdd8199017b49a34c3ac2a9330abd8094054767", func := "pouch/pouchlaw09.DecodeAgain", spec := "decodeAgain", inPlace := ["internal/bytealg.IndexByteString", "internal/bytealg.IndexString", "internal/bytealg.CountString"], unfollowed := true, recurses := true, named := ["unicode/utf8.first", "unicode/utf8.acceptRanges", "internal/bytealg.MaxLen"], apart := false, laid := [("unicode/utf8.acceptRanges", laid_unicode_utf8_acceptRanges), ("unicode/utf8.first", laid_unicode_utf8_first)], narrowed := true }
def DecodeAgainUptoSaid : Prop := decodeAgainUptoRow.holds Tryz.pinned (OpenSpec.upto decodeAgainSpec)

/-- 'pouchlaw09.DecodeCuts', WHERE WHAT IT READS IS OF BULK AT MOST 1048576: true; the input reads as it did. -/
def decodeCutsUptoRow : OpenClaim := { program := "ytomppebamfpimaagreatdoor", sum := "4d09884de9948d3bc109bf095bdd8199017b49a34c3ac2a9330abd8094054767", func := "pouch/pouchlaw09.DecodeCuts", spec := "decodeCuts", inPlace := ["internal/bytealg.IndexByteString", "internal/bytealg.IndexString", "internal/bytealg.CountString"], unfollowed := true, recurses := true, named := ["unicode/utf8.first", "unicode/utf8.acceptRanges", "internal/bytealg.MaxLen"], apart := false, laid := [("unicode/utf8.acceptRanges", laid_unicode_utf8_acceptRanges), ("unicode/utf8.first", laid_unicode_utf8_first)], narrowed := true }
def DecodeCutsUptoSaid : Prop := decodeCutsUptoRow.holds Tryz.pinned (OpenSpec.upto decodeCutsSpec)

/-- 'pouchlaw09.DecodeForms', WHERE WHAT IT READS IS OF BULK AT MOST 1048576: true; the input reads as it did. -/
def decodeFormsUptoRow : OpenClaim := { program := "ytomppebamfpimaagreatdoor", sum := "4d09884de9948d3bc109bf095bdd8199017b49a34c3ac2a9330abd8094054767", func := "pouch/pouchlaw09.DecodeForms", spec := "decodeForms", inPlace := ["internal/bytealg.IndexByteString", "internal/bytealg.IndexString", "internal/bytealg.CountString"], unfollowed := true, recurses := true, named := ["unicode/utf8.first", "unicode/utf8.acceptRanges", "internal/bytealg.MaxLen"], apart := false, laid := [("unicode/utf8.acceptRanges", laid_unicode_utf8_acceptRanges), ("unicode/utf8.first", laid_unicode_utf8_first)], narrowed := true }
def DecodeFormsUptoSaid : Prop := decodeFormsUptoRow.holds Tryz.pinned (OpenSpec.upto decodeFormsSpec)

/-- 'pouchlaw10.FramerNews', WHERE WHAT IT READS IS OF BULK AT MOST 1048576: true; the input reads as it did. -/
def framerNewsUptoRow : OpenClaim := { program := "ytomppebamfpimaagreatdoor", sum := "4d09884de9948d3bc109bf095bdd8199017b49a34c3ac2a9330abd8094054767", func := "pouch/pouchlaw10.FramerNews", spec := "framerNews", inPlace := ["internal/bytealg.IndexByteString", "internal/bytealg.IndexString", "internal/bytealg.CountString"], unfollowed := true, recurses := true, named := ["unicode/utf8.first", "unicode/utf8.acceptRanges", "internal/bytealg.MaxLen"], apart := false, laid := [("unicode/utf8.acceptRanges", laid_unicode_utf8_acceptRanges), ("unicode/utf8.first", laid_unicode_utf8_first)], narrowed := true }
def FramerNewsUptoSaid : Prop := framerNewsUptoRow.holds Tryz.pinned (OpenSpec.upto framerNewsSpec)

/-- 'pouchlaw10.FramerMost', WHERE WHAT IT READS IS OF BULK AT MOST 1048576: true; the input reads as it did. -/
def framerMostUptoRow : OpenClaim := { program := "ytomppebamfpimaagreatdoor", sum := "4d09884de9948d3bc109bf095bdd8199017b49a34c3ac2a9330abd8094054767", func := "pouch/pouchlaw10.FramerMost", spec := "framerMost", inPlace := ["internal/bytealg.IndexByteString", "internal/bytealg.IndexString", "internal/bytealg.CountString"], unfollowed := true, recurses := true, named := ["unicode/utf8.first", "unicode/utf8.acceptRanges", "internal/bytealg.MaxLen"], apart := false, laid := [("unicode/utf8.acceptRanges", laid_unicode_utf8_acceptRanges), ("unicode/utf8.first", laid_unicode_utf8_first)], narrowed := true }
def FramerMostUptoSaid : Prop := framerMostUptoRow.holds Tryz.pinned (OpenSpec.upto framerMostSpec)

end Rows
end Go.Proofs.YtomppebamfpimaaGreatDoor
