/-
  DERIVED. GIVEN WITH THE SEED: THE CARDS: each row of YtfcgfkgibimffaaDoorRows.lean that lists a variable, with what it lists TIED to the program's text (the seventh form; the later family's looks); each row that meets fmt, with fmt's text TOLD by the authors' own Lean function (tested against real Go, not proved from fmt's source: count such statements apart). THE CARD IS WHAT COUNTS. Prove the row's statement (the work); the ties are given (YtfcgfkgibimffaaDoorTie.lean); close each card by the builder's one call (the guide's Derived/Test/ToyasCard.lean, 'card_holds'). Laid BY PROGRAM, IN A SANDBOX (cutbox-door.mjs). By AI agents, Wed Nov 11 2026. No macro, syntax, notation, axiom, sorry.
-/
import Derived.Test.YtfcgfkgibimffaaDoorRows
import GoSem.ClaimSeven
namespace Go.Proofs.YtfcgfkgibimffaaDoor
namespace Rows

/-- THE TIED CARD OF 'pouchlaw06.PropsPuts'. -/
def propsPutsCard : Claim7 := { stood := { row := propsPutsRow, standIns := [], harness := (true, "8b10077b8c923ea1f9f6f76bb15bc5faa0f3358c00e75fd62596f7e3825e0e13"), looks := false }, kinds := [], alts := [], laidByText := true, laidKinds := [.data, .pinned], laidTests := true, laidLooks := .later }
def PropsPutsCardSaid : Prop := Claim7.holds Tryd.pinned (.plain (OpenSpec.ofChange propsPutsSpec)) propsPutsCard

/-- THE TIED CARD OF 'pouchlaw06.PropsTakes'. -/
def propsTakesCard : Claim7 := { stood := { row := propsTakesRow, standIns := [], harness := (true, "8b10077b8c923ea1f9f6f76bb15bc5faa0f3358c00e75fd62596f7e3825e0e13"), looks := false }, kinds := [], alts := [], laidByText := true, laidKinds := [.data, .pinned], laidTests := true, laidLooks := .later }
def PropsTakesCardSaid : Prop := Claim7.holds Tryd.pinned (.plain (OpenSpec.ofChange propsTakesSpec)) propsTakesCard

/-- THE TIED CARD OF 'pouchlaw06.PropsEach'. -/
def propsEachCard : Claim7 := { stood := { row := propsEachRow, standIns := [], harness := (true, "8b10077b8c923ea1f9f6f76bb15bc5faa0f3358c00e75fd62596f7e3825e0e13"), looks := false }, kinds := [], alts := [], laidByText := true, laidKinds := [.data, .pinned], laidTests := true, laidLooks := .later }
def PropsEachCardSaid : Prop := Claim7.holds Tryd.pinned (.plain (OpenSpec.ofChange propsEachSpec)) propsEachCard

/-- THE TIED CARD OF 'pouchlaw06.PropsChecks'. -/
def propsChecksCard : Claim7 := { stood := { row := propsChecksRow, standIns := [], harness := (true, "8b10077b8c923ea1f9f6f76bb15bc5faa0f3358c00e75fd62596f7e3825e0e13"), looks := false }, kinds := [], alts := [], laidByText := true, laidKinds := [.data, .pinned], laidTests := true, laidLooks := .later }
def PropsChecksCardSaid : Prop := Claim7.holds Tryd.pinned (.plain (OpenSpec.ofChange propsChecksSpec)) propsChecksCard

/-- THE TIED CARD OF 'pouchlaw06.PropsFixes'. -/
def propsFixesCard : Claim7 := { stood := { row := propsFixesRow, standIns := [], harness := (true, "8b10077b8c923ea1f9f6f76bb15bc5faa0f3358c00e75fd62596f7e3825e0e13"), looks := false }, kinds := [], alts := [], laidByText := true, laidKinds := [.data, .pinned], laidTests := true, laidLooks := .later }
def PropsFixesCardSaid : Prop := Claim7.holds Tryd.pinned (.plain (OpenSpec.ofChange propsFixesSpec)) propsFixesCard

/-- THE TIED CARD OF 'pouchlaw06.PropsOnce'. -/
def propsOnceCard : Claim7 := { stood := { row := propsOnceRow, standIns := [], harness := (true, "8b10077b8c923ea1f9f6f76bb15bc5faa0f3358c00e75fd62596f7e3825e0e13"), looks := false }, kinds := [], alts := [], laidByText := true, laidKinds := [.data, .pinned], laidTests := true, laidLooks := .later }
def PropsOnceCardSaid : Prop := Claim7.holds Tryd.pinned (.plain (OpenSpec.ofChange propsOnceSpec)) propsOnceCard

/-- THE TIED CARD OF 'pouchlaw07.PacketSames'. -/
def packetSamesCard : Claim7 := { stood := { row := packetSamesRow, standIns := [], harness := (true, "8b10077b8c923ea1f9f6f76bb15bc5faa0f3358c00e75fd62596f7e3825e0e13"), looks := false }, kinds := [], alts := [], laidByText := true, laidKinds := [.data, .data, .pinned], laidTests := true, laidLooks := .later }
def PacketSamesCardSaid : Prop := Claim7.holds Tryd.pinned (.plain (OpenSpec.ofChange packetSamesSpec)) packetSamesCard

/-- THE SECOND FORM's CARD OF 'pouchlaw06.PropsPuts'. -/
def propsPutsUptoCard : Claim7 := { stood := { row := propsPutsUptoRow, standIns := [], harness := (true, "8b10077b8c923ea1f9f6f76bb15bc5faa0f3358c00e75fd62596f7e3825e0e13"), looks := false }, kinds := [], alts := [], laidByText := true, laidKinds := [.data, .pinned], laidTests := true, laidLooks := .later }
def PropsPutsUptoCardSaid : Prop := Claim7.holds Tryd.pinned (.plain (OpenSpec.upto propsPutsSpec)) propsPutsUptoCard

/-- THE SECOND FORM's CARD OF 'pouchlaw06.PropsTakes'. -/
def propsTakesUptoCard : Claim7 := { stood := { row := propsTakesUptoRow, standIns := [], harness := (true, "8b10077b8c923ea1f9f6f76bb15bc5faa0f3358c00e75fd62596f7e3825e0e13"), looks := false }, kinds := [], alts := [], laidByText := true, laidKinds := [.data, .pinned], laidTests := true, laidLooks := .later }
def PropsTakesUptoCardSaid : Prop := Claim7.holds Tryd.pinned (.plain (OpenSpec.upto propsTakesSpec)) propsTakesUptoCard

/-- THE SECOND FORM's CARD OF 'pouchlaw06.PropsEach'. -/
def propsEachUptoCard : Claim7 := { stood := { row := propsEachUptoRow, standIns := [], harness := (true, "8b10077b8c923ea1f9f6f76bb15bc5faa0f3358c00e75fd62596f7e3825e0e13"), looks := false }, kinds := [], alts := [], laidByText := true, laidKinds := [.data, .pinned], laidTests := true, laidLooks := .later }
def PropsEachUptoCardSaid : Prop := Claim7.holds Tryd.pinned (.plain (OpenSpec.upto propsEachSpec)) propsEachUptoCard

/-- THE SECOND FORM's CARD OF 'pouchlaw06.PropsChecks'. -/
def propsChecksUptoCard : Claim7 := { stood := { row := propsChecksUptoRow, standIns := [], harness := (true, "8b10077b8c923ea1f9f6f76bb15bc5faa0f3358c00e75fd62596f7e3825e0e13"), looks := false }, kinds := [], alts := [], laidByText := true, laidKinds := [.data, .pinned], laidTests := true, laidLooks := .later }
def PropsChecksUptoCardSaid : Prop := Claim7.holds Tryd.pinned (.plain (OpenSpec.upto propsChecksSpec)) propsChecksUptoCard

/-- THE SECOND FORM's CARD OF 'pouchlaw06.PropsFixes'. -/
def propsFixesUptoCard : Claim7 := { stood := { row := propsFixesUptoRow, standIns := [], harness := (true, "8b10077b8c923ea1f9f6f76bb15bc5faa0f3358c00e75fd62596f7e3825e0e13"), looks := false }, kinds := [], alts := [], laidByText := true, laidKinds := [.data, .pinned], laidTests := true, laidLooks := .later }
def PropsFixesUptoCardSaid : Prop := Claim7.holds Tryd.pinned (.plain (OpenSpec.upto propsFixesSpec)) propsFixesUptoCard

/-- THE SECOND FORM's CARD OF 'pouchlaw06.PropsOnce'. -/
def propsOnceUptoCard : Claim7 := { stood := { row := propsOnceUptoRow, standIns := [], harness := (true, "8b10077b8c923ea1f9f6f76bb15bc5faa0f3358c00e75fd62596f7e3825e0e13"), looks := false }, kinds := [], alts := [], laidByText := true, laidKinds := [.data, .pinned], laidTests := true, laidLooks := .later }
def PropsOnceUptoCardSaid : Prop := Claim7.holds Tryd.pinned (.plain (OpenSpec.upto propsOnceSpec)) propsOnceUptoCard

/-- THE SECOND FORM's CARD OF 'pouchlaw07.PacketSames'. -/
def packetSamesUptoCard : Claim7 := { stood := { row := packetSamesUptoRow, standIns := [], harness := (true, "8b10077b8c923ea1f9f6f76bb15bc5faa0f3358c00e75fd62596f7e3825e0e13"), looks := false }, kinds := [], alts := [], laidByText := true, laidKinds := [.data, .data, .pinned], laidTests := true, laidLooks := .later }
def PacketSamesUptoCardSaid : Prop := Claim7.holds Tryd.pinned (.plain (OpenSpec.upto packetSamesSpec)) packetSamesUptoCard
end Rows
end Go.Proofs.YtfcgfkgibimffaaDoor
