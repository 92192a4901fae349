import Derived.Test.YtddolflgnfhfmaaGreatDoorYFK
import Derived.Lib.LaidU8T
import Derived.OpenShut
import Derived.ChangeArms
import Derived.ChangeReads
namespace Go.Proofs.YtddolflgnfhfmaaGreatDoor
open Go.RowKit
set_option linter.unusedVariables false
set_option linter.unusedSimpArgs false
set_option maxRecDepth 100000
def namesData {H : Type} : DataW H := .agg (nameL.map fun s => .lit (.string s.data.toList))
theorem names_of {W : World} (h : Go.Lib.VarReads Tryz.prog W "pouch/packet.names" namesData) : NamesAt W := by
 intro i hi
 obtain ⟨g, t, cs, fuel, p, hg, hty, hvar, hd⟩ := h
 obtain rfl := Option.some.inj ((show Tryz.prog.globalNamed "pouch/packet.names" = some 0 by kernel_rfl).symm.trans hg)
 obtain rfl := Option.some.inj ((show (Tryz.prog.globals[0]?).map (·.type) = some 143 by kernel_rfl).symm.trans hty)
 obtain ⟨xs, m, _, hx, hl, hn, hall⟩ := DataW.trod_array Tryz.underlying143 hd
 have hc1 : Tryz.prog.cellsOf 9 = 1 := by kernel_rfl
 have hc15 : Tryz.prog.cellsOf 143 = 15 := by kernel_rfl
 rw [hc15] at hl
 have h1 := hall i hi
 rw [hc1, Nat.mul_one] at h1
 have e1 : (cs.toList.drop i).take 1 = [cs.toList[i]'(by omega)] := by
  rw [List.drop_eq_getElem_cons (by omega)]
  rfl
 rw [e1, List.getElem?_eq_getElem (by omega)] at h1
 obtain ⟨s, hs1, hs2, _⟩ := DataW.trod_string Tryz.underlying9 h1
 have hf := congrArg Prod.fst hx
 simp only [namesData] at hf
 injection hf with hf
 have hf2 := congrArg (fun l => l[i]?) hf
 simp only [List.getElem?_map] at hf2
 rw [List.getElem?_eq_getElem (show i < xs.length by omega), hs2] at hf2
 have hi2 : i < nameL.length := hi
 rw [List.getElem?_eq_getElem hi2] at hf2
 simp only [Option.map_some, Option.some.injEq] at hf2
 injection hf2 with hf2
 injection hf2 with hf2
 have hs3 : nameL[i] = s := ByteArray.ext (Array.toList_inj.1 hf2)
 have hv := World.var?_cell hg hvar i
 rw [hv, ← Array.getElem?_toList, List.getElem?_eq_getElem (show i < cs.toList.length by omega)]
 have := List.singleton_inj.1 hs1
 rw [this, ← hs3, List.getD_eq_getElem?_getD, List.getElem?_eq_getElem hi2]
 rfl
end Go.Proofs.YtddolflgnfhfmaaGreatDoor
