import Derived.Test.YtdeecgmihfakgaaGreatDoorYFA
import Derived.Test.YtdeecgmihfakgaaGreatDoorYFJ
import Derived.Laws.IdiomStrings
import Derived.Lib.BufferRead
namespace Go.Proofs.YtdeecgmihfakgaaGreatDoor
open Go.RowKit
set_option linter.unusedVariables false
set_option linter.unusedSimpArgs false
set_option maxRecDepth 100000
theorem share_first {c:UInt8} {l:List UInt8} (h:c≠36):isShare (c :: l)=false:=by
 unfold isShare shareW;simp[List.isPrefixOf];exact fun e=>absurd e.symm h
theorem no36 {l:List UInt8} (h:36 ∉ l):isShare l=false∧([36]:List UInt8).isPrefixOf l=false:=by
 cases l with
 | nil=>exact ⟨rfl,rfl⟩
 | cons c t =>
  have hc:c≠36:=fun e=>h (by simp[e])
  refine ⟨share_first hc,?_⟩;simp[List.isPrefixOf];exact fun e=>hc e.symm
structure Lv (x:List UInt8):Prop where
 vt:Vt x
 no47:47 ∉ x
 no36:36 ∉ x
 short:x.length≤1
end Go.Proofs.YtdeecgmihfakgaaGreatDoor
