import Derived.Test.YtomppebamfpimaaGreatDoorYF2
import Derived.Deep.RegionHeld3
import Derived.IntWalk
import Derived.Test.YtomppebamfpimaaGreatDoorYFF
namespace Go.Proofs.YtomppebamfpimaaGreatDoor
open Go.RowKit
set_option linter.unusedVariables false
set_option linter.unusedSimpArgs false
theorem first_eq (s : ByteArray) (h : 0 < s.size) : s.data.toList = s[0] :: s.data.toList.drop 1 := by
 have hl : 0 < s.data.toList.length := by rw [sz_list]; exact h
 have h1 : s.data.toList = s.data.toList[0] :: s.data.toList.drop 1 := by
  have := List.drop_eq_getElem_cons hl
  simpa using this
 have h2 : s.data.toList[0] = s[0] := by simp [ByteArray.getElem_eq_getElem_data] <;> rfl
 rw [h2] at h1
 exact h1
theorem info_u8 : (Tryz.prog.info? 5).map (fun i => (i.zero, i.size, i.bytes)) = some (some (.int .u8 0), 1, 1) := by kernel_rfl
end Go.Proofs.YtomppebamfpimaaGreatDoor
