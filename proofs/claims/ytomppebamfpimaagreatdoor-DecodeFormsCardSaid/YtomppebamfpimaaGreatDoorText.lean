import Derived.Test.YtomppebamfpimaaGreatDoorBase
import Derived.Test.YtomppebamfpimaaGreatDoorUtf
import Derived.Test.YtomppebamfpimaaGreatDoorChecked
namespace Go.Proofs.YtomppebamfpimaaGreatDoor
open Go.RowKit
set_option linter.unusedVariables false
set_option linter.unusedSimpArgs false
theorem sz_list (B : ByteArray) : B.data.toList.length = B.size := by rw [Array.length_toList]; rfl
end Go.Proofs.YtomppebamfpimaaGreatDoor
