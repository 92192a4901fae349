import Derived.Test.YtofjhopecfmbcaaGreatDoorBase
import Derived.Test.YtofjhopecfmbcaaGreatDoorUtf
import Derived.Test.YtofjhopecfmbcaaGreatDoorChecked
namespace Go.Proofs.YtofjhopecfmbcaaGreatDoor
open Go.RowKit
set_option linter.unusedVariables false
set_option linter.unusedSimpArgs false
theorem sz_list (B:ByteArray):B.data.toList.length=B.size:=by rw[Array.length_toList];rfl
end Go.Proofs.YtofjhopecfmbcaaGreatDoor
