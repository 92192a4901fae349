import Derived.Lib.ValidLaws
import Derived.Lib.RuneCountTail
import Derived.Lib.Strings
import Derived.Lib.Index
namespace Go.Proofs.YtofjhopecfmbcaaGreatDoor
open Go.Lib
set_option linter.unusedVariables false
set_option linter.unusedSimpArgs false
def isText (l:List UInt8):Bool:=validD l&&!(l.contains 0)
end Go.Proofs.YtofjhopecfmbcaaGreatDoor
