import Derived.Test.YtkochkhfbhjicaaGreatDoorYFZ
import Derived.Test.YtkochkhfbhjicaaGreatDoorYFT
import Derived.Test.YtkochkhfbhjicaaGreatDoorYFY
namespace Go.Proofs.YtkochkhfbhjicaaGreatDoor
open Go.RowKit
set_option linter.unusedVariables false
set_option linter.unusedSimpArgs false
set_option maxRecDepth 100000
section
variable {v k:Int} {f:Nat} {s:Ts}
end
end Go.Proofs.YtkochkhfbhjicaaGreatDoor
