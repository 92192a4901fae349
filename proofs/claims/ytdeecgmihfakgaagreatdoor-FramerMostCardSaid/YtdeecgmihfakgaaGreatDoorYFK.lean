import Derived.Test.YtdeecgmihfakgaaGreatDoorYFM
import Derived.Test.YtdeecgmihfakgaaGreatDoorYFE
import Derived.Test.YtdeecgmihfakgaaGreatDoorYFC
namespace Go.Proofs.YtdeecgmihfakgaaGreatDoor
open Go.RowKit
set_option linter.unusedVariables false
set_option linter.unusedSimpArgs false
set_option maxRecDepth 100000
def ts:Sl:=⟨none,0,none,0,none,0,none,0⟩
theorem Small.few {p:Pk} (h:Small p):p.few:=⟨by have:=h.nw;omega,by have:=h.nf;omega,by have:=h.sum;omega,by have:=h.np;omega⟩
end Go.Proofs.YtdeecgmihfakgaaGreatDoor
