import Derived.Test.YtnehnjklgglliaaGreatDoorYFS
import Derived.Test.YtnehnjklgglliaaGreatDoorYFV
import Derived.Test.YtnehnjklgglliaaGreatDoorYFG
namespace Go.Proofs.YtnehnjklgglliaaGreatDoor
open Go.RowKit
set_option linter.unusedVariables false
set_option linter.unusedSimpArgs false
set_option maxRecDepth 100000
theorem j48 (n:Int) (w:World) (h:0≤n) (h2:n≤255):(convert 5 3 (.int .u8 n)).run Tryz.prog w=.ok (.int .i64 n) w:=by
 have u:=Tryz.underlying3;have u2:=Tryz.underlying5;have e:IntKind.i64.wrap n=n:=jH (by omega) (by omega)
 go_simp
 try exact e
end Go.Proofs.YtnehnjklgglliaaGreatDoor
