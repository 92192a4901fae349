import Derived.Test.YtofjhopecfmbcaaGreatDoorYJ7
import Derived.Test.YtofjhopecfmbcaaGreatDoorYH3
import Derived.Lib.AppendZerosOnto
import Derived.WalkKit
import Derived.Test.YtofjhopecfmbcaaGreatDoorYH5
namespace Go.Proofs.YtofjhopecfmbcaaGreatDoor
set_option linter.unusedVariables false
set_option linter.unusedSimpArgs false
section
variable {α:Type} {key:α→Nat}
end
open Go.RowKit
set_option maxRecDepth 100000
set_option maxHeartbeats 8000000
section
variable {c:World}
end
structure IRw where
 id:Nat
 st:Int
 n:Int
abbrev IRw.li (x:IRw):List Value:=[.int .u16 x.id,.int .i64 x.st,.int .i64 x.n]
def IRC (L:List IRw):List Value:=L.flatMap IRw.li
section
variable {c:World}
structure PrtI where
 a:Option Addr
 n:Nat
 L:List IRw
abbrev PrtI.li (p:PrtI):List Value:=[.slice p.a p.L.length p.n]
end
section
variable {c:World}
end
structure ARw where
 id:Nat
 tx:ByteArray
abbrev ARw.li (x:ARw):List Value:=[.int .u16 x.id,.string x.tx]
def ARC (L:List ARw):List Value:=L.flatMap ARw.li
section
variable {c:World}
structure PrtA where
 a:Option Addr
 n:Nat
 L:List ARw
abbrev PrtA.li (p:PrtA):List Value:=[.slice p.a p.L.length p.n]
end
section
variable {c:World}
theorem ck_sclone {s:ByteArray} (hs:s.size≤1000000):Ck Tryz.prog 57 [.string s] c (.string s):=ckOf Tryz.func57 fun w _=>clone_any s w (by omega)
end
end Go.Proofs.YtofjhopecfmbcaaGreatDoor
