import Derived.Test.YtofjhopecfmbcaaGreatDoorYH9
namespace Go.Proofs.YtofjhopecfmbcaaGreatDoor
open Go.RowKit
set_option linter.unusedVariables false
set_option linter.unusedSimpArgs false
set_option maxRecDepth 100000
structure Lm where
 rc:Int
 al:Int
 sz:Int
 q:Int
 rt:Bool
 wi:Bool
 nu:Bool
 sh:Bool
deriving DecidableEq
abbrev Lm.li (l:Lm):List Value:=[.int .u16 l.rc,.int .u16 l.al,.int .i64 l.sz,.int .u8 l.q,.bool l.rt,.bool l.wi,.bool l.nu,.bool l.sh]
def Lm.std:Lm:=⟨65535,0,268435460,2,true,true,true,true⟩
def numL (L:List Pr) (i o:Nat):Nat:=((getL L i).map Pr.n).getD o
def w16 (n:Nat):Int:=(n:Int) % 65536
def w8 (n:Nat):Int:=(n:Int) % 256
def wI (n:Nat):Int:=(n:Int)
def stepL (l:Lm) (x:Pr):Lm :=
 if x.id=33 then { l with rc:=w16 x.n } else if x.id=34 then { l with al:=w16 x.n } else if x.id=39 then { l with sz:=wI x.n } else
 if x.id=36 then { l with q:=w8 x.n } else if x.id=37 then { l with rt:=x.n != 0 } else if x.id=40 then { l with wi:=x.n != 0 } else
 if x.id=41 then { l with nu:=x.n != 0 } else if x.id=42 then { l with sh:=x.n != 0 } else l
def ofP (v:Int) (p:Pk):Lm:=if v=5∧(p.kind=1∨p.kind=2)∧rightP v p=true then p.props.foldl stepL .std else .std
def three (L:List Pr):Lm:=⟨w16 (numL L 33 65535),w16 (numL L 34 0),wI (numL L 39 268435460),2,true,true,true,true⟩
end Go.Proofs.YtofjhopecfmbcaaGreatDoor
