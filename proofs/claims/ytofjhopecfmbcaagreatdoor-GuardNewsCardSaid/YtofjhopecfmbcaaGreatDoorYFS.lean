import Derived.Test.YtofjhopecfmbcaaGreatDoorYF8
namespace Go.Proofs.YtofjhopecfmbcaaGreatDoor
open Go.RowKit
set_option linter.unusedVariables false
set_option linter.unusedSimpArgs false
set_option maxRecDepth 100000
theorem takeSec_len (l:List UInt8) (e:Int):(takeSec l e).length≤l.length:=by
 have h1:=(rv_suf 4 0 0 l e).length_le;unfold takeSec taken
 split
 ·rw[List.length_take];omega
 ·simp
end Go.Proofs.YtofjhopecfmbcaaGreatDoor
