import Derived.Test.YtdeecgmihfakgaaGreatDoorYFC
namespace Go.Proofs.YtdeecgmihfakgaaGreatDoor
open Go.RowKit
set_option linter.unusedVariables false
set_option linter.unusedSimpArgs false
set_option maxRecDepth 100000
structure FromB (base:Nat) (p:Pk) (zb:Nat) (s:Sl) (w:World):Prop where
 blk:Blk w zb 27 ({ p with filters:=[] }.cells s)
 sf:s.fa=none∧s.fc=0
 ow:w.ownsRow base 92 4 (.slice s.wa p.willProps.length s.wc) p.willProps.length (PC p.willProps)
 op:w.ownsRow base 92 4 (.slice s.pa p.props.length s.pc) p.props.length (PC p.props)
 oc:w.ownsRow base 5 1 (.slice s.ca p.codes.length s.cc) p.codes.length (B8 p.codes)
end Go.Proofs.YtdeecgmihfakgaaGreatDoor
