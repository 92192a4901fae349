import Derived.Test.YtkochkhfbhjicaaGreatDoorYFC
namespace Go.Proofs.YtkochkhfbhjicaaGreatDoor
open Go.RowKit
set_option linter.unusedVariables false
set_option linter.unusedSimpArgs false
set_option maxRecDepth 100000
theorem j5o:(Tryz.prog.info? 51).map (λi=>(i.zero,i.size,i.bytes))=some (some (.agg #[.string ⟨#[]⟩,.int .u8 0]),2,24):=by kernel_rfl
structure jPa (base:Nat) (p:Pk) (zb:Nat) (s:Sl) (w:World):Prop where
 blk:Blk w zb 27 ({p with filters:=[]}.cells s)
 sf:s.fa=none∧s.fc=0
 ow:w.ownsRow base 46 4 (.slice s.wa p.willProps.length s.wc) p.willProps.length (PC p.willProps)
 op:w.ownsRow base 46 4 (.slice s.pa p.props.length s.pc) p.props.length (PC p.props)
 oc:w.ownsRow base 5 1 (.slice s.ca p.codes.length s.cc) p.codes.length (B8 p.codes)
end Go.Proofs.YtkochkhfbhjicaaGreatDoor
