import Derived.Test.YtohmcfmcbibbcaaGreatDoorYI2
namespace Go.Proofs.YtohmcfmcbibbcaaGreatDoor
open Go.RowKit
set_option linter.unusedVariables false
set_option linter.unusedSimpArgs false
set_option maxRecDepth 100000
set_option maxHeartbeats 8000000
theorem ck_Bare {c:World} (p:Pk) (s:Sl):Ck Tryz.prog 65 [p.val s] c ((bareP p).val (ownSl p s)):=by
 refine Ck.in Tryz.func65 ?_
 repeat' first|refine go ?_|refine vA fun _=>?_|refine vc (fun _=>?_) fun _=>?_|refine vg (fun _=>?_) fun _=>?_|refine vh [2] ?_|refine vh [1] ?_|refine vrv ?_
 all_goals (simp only[bareP,ownSl,zk, *,↓reduceIte,Int.reduceEq,or_self,or_true,true_or,false_or,or_false,Bool.false_eq_true];rfl)
end Go.Proofs.YtohmcfmcbibbcaaGreatDoor
