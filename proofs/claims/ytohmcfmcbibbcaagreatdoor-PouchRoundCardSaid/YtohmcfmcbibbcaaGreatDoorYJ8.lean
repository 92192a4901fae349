import Derived.Test.YtohmcfmcbibbcaaGreatDoorYI4
import Derived.Test.YtohmcfmcbibbcaaGreatDoorYI8
import Derived.Test.YtohmcfmcbibbcaaGreatDoorYI9
namespace Go.Proofs.YtohmcfmcbibbcaaGreatDoor
open Go.RowKit
set_option linter.unusedVariables false
set_option linter.unusedSimpArgs false
set_option maxRecDepth 100000
set_option maxHeartbeats 8000000
theorem ck_rRight {c:World} (v:Int) (p:Pk) (s:Sl) (hp:p.At s c) (hF:Fit p) (c1:Ck Tryz.prog 18 [p.val s,(bareP p).val (ownSl p s)] c (.bool (decide (p=bareP p)))):Ck Tryz.prog 39 [.int .i64 v,p.val s] c (.bool (rightD v p)):=by
 have c2:=ck_Bare (c:=c) p s;have c3:=ck_rcheck (c:=c) (k:=p.kind) (n:=s.pc) hp.hp hF.few.hp hF.wf.p;have c4:=ck_rcheck (c:=c) (k:=16) (n:=s.wc) hp.hw hF.few.hw hF.wf.w;have c5:=ck_rlists v p s hp hF;have c6:=ck_rconnect (c:=c) v p s hF;have c7:=ck_rpublish v p s hp hF;have c8:=ck_rknown (c:=c) (v:=v) (k:=p.kind) hF.code;have c9:=ck_rknown (c:=c) (v:=v) (k:=2) hF.code;have d1:=ck_rknown (c:=c) (v:=v) (k:=15) hF.code;obtain ⟨u1,u2,u3,u4,d2⟩:=ck_rget (c:=c) (n:=s.pc) (x:=21) rfl hp.hp hF.few.hp;refine Ck.in Tryz.func39 ?_
 repeat' first|refine go ?_|refine vA fun b=>?_|refine vc (fun _=>?_) fun _=>?_|refine vg (fun _=>?_) fun _=>?_|refine vh [0] ?_|refine vqg (fun _=>?_) fun _=>?_|refine vrb ?_
 all_goals (clear c1 c2 c3 c4 c5 c6 c7 c8 c9 d1 d2;grind [rightD,kindD,existsB])
end Go.Proofs.YtohmcfmcbibbcaaGreatDoor
