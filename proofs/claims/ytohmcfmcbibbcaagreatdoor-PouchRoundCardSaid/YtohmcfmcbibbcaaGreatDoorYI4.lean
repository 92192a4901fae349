import Derived.Test.YtohmcfmcbibbcaaGreatDoorYI2
namespace Go.Proofs.YtohmcfmcbibbcaaGreatDoor
open Go.RowKit
set_option linter.unusedVariables false
set_option linter.unusedSimpArgs false
set_option maxRecDepth 100000
set_option maxHeartbeats 8000000
section
variable {c:World}
theorem ck_rpublish (v:Int) (p:Pk) (s:Sl) (hp:p.At s c) (hF:Fit p):Ck Tryz.prog 92 [.int .i64 v,p.val s] c (.bool (publishD v p)):=by
 have h1:=hF.r.topic;have c1:=ck_rname (c:=c) h1;obtain ⟨u1,u2,u3,u4,c2⟩:=ck_rget (c:=c) (n:=s.pc) (x:=35) rfl hp.hp hF.few.hp;refine Ck.in Tryz.func92 ?_
 repeat' first|refine go ?_|refine vA fun b=>?_|refine vc (fun _=>?_) fun _=>?_|refine vg (fun _=>?_) fun _=>?_|refine vh [0] ?_|refine vqg (fun _=>?_) fun _=>?_|refine vrb ?_
 all_goals grind [publishD,bsz]
theorem ck_rconnect (v:Int) (p:Pk) (s:Sl) (hF:Fit p):Ck Tryz.prog 90 [.int .i64 v,p.val s] c (.bool (connectD v p)):=by
 have h1:=hF.r.client;have h2:=hF.r.user;have h3:=hF.r.pass;have h4:=hF.r.willTopic;have h5:=hF.r.willLoad;have c1:=ck_rright (c:=c) h1;have c2:=ck_rright (c:=c) h2;have c3:=ck_rname (c:=c) h4;refine Ck.in Tryz.func90 ?_
 repeat' first|refine go ?_|refine vA fun b=>?_|refine vc (fun _=>?_) fun _=>?_|refine vg (fun _=>?_) fun _=>?_|refine vh [0] ?_|refine vqg (fun _=>?_) fun _=>?_|refine vrb ?_
 all_goals grind [connectD,bsz]
end
end Go.Proofs.YtohmcfmcbibbcaaGreatDoor
