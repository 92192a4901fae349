import Derived.Test.YtdgmkcfkpknamaaGreatDoorYI2
namespace Go.Proofs.YtdgmkcfkpknamaaGreatDoor
open Go.RowKit
set_option linter.unusedVariables false
set_option linter.unusedSimpArgs false
set_option maxRecDepth 100000
set_option maxHeartbeats 8000000
section
variable {c:World}
theorem ck_rpublish (v:Int) (p:Pk) (s:Sl) (hp:p.At s c) (hF:Fit p):Ck Tryz.prog 110 [.int .i64 v,p.val s] c (.bool (publishD v p)):=by
 have h1:=hF.r.topic;have c1:=ck_rname (c:=c) h1;obtain ⟨u1,u2,u3,u4,c2⟩:=ck_rget (c:=c) (n:=s.pc) (x:=35) rfl hp.hp hF.few.hp;refine Ck.in Tryz.func110 ?_
 repeat' first|refine go ?_|refine vA fun b=>?_|refine vc (fun _=>?_) fun _=>?_|refine vg (fun _=>?_) fun _=>?_|refine vh [0] ?_|refine vqg (fun _=>?_) fun _=>?_|refine vrb ?_
 all_goals grind [publishD,bsz]
theorem ck_rconnect (v:Int) (p:Pk) (s:Sl) (hF:Fit p):Ck Tryz.prog 108 [.int .i64 v,p.val s] c (.bool (connectD v p)):=by
 have h1:=hF.r.client;have h2:=hF.r.user;have h3:=hF.r.pass;have h4:=hF.r.willTopic;have h5:=hF.r.willLoad;have c1:=ck_rright (c:=c) h1;have c2:=ck_rright (c:=c) h2;have c3:=ck_rname (c:=c) h4;refine Ck.in Tryz.func108 ?_
 repeat' first|refine go ?_|refine vA fun b=>?_|refine vc (fun _=>?_) fun _=>?_|refine vg (fun _=>?_) fun _=>?_|refine vh [0] ?_|refine vqg (fun _=>?_) fun _=>?_|refine vrb ?_
 all_goals grind [connectD,bsz]
end
theorem ck_Bare {c:World} (p:Pk) (s:Sl):Ck Tryz.prog 45 [p.val s] c ((bareP p).val (ownSl p s)):=by
 refine Ck.in Tryz.func45 ?_
 repeat' first|refine go ?_|refine vA fun _=>?_|refine vc (fun _=>?_) fun _=>?_|refine vg (fun _=>?_) fun _=>?_|refine vh [2] ?_|refine vh [1] ?_|refine vrv ?_
 all_goals (simp only[bareP,ownSl,zk, *,↓reduceIte,Int.reduceEq,or_self,or_true,true_or,false_or,or_false,Bool.false_eq_true];rfl)
theorem ck_rlists {c:World} (v:Int) (p:Pk) (s:Sl) (hp:p.At s c) (hF:Fit p):Ck Tryz.prog 107 [.int .i64 v,p.val s] c (.bool (listsD v p)):=by
  have hf1:=hF.few.hf;have hf2:=hF.few.hc
  by_cases hk:p.kind=8∨p.kind=10
  · have hD:listsD v p=(decide (1≤p.filters.length)&&(decide (p.filters.length≤1024)&&p.filters.all fun f=>optD v p.kind f)):=by grind [listsD]
    refine Ck.in Tryz.func107 ?_
    repeat' first|refine go ?_|refine vA fun b=>?_|refine vc (fun _=>?_) fun _=>?_|refine vg (fun _=>?_) fun _=>?_|refine vrb ?_
    all_goals try (grind;done)
    all_goals refine vlo (fun (j:Nat)=>[(0,.int .i64 v),(3,.pointer (some ⟨b,0,none⟩)),(5,.int .i64 j)]) (fun _=>c) (fun _=>[⟨b,27,p.li s⟩]) (fun _=>[]) (fun j=>j≤p.filters.length∧(p.filters.drop j).all (fun f=>optD v p.kind f)=p.filters.all fun f=>optD v p.kind f) (fun j=>p.filters.length - j) 0 ⟨by omega,rfl⟩ fun j hj=>?_
    all_goals rcases Nat.lt_or_ge j p.filters.length with h|h
    all_goals first
      | (obtain ⟨b2,o2,hR⟩:=hp.hf.fi h
         have hS:=hF.r.tf _ (List.getElem_mem h);have hO:=hF.opt _ (List.getElem_mem h);have hq:p.filters[j].opt≤2→p.filters[j].opt / 4 % 2=0:=by omega
         have c1:=ck_rfilter (c:=c) hS;obtain ⟨u1,u2,c2⟩:=ck_rshared (c:=c) hS;rw[List.drop_eq_getElem_cons h,List.all_cons]at hj
         repeat' first|refine go ?_|refine vA fun b3=>?_|refine vc (fun _=>?_) fun _=>?_|refine vg (fun _=>?_) fun _=>?_|refine vrb ?_|refine ved (vj (j+1) ?_)
         all_goals (generalize ((p.filters.drop (j+1)).all fun f=>optD v p.kind f)=B1 at *;generalize (p.filters.all fun f=>optD v p.kind f)=B2 at *;clear hR c1 c2;generalize p.filters[j]=f at *;simp only[optD,hD,Bool.not_eq_true]at *;cases B1<;>cases B2<;>first|(grind;done)|(simp_all;done)|(simp_all;omega)))
      | (rw[List.drop_eq_nil_of_le h]at hj
         repeat' first|refine go ?_|refine vA fun b=>?_|refine vc (fun _=>?_) fun _=>?_|refine vg (fun _=>?_) fun _=>?_|refine vrb ?_
         all_goals grind)
  by_cases hk2:p.kind=9∨(p.kind=11∧v=5)
  · have hD:listsD v p=(decide (1≤p.codes.length)&&(decide (p.codes.length≤1024)&&p.codes.all fun f=>ke v p.kind f.toNat)):=by grind [listsD]
    refine Ck.in Tryz.func107 ?_
    repeat' first|refine go ?_|refine vA fun b=>?_|refine vc (fun _=>?_) fun _=>?_|refine vg (fun _=>?_) fun _=>?_|refine vrb ?_
    all_goals try (grind;done)
    all_goals refine vlo (fun (j:Nat)=>[(0,.int .i64 v),(3,.pointer (some ⟨b,0,none⟩)),(10,.int .i64 j)]) (fun _=>c) (fun _=>[⟨b,27,p.li s⟩]) (fun _=>[]) (fun j=>j≤p.codes.length∧(p.codes.drop j).all (fun f=>ke v p.kind f.toNat)=p.codes.all fun f=>ke v p.kind f.toNat) (fun j=>p.codes.length - j) 0 ⟨by omega,rfl⟩ fun j hj=>?_
    all_goals rcases Nat.lt_or_ge j p.codes.length with h|h
    all_goals first
      | (obtain ⟨b2,o2,hR⟩:=hp.hc.by8 h
         have c1:=ck_rknown (c:=c) (v:=v) (k:=p.kind) (p.codes[j].toNat_lt);rw[List.drop_eq_getElem_cons h,List.all_cons]at hj
         repeat' first|refine go ?_|refine vc (fun _=>?_) fun _=>?_|refine vg (fun _=>?_) fun _=>?_|refine vh [0] ?_|refine vqg (fun _=>?_) fun _=>?_|refine vrb ?_|refine vj (j+1) ?_
         all_goals grind)
      | (rw[List.drop_eq_nil_of_le h]at hj
         repeat' first|refine go ?_|refine vA fun b=>?_|refine vc (fun _=>?_) fun _=>?_|refine vg (fun _=>?_) fun _=>?_|refine vrb ?_
         all_goals grind)
  · refine Ck.in Tryz.func107 ?_
    repeat' first|refine go ?_|refine vA fun b=>?_|refine vc (fun _=>?_) fun _=>?_|refine vg (fun _=>?_) fun _=>?_|refine vrb ?_
    all_goals grind [listsD]
theorem ck_rRight {c:World} (v:Int) (p:Pk) (s:Sl) (hp:p.At s c) (hF:Fit p) (c1:Ck Tryz.prog 17 [p.val s,(bareP p).val (ownSl p s)] c (.bool (decide (p=bareP p)))):Ck Tryz.prog 56 [.int .i64 v,p.val s] c (.bool (rightD v p)):=by
 have c2:=ck_Bare (c:=c) p s;have c3:=ck_rcheck (c:=c) (k:=p.kind) (n:=s.pc) hp.hp hF.few.hp hF.wf.p;have c4:=ck_rcheck (c:=c) (k:=16) (n:=s.wc) hp.hw hF.few.hw hF.wf.w;have c5:=ck_rlists v p s hp hF;have c6:=ck_rconnect (c:=c) v p s hF;have c7:=ck_rpublish v p s hp hF;have c8:=ck_rknown (c:=c) (v:=v) (k:=p.kind) hF.code;have c9:=ck_rknown (c:=c) (v:=v) (k:=2) hF.code;have d1:=ck_rknown (c:=c) (v:=v) (k:=15) hF.code;obtain ⟨u1,u2,u3,u4,d2⟩:=ck_rget (c:=c) (n:=s.pc) (x:=21) rfl hp.hp hF.few.hp;refine Ck.in Tryz.func56 ?_
 repeat' first|refine go ?_|refine vA fun b=>?_|refine vc (fun _=>?_) fun _=>?_|refine vg (fun _=>?_) fun _=>?_|refine vh [0] ?_|refine vqg (fun _=>?_) fun _=>?_|refine vrb ?_
 all_goals (clear c1 c2 c3 c4 c5 c6 c7 c8 c9 d1 d2;grind [rightD,kindD,existsB])
end Go.Proofs.YtdgmkcfkpknamaaGreatDoor
