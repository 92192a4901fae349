import Derived.Test.YtohmcfmcbibbcaaGreatDoorYI2
namespace Go.Proofs.YtohmcfmcbibbcaaGreatDoor
open Go.RowKit
set_option linter.unusedVariables false
set_option linter.unusedSimpArgs false
set_option maxRecDepth 100000
set_option maxHeartbeats 8000000
theorem ck_rlists {c:World} (v:Int) (p:Pk) (s:Sl) (hp:p.At s c) (hF:Fit p):Ck Tryz.prog 89 [.int .i64 v,p.val s] c (.bool (listsD v p)):=by
  have hf1:=hF.few.hf;have hf2:=hF.few.hc
  by_cases hk:p.kind=8∨p.kind=10
  · have hD:listsD v p=(decide (1≤p.filters.length)&&(decide (p.filters.length≤1024)&&p.filters.all fun f=>optD v p.kind f)):=by grind [listsD]
    refine Ck.in Tryz.func89 ?_
    repeat' first|refine go ?_|refine vA fun b=>?_|refine vc (fun _=>?_) fun _=>?_|refine vg (fun _=>?_) fun _=>?_|refine vrb ?_
    all_goals try (grind;done)
    all_goals refine vlo (fun (j:Nat)=>[(0,.int .i64 v),(3,.pointer (some ⟨b,0,none⟩)),(5,.int .i64 j)]) (fun _=>c) (fun _=>[⟨b,39,p.li s⟩]) (fun _=>[]) (fun j=>j≤p.filters.length∧(p.filters.drop j).all (fun f=>optD v p.kind f)=p.filters.all fun f=>optD v p.kind f) (fun j=>p.filters.length - j) 0 ⟨by omega,rfl⟩ fun j hj=>?_
    all_goals rcases Nat.lt_or_ge j p.filters.length with h|h
    all_goals first
      | (obtain ⟨b2,o2,hR⟩:=hp.hf.fi h
         have hS:=hF.r.tf _ (List.getElem_mem h);have hO:=hF.opt _ (List.getElem_mem h);have hq:p.filters[j].opt≤2→p.filters[j].opt / 4 % 2=0:=by omega
         have c1:=ck_rfilter (c:=c) hS;obtain ⟨u1,u2,c2⟩:=ck_rshared (c:=c) hS;rw[List.drop_eq_getElem_cons h,List.all_cons]at hj
         repeat' first|refine go ?_|refine vA fun b3=>?_|refine vc (fun _=>?_) fun _=>?_|refine vg (fun _=>?_) fun _=>?_|refine vrb ?_|refine ved (vj (j+1) ?_)
         all_goals (generalize ((p.filters.drop (j+1)).all fun f=>optD v p.kind f)=B1 at *;generalize (p.filters.all fun f=>optD v p.kind f)=B2 at *;clear hR c1 c2;generalize p.filters[j]=f at *;simp only[optD,hD,Bool.not_eq_true]at *;cases B1<;>cases B2<;>first|(grind;done)|(simp_all;done)|(simp_all;omega)))
      | (rw[List.drop_eq_nil_of_le h]at hj
         repeat' first|refine go ?_|refine vA fun b=>?_|refine vc (fun _=>?_) fun _=>?_|refine vg (fun _=>?_) fun _=>?_|refine vrb ?_
         all_goals grind)
  by_cases hk2:p.kind=9∨(p.kind=11∧v=5)
  · have hD:listsD v p=(decide (1≤p.codes.length)&&(decide (p.codes.length≤1024)&&p.codes.all fun f=>ke v p.kind f.toNat)):=by grind [listsD]
    refine Ck.in Tryz.func89 ?_
    repeat' first|refine go ?_|refine vA fun b=>?_|refine vc (fun _=>?_) fun _=>?_|refine vg (fun _=>?_) fun _=>?_|refine vrb ?_
    all_goals try (grind;done)
    all_goals refine vlo (fun (j:Nat)=>[(0,.int .i64 v),(3,.pointer (some ⟨b,0,none⟩)),(10,.int .i64 j)]) (fun _=>c) (fun _=>[⟨b,39,p.li s⟩]) (fun _=>[]) (fun j=>j≤p.codes.length∧(p.codes.drop j).all (fun f=>ke v p.kind f.toNat)=p.codes.all fun f=>ke v p.kind f.toNat) (fun j=>p.codes.length - j) 0 ⟨by omega,rfl⟩ fun j hj=>?_
    all_goals rcases Nat.lt_or_ge j p.codes.length with h|h
    all_goals first
      | (obtain ⟨b2,o2,hR⟩:=hp.hc.by8 h
         have c1:=ck_rknown (c:=c) (v:=v) (k:=p.kind) (p.codes[j].toNat_lt);rw[List.drop_eq_getElem_cons h,List.all_cons]at hj
         repeat' first|refine go ?_|refine vc (fun _=>?_) fun _=>?_|refine vg (fun _=>?_) fun _=>?_|refine vh [0] ?_|refine vqg (fun _=>?_) fun _=>?_|refine vrb ?_|refine vj (j+1) ?_
         all_goals grind)
      | (rw[List.drop_eq_nil_of_le h]at hj
         repeat' first|refine go ?_|refine vA fun b=>?_|refine vc (fun _=>?_) fun _=>?_|refine vg (fun _=>?_) fun _=>?_|refine vrb ?_
         all_goals grind)
  · refine Ck.in Tryz.func89 ?_
    repeat' first|refine go ?_|refine vA fun b=>?_|refine vc (fun _=>?_) fun _=>?_|refine vg (fun _=>?_) fun _=>?_|refine vrb ?_
    all_goals grind [listsD]
end Go.Proofs.YtohmcfmcbibbcaaGreatDoor
