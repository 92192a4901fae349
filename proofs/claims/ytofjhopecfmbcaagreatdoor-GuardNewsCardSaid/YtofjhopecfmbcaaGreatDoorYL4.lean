import Derived.Test.YtofjhopecfmbcaaGreatDoorYK3
namespace Go.Proofs.YtofjhopecfmbcaaGreatDoor
open Go.RowKit
set_option linter.unusedVariables false
set_option linter.unusedSimpArgs false
set_option maxRecDepth 100000
set_option maxHeartbeats 8000000
def pkc:Pk:={ zk 1 with clean:=true }
def pbc:List UInt8:=[16,12,0,4,77,81,84,84,4,2,0,0,0,0]
def pba:List UInt8:=[32,2,0,0]
abbrev g14:Gp:=Gp.new 4 Lm.std Lm.std
theorem fitc:Fit pkc:=by
 refine ⟨⟨?_,?_,?_,?_⟩,⟨?_,?_⟩,⟨?_,?_,?_,?_,?_,?_,?_,?_,?_,?_,?_,?_,?_,?_⟩,?_,?_,?_,?_,?_,?_⟩
 all_goals first|decide|(intro x hx;cases hx)
theorem fita:Fit (zk 2):=by
 refine ⟨⟨?_,?_,?_,?_⟩,⟨?_,?_⟩,⟨?_,?_,?_,?_,?_,?_,?_,?_,?_,?_,?_,?_,?_,?_⟩,?_,?_,?_,?_,?_,?_⟩
 all_goals first|decide|(intro x hx;cases hx)
theorem feedc1:feedS 4 100 ⟨true,[],0⟩ pbc=([(pkc,pbc)],⟨false,[],0⟩):=by kernel_rfl
theorem feedc2:feedS 4 100 ⟨false,[],0⟩ pbc=([(pkc,pbc)],⟨false,[],0⟩):=by kernel_rfl
theorem feeda:feedS 4 100 ⟨false,[],0⟩ pba=([(zk 2,pba)],⟨false,[],0⟩):=by kernel_rfl
section
variable {c:World}
theorem ck_told14 (hT:Tabs c):Ck Tryz.prog 5 [] c (.bool true):=by
 refine Ck.in Tryz.func5 ?_;refine go ?_;refine vta (M1:=[]) (R1:=[]) (tr_gNew (v:=4) (m:=100) (.inl rfl) (by decide)) fun ⟨g,f0,f1⟩ _=>?_
 dsimp only [List.cons_append,List.nil_append];refine go ?_;refine vpz ?_;refine go ?_;refine vt1c tr_Phase fun _ _=>?_
 refine go ?_;refine vsb fun c1 a1 n1 l1 r1 h1 h2=>?_
 refine LG.perm ?_ (List.perm_append_comm (l₁:=[_]) (l₂:=[_,_]))
 refine vta (M1:=[_,_]) (R1:=[_]) (tr_gFeedF (j:=0) (S:=⟨true,[],0⟩) (S':=⟨false,[],0⟩) (G':=connP g14 pkc) (b:=pbc) (b':=pbc) (p:=pkc) (hT.le l1) (.inl rfl) r1 h1 (by decide) feedc1 rfl (by decide) (by decide) rfl fun c' sl ba bc hT' hp=>tr_look1 hT' (p:=pkc) (sl:=sl) rfl rfl (by decide) hp fitc (by decide) (by decide) (by decide)) fun y ⟨y1,y2,y3⟩=>?_
 dsimp only [List.cons_append,List.nil_append];refine go ?_;refine vbc pba fun c2 b l2 r2=>?_
 refine LG.perm ?_ (((List.Perm.swap _ _ _).trans ((List.Perm.swap _ _ _).cons _)).trans (List.Perm.swap _ _ _))
 refine LG.permr ?_ (List.Perm.swap _ _ _)
 refine vta (M1:=[_,_]) (R1:=[_]) (tr_gFeedF (j:=1) (S:=⟨false,[],0⟩) (S':=⟨false,[],0⟩) (G:=connP g14 pkc) (G':=conk0 (connP g14 pkc) (zk 2)) (b:=pba) (b':=pba) (p:=zk 2) (((hT.le l1).le y1).le l2) (.inr rfl) r2 (fun h=>by cases h) (by decide) feeda rfl (by decide) (by decide) rfl fun c' sl ba bc hT' hp=>tr_look2 hT' (p:=zk 2) (sl:=sl) rfl rfl (by decide) hp fita rfl rfl (by decide) (by decide) (by decide)) fun z ⟨z1,z2,z3⟩=>?_
 dsimp only [List.cons_append,List.nil_append];refine go ?_;refine vt1b tr_Phase fun _ _=>?_
 refine go ?_;refine vsb fun c3 a3 n3 l3 r3 h3 h4=>?_
 refine LG.perm ?_ (((List.Perm.swap _ _ _).trans ((List.Perm.swap _ _ _).cons _)).trans (List.Perm.swap _ _ _))
 refine LG.permr ?_ (List.Perm.swap _ _ _)
 have hT3:=((((hT.le l1).le y1).le l2).le z1).le l3;refine vta (M1:=[_,_]) (R1:=[_]) (tr_gFeedR (S:=⟨false,[],0⟩) (S':=⟨false,[],0⟩) (G:=conk0 (connP g14 pkc) (zk 2)) (G':=conk0 (connP g14 pkc) (zk 2)) (b:=pbc) (b':=pbc) (p:=pkc) (code:=130) hT3 (by decide) r3 h3 (by decide) feedc2 (by decide) rfl fun c' sl ba bc hT' hp=>tr_look3 (p:=pkc) (sl:=sl) rfl rfl) fun x ⟨x1,x2,x3⟩=>?_
 dsimp only [List.cons_append,List.nil_append];obtain ⟨b5,o5,hR⟩:=Row.rat (y2.le ((l2.trans z1).trans (l3.trans x1))) 4 0 (acF 0 pbc) (fun i v h=>by rw[Nat.zero_mul,Nat.zero_add];simpa [nth_eq] using h) (by decide);obtain ⟨b6,o6,hR2⟩:=Row.rat x2 4 0 (acC 0 130) (fun i v h=>by rw[Nat.zero_mul,Nat.zero_add];simpa [nth_eq] using h) (by decide)
 repeat' first|refine go ?_|refine vix ?_|refine vlrf ?_|refine vt1b tr_Phase fun _ _=>?_|fail
 refine vrb ?_;exact decide_eq_true rfl
theorem tn_NewE {v m:Int} {fst:Bool} (h:¬ ((v=4∨v=5)∧2≤m)):Tn Tryz.prog 10 [.int .i64 v,.int .i64 m,.bool fst] c (fun _:Unit=>.tuple #[.pointer none,.int .i64 1]) (fun _ _=>True):=by
 refine Tn.in Tryz.func10 ?_
 by_cases h4:v=4
 ·have h2:m < 2:=by omega
  subst h4;refine go ?_;exact vrn2 ((),c) ⟨Le.refl c,trivial⟩
 ·by_cases h5:v=5
  ·have h2:m < 2:=by omega
   subst h5;refine go ?_;exact vrn2 ((),c) ⟨Le.refl c,trivial⟩
  ·refine go ?_
   exact vrn2 ((),c) ⟨Le.refl c,trivial⟩
theorem tn_gNewE {v m:Int} (h:¬ ((v=4∨v=5)∧2≤m)):Tn Tryz.prog 4 [.int .i64 v,.int .i64 m] c (fun _:Unit=>.tuple #[.pointer none,.int .i64 1]) (fun _ _=>True):=by
 refine Tn.in Tryz.func4 ?_;refine go ?_;refine vA fun g=>?_
 repeat' first|refine go ?_|fail
 refine vlo (fun _:Unit=>[(0,.int .i64 v),(1,.int .i64 m),(6,pt g),(13,.int .i64 0)]) (fun _=>c) (fun _=>[gdB g (Gp.new v Lm.nil Lm.nil) (Ga.new none none)]) (fun _=>[]) (fun _=>True) (fun _=>0) () trivial fun _ _=>?_
 refine go ?_;refine vtn (tn_NewE h) fun _ c1 l1 _=>?_
 repeat' first|refine go ?_|fail
 exact ved (vrn2 ((),c1) ⟨l1,trivial⟩)
theorem ck_PhaseN:Ck Tryz.prog 7 [.pointer none] c (.int .i64 3):=by
 refine Ck.in Tryz.func7 ?_;refine go ?_;refine vpz ?_;refine go ?_;exact vri rfl
theorem ck_FeedN {u:Value}:Ck Tryz.prog 6 [.pointer none,.int .i64 0,u] c (.slice none 0 0):=by
 have c1:=ck_there (c:=c) 0;have c2:=ck_PhaseN (c:=c);refine Ck.in Tryz.func6 ?_;refine go ?_;exact vrv rfl
theorem ck_IdsN:Ck Tryz.prog 8 [.pointer none,.int .i64 0] c (.slice none 0 0):=by
 refine Ck.in Tryz.func8 ?_;refine go ?_;refine vpz ?_;refine go ?_;exact vrv rfl
theorem ck_AlsN:Ck Tryz.prog 9 [.pointer none,.int .i64 0] c (.slice none 0 0):=by
 refine Ck.in Tryz.func9 ?_;refine go ?_;refine vpz ?_;refine go ?_;exact vrv rfl
theorem ck_GuardNews (hT:Tabs c) {v m:Int}:Ck Tryz.prog 3 [.int .i64 v,.int .i64 m] c (.bool true):=by
 refine Ck.in Tryz.func3 ?_
 by_cases h:(v=4∨v=5)∧2≤m
 ·obtain ⟨hv,hm⟩:=h
  have ct:=ck_told14 hT;have cP:=ck_PhaseN (c:=c);have cI:=ck_IdsN (c:=c);have cA:=ck_AlsN (c:=c);refine go ?_;refine vta (M1:=[]) (R1:=[]) (tr_gNew hv hm) fun ⟨g,f0,f1⟩ _=>?_
  dsimp only [List.cons_append,List.nil_append];rcases hv with rfl|rfl
  all_goals
   repeat' first|refine go ?_|refine vpz ?_|refine vpzn ?_|fail
   rw[decide_eq_true hm]
   repeat' first|refine go ?_|refine vgT ?_ (hp:=rfl)|refine vgF ?_ (hp:=rfl)|fail
   refine vA fun b=>?_
   have cF:=ck_FeedN (c:=c) (u:=.slice (some ⟨b,0,none⟩) 1 1)
   repeat' first|refine go ?_|refine vgT ?_ (hp:=rfl)|refine vgF ?_ (hp:=rfl)|fail
   exact vrb rfl
 ·refine go ?_
  refine vtn (tn_gNewE h) fun _ c1 l1 _=>?_
  have ct:=ck_told14 (hT.le l1);have cP:=ck_PhaseN (c:=c1);have cI:=ck_IdsN (c:=c1);have cA:=ck_AlsN (c:=c1)
  by_cases h4:v=4
  ·have h2:¬ 2≤m:=by omega
   subst h4
   repeat' first|refine go ?_|refine vpz ?_|refine vpzn ?_|fail
   rw[decide_eq_false h2]
   repeat' first|refine go ?_|refine vgT ?_ (hp:=rfl)|refine vgF ?_ (hp:=rfl)|fail
   refine vA fun b=>?_
   have cF:=ck_FeedN (c:=c1) (u:=.slice (some ⟨b,0,none⟩) 1 1)
   repeat' first|refine go ?_|refine vgT ?_ (hp:=rfl)|refine vgF ?_ (hp:=rfl)|fail
   exact vrb rfl
  ·by_cases h5:v=5
   ·have h2:¬ 2≤m:=by omega
    subst h5
    repeat' first|refine go ?_|refine vpz ?_|refine vpzn ?_|fail
    rw[decide_eq_false h2]
    repeat' first|refine go ?_|refine vgT ?_ (hp:=rfl)|refine vgF ?_ (hp:=rfl)|fail
    refine vA fun b=>?_
    have cF:=ck_FeedN (c:=c1) (u:=.slice (some ⟨b,0,none⟩) 1 1)
    repeat' first|refine go ?_|refine vgT ?_ (hp:=rfl)|refine vgF ?_ (hp:=rfl)|fail
    exact vrb rfl
   ·repeat' first|refine go ?_|refine vpz ?_|refine vpzn ?_|fail
    repeat' first|refine go ?_|refine vgT ?_ (hp:=rfl)|refine vgF ?_ (hp:=rfl)|fail
    refine vA fun b=>?_
    have cF:=ck_FeedN (c:=c1) (u:=.slice (some ⟨b,0,none⟩) 1 1)
    repeat' first|refine go ?_|refine vgT ?_ (hp:=rfl)|refine vgF ?_ (hp:=rfl)|fail
    exact vrb rfl
end
theorem guardNews_full (v m:Int) (w:World) (w0:(Lit.int .i64 v).wf=true) (w1:(Lit.int .i64 m).wf=true) (hT:Tabs w) :
  Calls Tryz.prog 3 #[.int .i64 v,.int .i64 m] w fun e w'=>e=.returned (.bool true)∧Below w.heap.size w w' :=
 ((ck_GuardNews (c:=w) hT (v:=v) (m:=m)).h w (Le.refl w)).mono fun e w' h=>⟨h.1,h.2.below (Nat.le_refl _) (fun _ _=>id)⟩
end Go.Proofs.YtofjhopecfmbcaaGreatDoor
