import Derived.Test.YtohmcfmcbibbcaaGreatDoorYJ2
import Derived.Test.YtohmcfmcbibbcaaGreatDoorYH7
import Derived.Test.YtohmcfmcbibbcaaGreatDoorYH9
namespace Go.Proofs.YtohmcfmcbibbcaaGreatDoor
open Go.RowKit
set_option linter.unusedVariables false
set_option linter.unusedSimpArgs false
set_option maxRecDepth 100000
set_option maxHeartbeats 8000000
theorem gon9 {G G':Prop} (k:G') (h:Nx G'→G:=by
  intro k9
  repeat1' (first
   | refine vs ?_
   | refine vct ?_
   | refine vcf ?_
   | refine vk ?_
   | refine ves ?_
   | refine vre ?_
   | refine ver ?_
   | refine vex ?_
   | refine vebr ?_
   | refine vebx ?_
   | refine veby ?_
   | refine veb ?_
   | refine vjr ?_
   | refine vjx ?_)
  exact k9.h):G:=h ⟨k⟩
abbrev fqM (b3 b4 b6:Nat) (p q:Pk) (s t:Sl):List Bl:=[⟨b6,39,q.li t⟩,⟨b4,39,(zk 0).li sl0⟩,⟨b3,39,p.li s⟩]
abbrev fqV (v:Int) (b3 b4 b6:Nat):List (Nat × Value):=[(0,.int .i64 v),(3,pt b3),(4,pt b4),(6,pt b6)]
section
variable {P:Program} {Q:Kn} {N:Nat} {L:List (Nat × Value)} {c:World} {M:List Bl}
theorem vld {ops:Array Oper} {rest:List Oper} {R:List Rwv} {m0:Bl} (k:LG P ops Q rest N L c M R):LG P ops Q rest N L c (m0 :: M) R:=⟨fun κ a w F S=>k.h κ a w F S.drop⟩
theorem vcn {α:Type} {xc:Code} {R:List Rwv} (Lf:α→List (Nat × Value)) (cf:α→World) (Mf:α→List Bl) (Rf:α→List Rwv) (φ:α→Prop) (k:CG P (KJ (Jn N Lf cf Mf Rf φ (fun _=>0) 1) Q) xc N L c M R) (k2:∀ z,φ z→EG P Q .normal N (Lf z) (cf z) (Mf z) (Rf z)):CG P Q xc N L c M R :=
 ⟨fun κ a w F S=>wp_mono (k.h κ a w F S) fun e a w h=>by
  cases e with
  | normal =>
   obtain ⟨y,h1,h2,h3,h4⟩:=h.h;exact (k2 y h2).h κ a w h3 h4
  | exit id=>exact h
  | goto l=>exact h
  | ret=>exact h
  | panic ch=>exact h
  | outgrown=>exact h⟩
theorem vfx {xc yc:Code} {v:Int} {b3 b4 b6:Nat} {p:Pk} {s:Sl} (q:Pk) (t:Sl) (k:CG P (KJ (Jn N (fun _:Unit=>fqV v b3 b4 b6) (fun _=>c) (fun _=>fqM b3 b4 b6 p q s t) (fun _=>[]) (fun _=>True) (fun _=>0) 1) Q) xc N L c M []) (k2:CG P Q yc N (fqV v b3 b4 b6) c (fqM b3 b4 b6 p q s t) []):CG P (KS P yc Q) xc N L c M []:=vck _ _ _ _ _ k fun _ _=>k2
end
def fq1 (v:Int) (p:Pk):Pk:={ p with kind:=fqK v p,client:=fixS p.client,user:=fixS p.user,topic:=tfixS p.topic,willTopic:=tfixS p.willTopic,pass:=cutN 9 p.pass,willLoad:=cutN 9 p.willLoad,load:=cutN 40 p.load,qos:=p.qos % 3,willQoS:=p.willQoS % 3 }
def fq2 (v:Int) (p:Pk):Pk:={ fq1 v p with dup:=p.dup&&decide ((0:Int) < ((p.qos % 3:Nat):Int)) }
def fq3 (v:Int) (p:Pk):Pk:={ fq2 v p with id:=if p.id=0 then 1 else p.id }
def fq4 (v:Int) (p:Pk):Pk:={ fq3 v p with id:=fqI v p }
def fq5 (v:Int) (p:Pk):Pk:={ fq4 v p with hasPass:=p.hasPass&&(decide (v=5)||p.hasUser) }
def fq6 (v:Int) (p:Pk):Pk:={ fq5 v p with clean:=p.clean||(decide (v=4)&&decide (fixS p.client=⟨#[]⟩)) }
def fq7 (v:Int) (p:Pk):Pk:={ fq6 v p with code:=rfx v (fqK v p) p.code }
def fq8 (v:Int) (p:Pk):Pk:={ fq7 v p with present:=p.present&&decide (((rfx v (fqK v p) p.code:Nat):Int)=0) }
structure FxS where
 T:ByteArray
 L:List Pr
 M:List Pr
 pa:Option Addr
 pc:Nat
 wa:Option Addr
 wc:Nat
 c:World
structure FxL where
 l:List Fi
 fa:Option Addr
 fc:Nat
section
variable {c:World}
theorem tn_Fix7 {v:Int} (hv:v=4∨v=5) (p:Pk) (s:Sl) (hp:p.At s c) (hY:Any p):Tn Tryz.prog 26 [.int .i64 v,p.val s] c (fun x:Pk × Sl=>x.1.val x.2) (fun x c'=>x.1.At x.2 c'∧(x.2.ca=none→x.2.cc=0)∧∃ Q,x.1=bareP Q∧FixQ v Q):=by
 have hR:=hY.r;have a1:=ck_f2 (c:=c) hR.client;have a2:=ck_f2 (c:=c) hR.user;have a3:=ck_f4 (c:=c) hR.topic;have a4:=ck_f4 (c:=c) hR.willTopic;have hq:=hY.qos;have hwq:=hY.wq;have hcd:=hY.code;have s1:=hR.pass;have s2:=hR.willLoad;have s3:=hR.load;refine Tn.in Tryz.func26 ?_;refine go ?_;refine vA fun b3=>?_
 refine vA fun b4=>?_
 refine go ?_;refine vck (fun m:Int=>[(0,.int .i64 v),(3,pt b3),(4,pt b4),(5,.int .i64 m)]) (fun _=>c) (fun _=>[⟨b4,39,(zk 0).li sl0⟩,⟨b3,39,p.li s⟩]) (fun _=>[]) (fun m=>m=if v=5 then 15 else 14) ?_ fun m hm=>?_
 ·refine vc (fun h=>?_) fun h=>?_
  ·refine go ?_
   exact vj 15 (by rw[if_pos h])
  ·refine go ?_
   exact vj 14 (by rw[if_neg h])
 have hK:fqK v p=1+p.kind % 18446744073709551616 % m:=by rw[hm];rfl
 have hm1:14≤m∧m≤15:=by rw[hm];split<;>omega
 have hm2:=Int.emod_nonneg (p.kind % 18446744073709551616) (b:=m) (by omega);have hm3:=Int.emod_lt_of_pos (p.kind % 18446744073709551616) (b:=m) (by omega);refine go ?_;refine vA fun b6=>?_
 refine go ?_;refine vh [2] ?_
 repeat' first|refine go ?_|refine vqx 0 ?_|fail
 refine vh [2] ?_
 repeat' first|refine go ?_|refine vqx 0 ?_|refine vqx 0 ?_ (h:=qh_q (qmi rfl rfl))|refine vqx 0 ?_ (h:=qh_q (qst rfl rfl rfl (by omega) (by omega)))|fail
 refine vfx (v:=v) (b3:=b3) (b4:=b4) (b6:=b6) (p:=p) (s:=s) (fq1 v p) s ?_ ?_
 ·refine vh [2] ?_
  repeat' first|refine go ?_|refine vqx 0 ?_|fail
  exact vj () trivial (hM:=by unfold fqM fq1;rw[hK];rfl)
 try refine gon9 ?_
 refine vfx (v:=v) (b3:=b3) (b4:=b4) (b6:=b6) (p:=p) (s:=s) (fq2 v p) s ?_ ?_
 ·refine go ?_
  refine vg (fun h=>?_) fun h=>?_
  all_goals refine go ?_
  all_goals exact vj () trivial (hM:=by unfold fqM fq2;rw[h];rfl)
 refine go ?_;refine vfx (v:=v) (b3:=b3) (b4:=b4) (b6:=b6) (p:=p) (s:=s) (fq3 v p) s ?_ ?_
 ·refine vc (fun h=>?_) fun h=>?_
  all_goals refine go ?_
  ·exact vj () trivial (hM:=by unfold fqM fq3;rw[if_pos (show p.id=0 by have:(p.id:Int)=0:=h;omega)];rfl)
  ·exact vj () trivial (hM:=by unfold fqM fq3;rw[if_neg (show ¬ p.id=0 by have:¬ (p.id:Int)=0:=h;omega)];rfl)
 try refine gon9 ?_
 refine vck (fun _:Unit=>(96,.bool (decide (fqK v p=3∧p.qos % 3=0))) :: fqV v b3 b4 b6) (fun _=>c) (fun _=>fqM b3 b4 b6 p (fq3 v p) s s) (fun _=>[]) (fun _=>True) ?_ fun _ _=>?_
 ·refine go ?_
  refine vg (fun h=>?_) fun h=>?_
  all_goals refine go ?_
  ·have h':fqK v p=3:=h
   have e:decide (fqK v p=3∧p.qos % 3=0)=decide (((p.qos % 3:Nat):Int)=0):=decide_eq_decide.2 ⟨fun q=>by omega,fun q=>⟨h',by omega⟩⟩;rw[e];exact vj () trivial
  ·have e:decide (fqK v p=3∧p.qos % 3=0)=false:=decide_eq_false fun q=>h q.1
   rw[e];exact vj () trivial
 try refine gon9 ?_
 refine vfx (v:=v) (b3:=b3) (b4:=b4) (b6:=b6) (p:=p) (s:=s) (fq4 v p) s ?_ ?_
 ·refine vc (fun h=>?_) fun h=>?_
  all_goals refine go ?_
  ·exact vj () trivial (hM:=by unfold fqM fq4 fqI;rw[if_pos h];rfl)
  ·exact vj () trivial (hM:=by unfold fqM fq4 fqI;rw[if_neg h];rfl)
 try refine gon9 ?_
 refine vfx (v:=v) (b3:=b3) (b4:=b4) (b6:=b6) (p:=p) (s:=s) (fq5 v p) s ?_ ?_
 ·refine go ?_
  refine vg (fun h=>?_) fun h=>?_
  all_goals refine go ?_
  ·refine vg (fun h1=>?_) fun h1=>?_
   all_goals refine go ?_
   ·exact vj () trivial (hM:=by unfold fqM fq5;rw[h,decide_eq_true h1];rfl)
   ·exact vj () trivial (hM:=by unfold fqM fq5;rw[h,decide_eq_false h1];rfl)
  ·exact vj () trivial (hM:=by unfold fqM fq5;rw[h];rfl)
 try refine gon9 ?_
 refine vfx (v:=v) (b3:=b3) (b4:=b4) (b6:=b6) (p:=p) (s:=s) (fq6 v p) s ?_ ?_
 ·refine go ?_
  refine vg (fun h=>?_) fun h=>?_
  all_goals refine go ?_
  ·exact vj () trivial (hM:=by unfold fqM fq6;rw[h];rfl)
  ·refine vg (fun h1=>?_) fun h1=>?_
   all_goals refine go ?_
   ·exact vj () trivial (hM:=by unfold fqM fq6;rw[h,decide_eq_true h1];rfl)
   ·exact vj () trivial (hM:=by unfold fqM fq6;rw[h,decide_eq_false h1];rfl)
 have a5:=ck_f3 (c:=c) (v:=v) (k:=fqK v p) hcd
 try refine gon9 ?_
 refine vfx (v:=v) (b3:=b3) (b4:=b4) (b6:=b6) (p:=p) (s:=s) (fq7 v p) s ?_ ?_
 ·refine go ?_
  exact vj () trivial (hM:=by unfold fqM fq7;rfl)
 try refine gon9 ?_
 refine vfx (v:=v) (b3:=b3) (b4:=b4) (b6:=b6) (p:=p) (s:=s) (fq8 v p) s ?_ ?_
 ·refine go ?_
  refine vg (fun h=>?_) fun h=>?_
  all_goals refine go ?_
  ·exact vj () trivial (hM:=by unfold fqM fq8;rw[h];rfl)
  ·exact vj () trivial (hM:=by unfold fqM fq8;rw[h];rfl)
 try refine gon9 ?_
 refine vfx (v:=v) (b3:=b3) (b4:=b4) (b6:=b6) (p:=p) (s:=s) (fqB v p) { s with pa:=none,pc:=0,wa:=none,wc:=0 } ?_ ?_
 ·refine go ?_
  exact vj () trivial (hM:=by unfold fqM fqB fq8;rfl)
 refine go ?_;refine vck (fun _:FxS=>fqV v b3 b4 b6) (fun x=>x.c) (fun x=>fqM b3 b4 b6 p { fqB v p with topic:=x.T,props:=x.L,willProps:=x.M } s { s with pa:=x.pa,pc:=x.pc,wa:=x.wa,wc:=x.wc }) (fun _=>[]) (fun x=>Le c x.c∧FxP v p x.T x.L x.M∧Row x.c x.pa (PC x.L)∧Row x.c x.wa (PC x.M)) ?_ fun ⟨T,L1,L2,pa,pc,wa,wc,c1⟩ ⟨x1,x2,x3,x4⟩=>?_
 ·refine vc (fun h=>?_) fun h=>?_
  ·have h5:v=5:=by omega
   subst h5;have y1:=tr_f6 (c:=c) (n:=s.pc) (k:=fqK 5 p) hp.hp hR.np hY.props;have y2:=tr_f6 (c:=c) (n:=s.wc) (k:=16) hp.hw hR.nw hY.wprops;refine go ?_;refine vh [2] ?_
   repeat' first
    | refine go ?_
    | refine vqx 0 ?_
    | refine vqx 1 ?_
    | refine vqlm ?_
    | refine vqt0r y1 fun z1 _=>?_
    | refine vqt0r y2 fun z2 _=>?_
    | fail
   obtain ⟨w1,w2,w3,w4⟩:=fix6_ok p.props (fqK 5 p) (fun x hx=>(hY.pw x hx).2);have hfl:fqL p=if fqK 5 p=15∧(getL (fix6 p.props (fqK 5 p)) 21).isSome=false then sortL (fix6 p.props (fqK 5 p)++[mA]) else fix6 p.props (fqK 5 p):=rfl
   have hft:fqT p=if (getL (fqL p) 35).isSome=true∧p.topic=⟨#[]⟩ then ⟨#[]⟩ else tfixS p.topic:=rfl
   have hfp:=fxP_5 hY;generalize hL0:fix6 p.props (fqK 5 p)=L0 at *;obtain ⟨i1,m1,A1,B1,g21⟩:=rget_all z1.1 z1.2 L0 21 (by omega);refine vlf9 fun c1 l1 o1=>?_
   by_cases hX:fqK 5 p=15∧(getL L0 21).isSome=false
   ·rw[if_pos hX]at hfl
    have k15:(fqB 5 p).kind=15:=hX.1;have k21:(!(getL L0 21).isSome)=true:=by rw[hX.2];rfl
    refine vkl (fun c' k o=>g21 c' o.row) ?_;refine go ?_;refine vA fun b7=>?_
    refine go ?_;refine vA fun b8=>?_
    refine vgb fun a' cp'=>?_
    have e1:PC L0++[.int .u8 21,.int .u32 0,.string ⟨#[109]⟩,.string ⟨#[]⟩]=PC (L0++[mA]):=by rw[PC_append];rfl
    have e2:L0.length+1=(L0++[mA]).length:=by simp
    rw[e2];refine vlf9 fun c2 l2 o2=>?_
    rw[e1]at o2;refine vtn (tn_rsort o2.row (fun h=>⟨by have:=o2.nil h;have:=o2.le;omega,o2.nil h⟩) (by simp;omega)) fun x c3 l3 o3=>?_
    rw[← hfl]at o3 ⊢;refine vld (vld ?_);obtain ⟨i5,m5,A5,B5,g35⟩:=rget_all x.1 x.2 (fqL p) 35 (by have:=hfp.prn;omega);have gd:=g35 c3 o3.row
    by_cases hT:(getL (fqL p) 35).isSome=true∧p.topic=⟨#[]⟩
    ·rw[hft,if_pos hT]at hfp
     obtain ⟨h1,h2⟩:=hT;refine go ?_;refine vA fun b9=>?_
     refine go ?_;exact ved (vj (FxS.mk ⟨#[]⟩ (fqL p) _ x.1 x.2 z2.1 z2.2 c3) ⟨(l1.trans l2).trans l3,hfp,o3.row,o1.row.le (l2.trans l3)⟩)
    ·rw[hft,if_neg hT]at hfp
     by_cases h1:(getL (fqL p) 35).isSome=true
     ·have h2:¬ p.topic=⟨#[]⟩:=fun q=>hT ⟨h1,q⟩
      refine go ?_;refine vA fun b9=>?_
      refine go ?_;exact ved (vj (FxS.mk (tfixS p.topic) (fqL p) _ x.1 x.2 z2.1 z2.2 c3) ⟨(l1.trans l2).trans l3,hfp,o3.row,o1.row.le (l2.trans l3)⟩)
     ·have h2:(getL (fqL p) 35).isSome=false:=by revert h1;cases (getL (fqL p) 35).isSome<;>simp
      refine go ?_;refine vA fun b9=>?_
      refine go ?_;exact ved (vj (FxS.mk (tfixS p.topic) (fqL p) _ x.1 x.2 z2.1 z2.2 c3) ⟨(l1.trans l2).trans l3,hfp,o3.row,o1.row.le (l2.trans l3)⟩)
   ·rw[if_neg hX]at hfl
    refine vlf9 fun c2 l2 o2=>?_
    have gc:=g21 c2 o2.row;rw[← hfl]at o2 gc ⊢;have kX:¬ ((fqB 5 p).kind=15∧(getL (fqL p) 21).isSome=false):=by rw[hfl];exact hX
    by_cases k15:(fqB 5 p).kind=15
    case' pos =>
     have k21:(!(getL (fqL p) 21).isSome)=false:=by cases hq:(getL (fqL p) 21).isSome with
       | true=>rfl
       | false=>exact absurd ⟨k15,hq⟩ kX
    all_goals
     refine go ?_;refine vA fun b7=>?_
     refine go ?_;refine vld ?_;obtain ⟨i5,m5,A5,B5,g35⟩:=rget_all z1.1 z1.2 (fqL p) 35 (by have:=hfp.prn;omega);have gd:=g35 c2 o2.row
     by_cases hT:(getL (fqL p) 35).isSome=true∧p.topic=⟨#[]⟩
     ·rw[hft,if_pos hT]at hfp
      obtain ⟨h1,h2⟩:=hT;refine go ?_;refine vA fun b9=>?_
      refine go ?_;exact ved (vj (FxS.mk ⟨#[]⟩ (fqL p) _ z1.1 z1.2 z2.1 z2.2 c2) ⟨l1.trans l2,hfp,o2.row,o1.row.le l2⟩)
     ·rw[hft,if_neg hT]at hfp
      by_cases h1:(getL (fqL p) 35).isSome=true
      ·have h2:¬ p.topic=⟨#[]⟩:=fun q=>hT ⟨h1,q⟩
       refine go ?_;refine vA fun b9=>?_
       refine go ?_;exact ved (vj (FxS.mk (tfixS p.topic) (fqL p) _ z1.1 z1.2 z2.1 z2.2 c2) ⟨l1.trans l2,hfp,o2.row,o1.row.le l2⟩)
      ·have h2:(getL (fqL p) 35).isSome=false:=by revert h1;cases (getL (fqL p) 35).isSome<;>simp
       refine go ?_;refine vA fun b9=>?_
       refine go ?_;exact ved (vj (FxS.mk (tfixS p.topic) (fqL p) _ z1.1 z1.2 z2.1 z2.2 c2) ⟨l1.trans l2,hfp,o2.row,o1.row.le l2⟩)
  ·have h4:v=4:=by omega
   subst h4;refine go ?_;exact vj (FxS.mk (tfixS p.topic) [] [] none 0 none 0 c) ⟨Le.refl c,fxP_4,.nil _ _,.nil _ _⟩
 dsimp only at x1 x2 x3 x4 ⊢;generalize hqq:({ fqB v p with topic:=T,props:=L1,willProps:=L2 }:Pk)=q at *;have hqk:q.kind=fqK v p:=by rw[← hqq];rfl
 refine gob ?_;refine CG.nilr 79 2 ?_;refine vck (fun _:FxL=>fqV v b3 b4 b6) (fun _=>c1) (fun x=>fqM b3 b4 b6 p { q with filters:=x.l,codes:=[] } s ⟨wa,wc,x.fa,x.fc,none,0,pa,pc⟩) (fun x=>[⟨79,2,.slice x.fa x.l.length x.fc,x.l.length,FC x.l⟩]) (fun x=>x.l.length≤5∧∀ f∈x.l,optD v (fqK v p) f=true∧f.opt < 256∧f.text.size≤40) ?_ fun y ⟨y1,y2⟩=>?_
 ·refine go ?_
  refine vlo (fun x:FxL=>(11,.int .i64 x.l.length) :: fqV v b3 b4 b6) (fun _=>c1) (fun x=>fqM b3 b4 b6 p { q with filters:=x.l,codes:=[] } s ⟨wa,wc,x.fa,x.fc,none,0,pa,pc⟩) (fun x=>[⟨79,2,.slice x.fa x.l.length x.fc,x.l.length,FC x.l⟩]) (fun x=>x.l.length≤5∧∀ f∈x.l,optD v (fqK v p) f=true∧f.opt < 256∧f.text.size≤40) (fun x=>5 - x.l.length) ⟨[],none,0⟩ ⟨Nat.zero_le _,by simp⟩ fun x ⟨z1,z2⟩=>?_
  by_cases hi:x.l.length < p.filters.length∧x.l.length < 5
  ·obtain ⟨i1,i2⟩:=hi
   obtain ⟨b5,o5,hRt⟩:=(hp.hf.le x1).fi i1;have f1:=hR.tf _ (List.getElem_mem i1);have f2:=hY.opt _ (List.getElem_mem i1);have a6:=ck_ff (c:=c1) f1;obtain ⟨f3,f4⟩:=ff_filter p.filters[x.l.length].text;obtain ⟨u1,u2,a7⟩:=ck_rshared (c:=c1) (s:=ffS p.filters[x.l.length].text) (by omega);refine go ?_;refine vck (fun b12:Nat=>(12,pt b12) :: (11,.int .i64 x.l.length) :: fqV v b3 b4 b6) (fun _=>c1) (fun b12=>⟨b12,79,[.string (ffS p.filters[x.l.length].text),.int .u8 (p.filters[x.l.length].opt % 3:Nat)]⟩ :: fqM b3 b4 b6 p { q with filters:=x.l,codes:=[] } s ⟨wa,wc,x.fa,x.fc,none,0,pa,pc⟩) (fun _=>[⟨79,2,.slice x.fa x.l.length x.fc,x.l.length,FC x.l⟩]) (fun _=>True) ?_ fun b12 _=>?_
   ·refine vh [2] ?_
    repeat' first
     | refine go ?_
     | refine vqy 1 ?_
     | refine vqbu 0 ?_
     | refine vqp2 ?_ ?_
     | refine vikk a6 ?_
     | refine viA fun b12=>?_
     | refine vqA fun b12=>?_
     | fail
    all_goals exact vj b12 trivial
   have key:∃ o,o < 48∧o % 4≠3∧(fqK v p=10→o=0)∧(v=4→o≤2)∧(sharedB (ffS p.filters[x.l.length].text)=true→o / 4 % 2=0)∧(if fqK v p=10 then o=0 else if fqK v p=8∧v=5∧sharedB (ffS p.filters[x.l.length].text)=false then o=p.filters[x.l.length].opt % 3+4 * (p.filters[x.l.length].opt / 4 % 2)+8 * (p.filters[x.l.length].opt / 8 % 2)+16 * (p.filters[x.l.length].opt / 16 % 3) else o=p.filters[x.l.length].opt % 3):=by
    by_cases h1:fqK v p=10
    ·exact ⟨0,by decide,by decide,fun _=>rfl,fun _=>Nat.zero_le _,fun _=>rfl,by rw[if_pos h1]⟩
    ·by_cases h2:fqK v p=8∧v=5∧sharedB (ffS p.filters[x.l.length].text)=false
     ·exact ⟨p.filters[x.l.length].opt % 3+4 * (p.filters[x.l.length].opt / 4 % 2)+8 * (p.filters[x.l.length].opt / 8 % 2)+16 * (p.filters[x.l.length].opt / 16 % 3),by omega,by omega,fun h=>absurd h h1,fun h=>by omega,fun h=>by (rw[h2.2.2]at h;cases h),by rw[if_neg h1,if_pos h2]⟩
     ·exact ⟨p.filters[x.l.length].opt % 3,by omega,by omega,fun h=>absurd h h1,fun h=>by omega,fun h=>by omega,by rw[if_neg h1,if_neg h2]⟩
   obtain ⟨o,g1,g2,g3,g4,g5,g6⟩:=key;have n1:(x.l++[(⟨ffS p.filters[x.l.length].text,o⟩:Fi)]).length=x.l.length+1:=by simp
   have n2:FC (x.l++[(⟨ffS p.filters[x.l.length].text,o⟩:Fi)])=FC x.l++[.string (ffS p.filters[x.l.length].text),.int .u8 o]:=by rw[FC_append,FC_one];rfl
   have n3:∀ f∈x.l++[(⟨ffS p.filters[x.l.length].text,o⟩:Fi)],optD v (fqK v p) f=true∧f.opt < 256∧f.text.size≤40:=by
    intro f hf;rcases List.mem_append.1 hf with hf|hf
    ·exact z2 f hf
    ·rw[List.mem_singleton.1 hf]
     exact ⟨optD_mk f3 g1 g2 g3 g4 g5,by dsimp only;omega,f4⟩
   rw[← hqk]at g6
   by_cases k10:q.kind=10
   ·have k8:¬ q.kind=8:=by omega
    rw[if_pos k10]at g6;subst g6;refine go ?_;refine vA fun b13=>?_
    refine vgb fun fa' fc'=>?_
    refine go ?_;refine ved (ved ?_);rw[← n1];exact vj (FxL.mk (x.l++[⟨ffS p.filters[x.l.length].text,0⟩]) fa' fc') ⟨by dsimp only;rw[n1];omega,n3⟩ (hμ:=by dsimp only;rw[n1];omega) (hL:=by refine ⟨?_,rfl,rfl,rfl,rfl,trivial⟩;dsimp only;rw[n1];rfl) (hR:=by dsimp only;rw[n2];rfl)
   rw[if_neg k10]at g6
   by_cases kB:q.kind=8∧v=5∧sharedB (ffS p.filters[x.l.length].text)=false
   ·rw[if_pos kB]at g6
    obtain ⟨k8,k5,kS⟩:=kB;have kS':(!sharedB (ffS p.filters[x.l.length].text))=true:=by rw[kS];rfl
    subst g6;refine go ?_;refine vh [3] ?_
    repeat' first
     | refine go ?_
     | refine vqy 0 ?_
     | refine vqy 1 ?_
     | refine vqx 1 ?_ (h:=qh_q (qqu rfl rfl rfl (by omega) (by omega) (by omega)))
     | refine vqx 1 ?_ (h:=qh_q (qre rfl rfl (by omega) (by omega)))
     | refine vqx 1 ?_ (h:=qh_q (qmu rfl rfl rfl (by omega) (by omega)))
     | refine vqlm ?_
     | fail
    refine vA fun b13=>?_
    refine vgb fun fa' fc'=>?_
    refine go ?_;refine ved (ved ?_);rw[← n1];exact vj (FxL.mk (x.l++[⟨ffS p.filters[x.l.length].text,p.filters[x.l.length].opt % 3+4 * (p.filters[x.l.length].opt / 4 % 2)+8 * (p.filters[x.l.length].opt / 8 % 2)+16 * (p.filters[x.l.length].opt / 16 % 3)⟩]) fa' fc') ⟨by dsimp only;rw[n1];omega,n3⟩ (hμ:=by dsimp only;rw[n1];omega) (hL:=by refine ⟨?_,rfl,rfl,rfl,rfl,trivial⟩;dsimp only;rw[n1];rfl) (hR:=by dsimp only;rw[n2];rfl)
   ·rw[if_neg kB]at g6
    subst g6
    have k3:¬ q.kind=8∨(q.kind=8∧¬ v=5)∨(q.kind=8∧v=5∧(!sharedB (ffS p.filters[x.l.length].text))=false):=by
     by_cases h8:q.kind=8
     ·by_cases h5:v=5
      ·refine .inr (.inr ⟨h8,h5,?_⟩)
       cases hs:sharedB (ffS p.filters[x.l.length].text) with
       | true=>rfl
       | false=>exact absurd ⟨h8,h5,hs⟩ kB
      ·exact .inr (.inl ⟨h8,h5⟩)
     ·exact .inl h8
    rcases k3 with k8|⟨k8,k5⟩|⟨k8,k5,kS⟩
    all_goals
     refine go ?_;refine vA fun b13=>?_
     refine vgb fun fa' fc'=>?_
     refine go ?_;refine ved (ved ?_);rw[← n1];exact vj (FxL.mk (x.l++[⟨ffS p.filters[x.l.length].text,p.filters[x.l.length].opt % 3⟩]) fa' fc') ⟨by dsimp only;rw[n1];omega,n3⟩ (hμ:=by dsimp only;rw[n1];omega) (hL:=by refine ⟨?_,rfl,rfl,rfl,rfl,trivial⟩;dsimp only;rw[n1];rfl) (hR:=by dsimp only;rw[n2])
  ·rcases Nat.lt_or_ge x.l.length p.filters.length with i1|i1
   ·have i2:¬ x.l.length < 5:=fun q=>hi ⟨i1,q⟩
    refine go ?_;exact vj x ⟨z1,z2⟩
   ·refine go ?_
    exact vj x ⟨z1,z2⟩
 refine go ?_;refine vck (fun _:FxL × World=>fqV v b3 b4 b6) (fun x=>x.2) (fun x=>fqM b3 b4 b6 p { q with filters:=x.1.l,codes:=[] } s ⟨wa,wc,x.1.fa,x.1.fc,none,0,pa,pc⟩) (fun _=>[]) (fun x=>Le c1 x.2∧Row x.2 x.1.fa (FC x.1.l)∧1≤x.1.l.length∧x.1.l.length≤5∧∀ f∈x.1.l,optD v (fqK v p) f=true∧f.opt < 256∧f.text.size≤40) ?_ fun ⟨x,c2⟩ ⟨d1,d2,d3,d4,d5⟩=>?_
 ·refine vcf9 fun c2 l2 o2=>?_
  refine vc (fun h=>?_) fun h=>?_
  ·refine go ?_
   refine vA fun b7=>?_
   refine vlfb fun c3 l3 r3=>?_
   refine go ?_;exact vj (FxL.mk [⟨⟨#[97,47,43]⟩,0⟩] (some ⟨b7,0,none⟩) 1,c3) ⟨l2.trans l3,r3,(show (1:Nat)≤1 from by decide),(show (1:Nat)≤5 from by decide),by intro f hf;rw[List.mem_singleton.1 hf];exact ⟨optD_mk (by decide +kernel) (by decide) (by decide) (fun _=>rfl) (fun _=>by decide) (fun _=>by decide),by decide,by decide⟩⟩
  ·refine go ?_
   exact vj (y,c2) ⟨l2,o2.row,(show 1≤y.l.length by have:¬ (y.l.length:Int)=0:=h;omega),y1,y2⟩
 have hc2:=x1.trans d1;have hcd':(fqK v p=9∨(fqK v p=11∧v=5))↔(q.kind=9∨(q.kind=11∧v=5)):=by rw[hqk]
 dsimp only;refine gob ?_;refine CG.nilr 5 1 ?_;refine vck (fun _:FoX=>fqV v b3 b4 b6) (fun _=>c2) (fun y=>fqM b3 b4 b6 p { q with filters:=x.l,codes:=y.l } s ⟨wa,wc,x.fa,x.fc,y.a,y.cp,pa,pc⟩) (fun y=>[byR y.a y.cp y.l]) (fun y=>y.l.length≤5∧(∀ c∈y.l,ke v (fqK v p) c.toNat=true)∧(¬ (fqK v p=9∨(fqK v p=11∧v=5))→y.l=[])) ?_ fun y ⟨m1,m2,m3⟩=>?_
 ·refine go ?_
  refine vlo (fun y:FoX=>(16,.int .i64 y.l.length) :: fqV v b3 b4 b6) (fun _=>c2) (fun y=>fqM b3 b4 b6 p { q with filters:=x.l,codes:=y.l } s ⟨wa,wc,x.fa,x.fc,y.a,y.cp,pa,pc⟩) (fun y=>[byR y.a y.cp y.l]) (fun y=>y.l.length≤5∧(∀ c∈y.l,ke v (fqK v p) c.toNat=true)∧(¬ (fqK v p=9∨(fqK v p=11∧v=5))→y.l=[])) (fun y=>5 - y.l.length) ⟨none,0,[]⟩ ⟨Nat.zero_le _,by simp,fun _=>rfl⟩ fun y ⟨m1,m2,m3⟩=>?_
  by_cases hi:(y.l.length < p.codes.length∧y.l.length < 5)∧(q.kind=9∨(q.kind=11∧v=5))
  ·obtain ⟨⟨i1,i2⟩,i3⟩:=hi
   obtain ⟨b5,o5,hRt⟩:=(hp.hc.le hc2).by8 i1;have a6:=ck_f3 (c:=c2) (v:=v) (k:=q.kind) (n:=p.codes[y.l.length].toNat) (UInt8.toNat_lt _);have hb:=rfx_lt v q.kind p.codes[y.l.length].toNat
   have hY9:∀ c∈y.l++[UInt8.ofNat (rfx v q.kind p.codes[y.l.length].toNat)],ke v (fqK v p) c.toNat=true:=by
    intro c hc;rcases List.mem_append.1 hc with hc|hc
    ·exact m2 c hc
    ·rw[List.mem_singleton.1 hc,UInt8.toNat_ofNat_of_lt' hb,hqk]
     exact rfx_known (codes_9 hv (hcd'.2 i3))
   have n1:(y.l++[UInt8.ofNat (rfx v q.kind p.codes[y.l.length].toNat)]).length=y.l.length+1:=by simp
   have n2:B8 (y.l++[UInt8.ofNat (rfx v q.kind p.codes[y.l.length].toNat)])=B8 y.l++[.int .u8 (rfx v q.kind p.codes[y.l.length].toNat:Nat)]:=by
    rw[B8_append];unfold B8;simp only[List.map_cons,List.map_nil,UInt8.toNat_ofNat_of_lt' hb]
   rcases i3 with k9|⟨k9,k5⟩
   case' inr=>have kn:¬ q.kind=9:=by omega
   all_goals
    refine go ?_;refine vcn (fun _:FoX=>(16,.int .i64 y.l.length) :: fqV v b3 b4 b6) (fun _=>c2) (fun z=>fqM b3 b4 b6 p { q with filters:=x.l,codes:=z.l } s ⟨wa,wc,x.fa,x.fc,z.a,z.cp,pa,pc⟩) (fun z=>[byR z.a z.cp z.l]) (fun z=>z.l=y.l++[UInt8.ofNat (rfx v q.kind p.codes[y.l.length].toNat)]) ?_ fun z hz=>?_
    ·refine vh [2] ?_
     repeat' first
      | refine go ?_
      | refine vqy 0 ?_
      | refine vqy 1 ?_
      | refine vqy 2 ?_
      | refine vqp2 ?_ ?_
      | refine vilm ?_
      | refine vikk a6 ?_
      | refine viA fun b7=>?_
      | refine vqlm ?_
      | refine vqA fun b7=>?_
      | refine vqgb fun a' cp'=>?_
      | fail
     all_goals
      refine ved ?_;rw[← n1];exact vj (FoX.mk a' cp' (y.l++[UInt8.ofNat (rfx v q.kind p.codes[y.l.length].toNat)])) rfl (hR:=congrArg (fun u=>[(⟨5,1,.slice a' (y.l++[UInt8.ofNat (rfx v q.kind p.codes[y.l.length].toNat)]).length cp',(y.l++[UInt8.ofNat (rfx v q.kind p.codes[y.l.length].toNat)]).length,u⟩:Rwv)]) n2.symm)
    ·refine go ?_
     exact vj z ⟨by rw[hz];simp;omega,by rw[hz];exact hY9,fun h=>absurd (hcd'.2 (by omega)) h⟩ (hμ:=by rw[hz];simp;omega) (hL:=by refine ⟨?_,rfl,rfl,rfl,rfl,trivial⟩;rw[hz,n1];rfl)
  ·have hn:(y.l.length < p.codes.length→y.l.length < 5→¬ (q.kind=9∨(q.kind=11∧v=5))):=fun a b h=>hi ⟨⟨a,b⟩,h⟩
   rcases Nat.lt_or_ge y.l.length p.codes.length with i1|i1
   ·rcases Nat.lt_or_ge y.l.length 5 with i2|i2
    ·have k9:¬ q.kind=9:=fun h=>hn i1 i2 (.inl h)
     by_cases k11:q.kind=11
     ·have k5:¬ v=5:=fun h=>hn i1 i2 (.inr ⟨k11,h⟩)
      refine go ?_;exact vj y ⟨m1,m2,m3⟩
     ·refine go ?_
      exact vj y ⟨m1,m2,m3⟩
    ·have i3:¬ y.l.length < 5:=by omega
     refine go ?_;exact vj y ⟨m1,m2,m3⟩
   ·refine go ?_
    exact vj y ⟨m1,m2,m3⟩
 try refine gon9 ?_
 refine vck (fun _:Unit=>(335,.bool (decide (y.l.length=0∧(q.kind=9∨(q.kind=11∧v=5))))) :: fqV v b3 b4 b6) (fun _=>c2) (fun _=>fqM b3 b4 b6 p { q with filters:=x.l,codes:=y.l } s ⟨wa,wc,x.fa,x.fc,y.a,y.cp,pa,pc⟩) (fun _=>[byR y.a y.cp y.l]) (fun _=>True) ?_ fun _ _=>?_
 ·by_cases h0:y.l.length=0
  ·have h0':(y.l.length:Int)=0:=by omega
   by_cases k9:q.kind=9
   ·rw[decide_eq_true ⟨h0,.inl k9⟩]
    refine go ?_;exact vj () trivial
   ·by_cases k11:q.kind=11
    ·have e:decide (y.l.length=0∧(q.kind=9∨(q.kind=11∧v=5)))=decide (v=5):=decide_eq_decide.2 ⟨fun h=>by omega,fun h=>⟨h0,.inr ⟨k11,h⟩⟩⟩
     rw[e];refine go ?_;exact vj () trivial
    ·rw[decide_eq_false (fun h=>by omega)]
     refine go ?_;exact vj () trivial
  ·have h0':¬ (y.l.length:Int)=0:=by omega
   rw[decide_eq_false (fun h=>h0 h.1)];refine go ?_;exact vj () trivial
 refine vcf9 fun c3 l3 o3=>?_
 refine vck (fun _:FoX × World=>fqV v b3 b4 b6) (fun z=>z.2) (fun z=>fqM b3 b4 b6 p { q with filters:=x.l,codes:=z.1.l } s ⟨wa,wc,x.fa,x.fc,z.1.a,z.1.cp,pa,pc⟩) (fun _=>[]) (fun z=>Le c2 z.2∧Row z.2 z.1.a (B8 z.1.l)∧(z.1.a=none→z.1.cp=0)∧z.1.l.length≤5∧((q.kind=9∨(q.kind=11∧v=5))→1≤z.1.l.length∧∀ c∈z.1.l,ke v (fqK v p) c.toNat=true)∧(¬ (q.kind=9∨(q.kind=11∧v=5))→z.1.l=[])) ?_ fun ⟨z,c4⟩ ⟨e1,e2,e3,e4,e5,e6⟩=>?_
 ·refine vc (fun h=>?_) fun h=>?_
  ·obtain ⟨h0,h1⟩:=h
   refine go ?_;refine vA fun b7=>?_
   refine vlfb fun c4 l4 r4=>?_
   refine go ?_;exact vj (FoX.mk (some ⟨b7,0,none⟩) 1 [0],c4) ⟨l3.trans l4,r4,(fun h=>by cases h),(show (1:Nat)≤5 from by decide),fun _=>⟨(show (1:Nat)≤1 from by decide),fun c hc=>by rw[List.mem_singleton.1 hc];exact ke_zero hv (hcd'.2 h1)⟩,fun h=>absurd h1 h⟩
  ·have hl1:(q.kind=9∨(q.kind=11∧v=5))→1≤y.l.length:=fun h9=>by
    rcases Nat.eq_zero_or_pos y.l.length with h0|h0
    ·exact absurd ⟨h0,h9⟩ h
    ·exact h0
   refine go ?_;exact vj (FoX.mk y.a y.cp y.l,c3) ⟨l3,o3.row,o3.nil,m1,fun h9=>⟨hl1 h9,m2⟩,fun h9=>m3 (fun h=>h9 (hcd'.1 h))⟩
 dsimp only at e1 e2 e3 e4 e5 e6 ⊢;have bq:=ck_Bare (c:=c4) { q with filters:=x.l,codes:=z.l } ⟨wa,wc,x.fa,x.fc,z.a,z.cp,pa,pc⟩;refine go ?_
 have hQ:FixQ v { q with filters:=x.l,codes:=z.l }:=by
  rw[← hqq];exact fixQ_of hv hY x2 d3 d4 d5 e4 (fun h=>e5 (hcd'.1 h)) (fun h=>e6 (fun h9=>h (hcd'.2 h9)))
 have qw:q.willProps=L2:=by rw[← hqq]
 have qp:q.props=L1:=by rw[← hqq]
 rw[← qw]at x4;rw[← qp]at x3;have hAt:({ q with filters:=x.l,codes:=z.l }:Pk).At ⟨wa,wc,x.fa,x.fc,z.a,z.cp,pa,pc⟩ c4:=⟨x4.le (d1.trans e1),d2.le e1,e2,x3.le (d1.trans e1)⟩
 exact ved (vrn ((bareP { q with filters:=x.l,codes:=z.l },ownSl { q with filters:=x.l,codes:=z.l } ⟨wa,wc,x.fa,x.fc,z.a,z.cp,pa,pc⟩),c4) ⟨hc2.trans e1,ownSl_at hAt,fun h=>(ownSl_cn (p:={ q with filters:=x.l,codes:=z.l }) (row_none e2 e3) h).2,_,rfl,hQ⟩)
end
end Go.Proofs.YtohmcfmcbibbcaaGreatDoor
