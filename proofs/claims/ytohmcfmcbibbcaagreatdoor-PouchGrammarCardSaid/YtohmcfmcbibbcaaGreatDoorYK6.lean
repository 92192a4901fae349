import Derived.Test.YtohmcfmcbibbcaaGreatDoorYI5
import Derived.Test.YtohmcfmcbibbcaaGreatDoorYJ8
import Derived.Test.YtohmcfmcbibbcaaGreatDoorYI3
namespace Go.Proofs.YtohmcfmcbibbcaaGreatDoor
open Go.RowKit
set_option linter.unusedVariables false
set_option linter.unusedSimpArgs false
set_option maxRecDepth 100000
set_option maxHeartbeats 8000000
theorem gor {G G':Prop} (k:G') (h:Nx G'→G:=by
  intro k9
  repeat1' (first
   | refine vz ?_
   | refine vf ?_
   | refine vl ?_
   | refine vn ?_
   | refine vla ?_
   | refine vno ?_
   | refine vs ?_
   | refine vct ?_
   | refine vcf ?_
   | refine vk ?_
   | refine ves ?_
   | refine vb ?_
   | refine vx ?_
   | refine vre ?_
   | refine ver ?_
   | refine vex ?_
   | refine vebr ?_
   | refine vebx ?_
   | refine veby ?_
   | refine veb ?_
   | refine vjr ?_
   | refine vjx ?_
   | refine vkz ?_
   | refine vbe ?_
   | refine vbn ?_
   | refine vfp ?_
   | refine vno0 ?_
   | refine vln ?_
   | refine vls ?_
   | refine vad ?_
   | refine vsu ?_
   | refine vt0 ?_
   | refine vt1 ?_
   | refine vt2 ?_
   | refine vlp ?_
   | refine vbu ?_
   | refine vcT ?_
   | refine vcF ?_
   | refine vgT ?_
   | refine vgF ?_
   | refine venr ?_
   | refine vqz ?_
   | refine vqf ?_
   | refine vql ?_
   | refine vqla ?_
   | refine vqln ?_
   | refine vqls ?_
   | refine vqad ?_
   | refine vqno ?_
   | refine vqt0 ?_
   | refine vqt1 ?_
   | refine vqt2 ?_
   | refine vq ?_
   | refine vqq ?_
   | refine vqkz ?_
   | refine vix ?_
   | refine vqix ?_
   | refine vlr ?_
   | refine vlr1 ?_
   | refine vlrf ?_
   | refine vqn ?_)
  exact k9.h):G:=h ⟨k⟩
theorem CG.me {P:Program} {Q:Kn} {x:Code} {N:Nat} {L:List (Nat × Value)} {c:World} {M M':List Bl} {R:List Rwv} (e:M=M') (k:CG P Q x N L c M' R):CG P Q x N L c M R:=e▸k
theorem bitsI (f:Nat) (h:f < 256):(decide ((f:Int) / 2 % 2=1) = !decide (f &&& 2=0))∧(decide ((f:Int) / 4 % 2=1) = !decide (f &&& 4=0))∧((f:Int) / 8 % 4=((f / 8 &&& 3:Nat):Int))∧(decide ((f:Int) / 32 % 2=1) = !decide (f &&& 32=0))∧(decide ((f:Int) / 64 % 2=1) = !decide (f &&& 64=0))∧(decide ((f:Int) / 128 % 2=1) = !decide (f &&& 128=0)):=by
 obtain ⟨f1,f2,f3,f4,f5,f6⟩:=bits9 f h;refine ⟨?_,?_,?_,?_,?_,?_⟩
 ·rw[← f1,decide_eq_decide];omega
 ·rw[← f2,decide_eq_decide];omega
 ·rw[← f3];omega
 ·rw[← f4,decide_eq_decide];omega
 ·rw[← f5,decide_eq_decide];omega
 ·rw[← f6,decide_eq_decide];omega
def conC (v:Int) (s:Ts):Pk:={ zk 1 with clean:=!decide ((s.rdB.rd 1).num 1 &&& 2=0),keep:=((s.rdB.rd 1).rd 1).num 2,hasWill:=!decide ((s.rdB.rd 1).num 1 &&& 4=0),hasUser:=!decide ((s.rdB.rd 1).num 1 &&& 128=0),hasPass:=!decide ((s.rdB.rd 1).num 1 &&& 64=0),willQoS:=(s.rdB.rd 1).num 1 / 8 &&& 3,willRetain:=!decide ((s.rdB.rd 1).num 1 &&& 32=0) }
section
variable {c:World} {t r q at_:Nat} {v:Int} {B:ByteArray} {s:Ts}
theorem dp_connect (h:RrK B at_ s.l s.e) (hl:s.l.length≤100000):Dp 105 [] c t r q v B at_ s (zk 1) sl0 (connD v s):=by
 have n1:=num_le 1 (binL s.l s.e) (binE s.l s.e) 1 (by omega);have n2:Go.Proofs.YtohmcfmcbibbcaaGreatDoor.num (taken 1 (leftL 1 (binL s.l s.e) (binE s.l s.e)) (leftE 1 (binL s.l s.e) (binE s.l s.e))) < 256:=n1_lt (s.rdB.rd 1);have n3:Go.Proofs.YtohmcfmcbibbcaaGreatDoor.num (taken 2 (leftL 1 (leftL 1 (binL s.l s.e) (binE s.l s.e)) (leftE 1 (binL s.l s.e) (binE s.l s.e))) (leftE 1 (leftL 1 (binL s.l s.e) (binE s.l s.e)) (leftE 1 (binL s.l s.e) (binE s.l s.e)))) < 65536:=num2_lt ((s.rdB.rd 1).rd 1);rw[connD_eq];refine Tr.in Tryz.func105 ?_;refine go ?_;refine vt1b (rr_bin h) fun x1 g1=>?_
 refine go ?_;refine vt1b (rr_num 1 (by decide) (by decide) g1) fun x2 g2=>?_
 refine vq ?_;refine go ?_;refine vt1b (rr_num 1 (by decide) (by decide) g2) fun x3 g3=>?_
 refine vq ?_;refine go ?_;refine vt1b (rr_num 2 (by decide) (by decide) g3) fun x4 g4=>?_
 refine vq ?_;refine gor ?_;refine vrg ?_
 repeat' first|refine vq ?_|refine gor ?_|fail
 have ef:Go.Proofs.YtohmcfmcbibbcaaGreatDoor.num (taken 1 (leftL 1 (binL s.l s.e) (binE s.l s.e)) (leftE 1 (binL s.l s.e) (binE s.l s.e)))=(s.rdB.rd 1).num 1:=rfl;rw[ef]at n2 ⊢;obtain ⟨k1,k2,k3,k4,k5,k6⟩:=bitsI _ n2;rw[k1,k2,k3,k4,k5,k6];refine CG.me (M':=[dtB t r v s.b,rrB r B x4 (conS v s).e,pdB q (conC v s) sl0]) rfl ?_;refine vck (fun _=>[(0,pt t),(1,pt q)]) (fun _=>c) (fun _:Unit=>[dtB t r v (conS v s).b,rrB r B x4 (conS v s).e,pdB q (conC v s) sl0]) (fun _=>[]) (fun _=>True) ?_ fun _ _=>?_
 ·cases hb:s.b with
  | true =>
   refine go ?_;exact vj () trivial (hM:=congrArg (fun b=>[dtB t r v b,rrB r B x4 (conS v s).e,pdB q (conC v s) sl0]) (show true=conB v s by simp[conB,hb]))
  | false =>
   repeat' first|refine go ?_|refine vq ?_|refine vg (fun _=>?_) fun _=>?_|fail
   all_goals refine vj () trivial (hM:=congrArg (fun b=>[dtB t r v b,rrB r B x4 (conS v s).e,pdB q (conC v s) sl0]) (?_:_=conB v s))
   all_goals unfold conB
   all_goals have e1:(⟨(binTaken s.l s.e).toArray⟩:ByteArray)=s.bin:=rfl
   all_goals have e2:mqtt=⟨#[77,81,84,84]⟩:=rfl
   all_goals have e3:Go.Proofs.YtohmcfmcbibbcaaGreatDoor.num (taken 1 (binL s.l s.e) (binE s.l s.e))=s.rdB.num 1:=rfl
   all_goals have e4:(conC v s).hasWill = !decide ((s.rdB.rd 1).num 1 &&& 4=0):=rfl
   all_goals simp only[e1,e3,e4,← e2]at *
   all_goals clear g1 g2 g3 g4 k1 k2 k3 k4 k5 k6 n1 n3 h ef
   all_goals generalize s.rdB.num 1=w at *
   all_goals generalize (s.rdB.rd 1).num 1=f at *
   all_goals grind
 ·have m0:(conS v s).l.length≤100000:=Nat.le_trans (rd_len 2 ((s.rdB.rd 1).rd 1)) (Nat.le_trans (rd_len 1 (s.rdB.rd 1)) (Nat.le_trans (rd_len 1 s.rdB) (Nat.le_trans (rdB_len s) hl)))
  have m1:=rdS_len v (conS v s);have m2:=rdT_len ((conS v s).rdS v);refine go ?_;refine vt20 (tr_dsec (s:=conS v s) (v:=v) g4 m0) fun x5 h5=>?_
  refine go ?_;refine vt20 (tr_dtext (s:=(conS v s).rdS v) h5.2.1) fun x6 h6=>?_
  refine go ?_;refine CG.me (M':=[dtB t r v ((conS v s).rdS v).rdT.b,rrB r B x6 ((conS v s).rdS v).rdT.e,pdB q (conP v s) { sl0 with pa:=x5.b,pc:=x5.bp }]) rfl ?_;have hw:(conC v s).hasWill = !decide ((s.rdB.rd 1).num 1 &&& 4=0):=rfl;have hA:(conP v s).At { sl0 with pa:=x5.b,pc:=x5.bp } x5.c:=⟨.nil _ _,.nil _ _,.nil _ _,h5.2.2.1⟩
  have hN:∀ n,Le n c→Pn n (conP v s) { sl0 with pa:=x5.b,pc:=x5.bp }:=fun n k=>⟨.nil _ _,.nil _ _,.nil _ _,h5.2.2.2.2.le k⟩
  generalize conP v s=p0 at *;generalize ((conS v s).rdS v).rdT=s0 at *;generalize (s.rdB.rd 1).num 1=f at *;clear k1 k2 k3 k4 k5 k6 n1 n2 n3 g1 g2 g3 g4 ef;refine vck (fun _=>[(0,pt t),(1,pt q)]) (fun x:DpX=>x.c) (fun x=>[dtB t r v (willD v f p0 s0).2.b,rrB r B x.i (willD v f p0 s0).2.e,pdB q (willD v f p0 s0).1 x.sl]) (fun _=>[]) (fun x=>Le c x.c∧RrK B x.i (willD v f p0 s0).2.l (willD v f p0 s0).2.e∧(willD v f p0 s0).1.At x.sl x.c∧(x.sl.ca=none→x.sl.cc=0)∧∀ n,Le n c→Pn n (willD v f p0 s0).1 x.sl) ?_ fun x7 h7=>?_
  ·rcases Classical.em ((!decide (f &&& 4=0))=true) with hb|hb
   ·have e:willD v f p0 s0=({ p0 with willProps:=s0.sec v,willTopic:=(s0.rdS v).bin,willLoad:=(s0.rdS v).rdT.bin },(s0.rdS v).rdT.rdB):=if_pos hb
    rw[e];rw[hb]at hw;refine vcT ?_ (hp:=hw)
    refine go ?_;refine vt20 (tr_dsec (s:=s0) (v:=v) h6 (by omega)) fun x8 h8=>?_
    refine go ?_;refine vt20 (tr_dtext (s:=s0.rdS v) h8.2.1) fun x9 h9=>?_
    refine go ?_;refine vt1b (rr_bin (l:=(s0.rdS v).rdT.l) (e:=(s0.rdS v).rdT.e) h9) fun x10 h10=>?_
    refine go ?_;have hA2:=hA.le h8.1;exact vj (DpX.mk x10 { sl0 with pa:=x5.b,pc:=x5.bp,wa:=x8.b,wc:=x8.bp } x8.c) ⟨h5.1.trans h8.1,h10,⟨h8.2.2.1,hA2.hf,hA2.hc,hA2.hp⟩,fun _=>rfl,fun n k=>⟨h8.2.2.2.2.le (k.trans h5.1),(hN n k).f,(hN n k).c,(hN n k).p⟩⟩
   ·have e:willD v f p0 s0=(p0,s0):=if_neg hb
    rw[e];rw[Bool.eq_false_iff.2 hb]at hw;refine vcF ?_ (hp:=hw)
    refine go ?_;exact vj (DpX.mk x6 { sl0 with pa:=x5.b,pc:=x5.bp } x5.c) ⟨h5.1,h6,hA,fun _=>rfl,hN⟩
  ·generalize willD v f p0 s0=W at *
   obtain ⟨pw,sw⟩:=W;dsimp only at h7 ⊢;obtain ⟨a1,a2,a3,a4,a5⟩:=h7;refine go ?_;rcases Classical.em (pw.hasUser=true) with hu|hu
   ·have e:userD pw sw=({ pw with user:=sw.bin },sw.rdT):=if_pos hu
    rw[e];refine vcT ?_ (hp:=hu)
    refine go ?_;refine vt20 (tr_dtext (s:=sw) a2) fun x8 h8=>?_
    refine go ?_;rcases Classical.em (pw.hasPass=true) with hp|hp
    ·have e:passD { pw with user:=sw.bin } sw.rdT=({ pw with user:=sw.bin,pass:=sw.rdT.bin },sw.rdT.rdB):=if_pos hp
     rw[e];refine vcT ?_ (hp:=hp)
     refine go ?_;refine vt1b (rr_bin h8) fun x9 h9=>?_
     refine go ?_;exact vrt0 (DpX.mk x9 x7.sl x7.c) ⟨a1,h9,⟨a3.hw,a3.hf,a3.hc,a3.hp⟩,a4,fun n k _=>⟨(a5 n k).w,(a5 n k).f,(a5 n k).c,(a5 n k).p⟩⟩
    ·have e:passD { pw with user:=sw.bin } sw.rdT=({ pw with user:=sw.bin },sw.rdT):=if_neg hp
     rw[e];refine vcF ?_ (hp:=Bool.eq_false_iff.2 hp)
     refine go ?_;exact vrt0 (DpX.mk x8 x7.sl x7.c) ⟨a1,h8,⟨a3.hw,a3.hf,a3.hc,a3.hp⟩,a4,fun n k _=>⟨(a5 n k).w,(a5 n k).f,(a5 n k).c,(a5 n k).p⟩⟩
   ·have e:userD pw sw=(pw,sw):=if_neg hu
    rw[e];refine vcF ?_ (hp:=Bool.eq_false_iff.2 hu)
    refine go ?_;rcases Classical.em (pw.hasPass=true) with hp|hp
    ·have e:passD pw sw=({ pw with pass:=sw.bin },sw.rdB):=if_pos hp
     rw[e];refine vcT ?_ (hp:=hp)
     refine go ?_;refine vt1b (rr_bin a2) fun x9 h9=>?_
     refine go ?_;exact vrt0 (DpX.mk x9 x7.sl x7.c) ⟨a1,h9,⟨a3.hw,a3.hf,a3.hc,a3.hp⟩,a4,fun n k _=>⟨(a5 n k).w,(a5 n k).f,(a5 n k).c,(a5 n k).p⟩⟩
    ·have e:passD pw sw=(pw,sw):=if_neg hp
     rw[e];refine vcF ?_ (hp:=Bool.eq_false_iff.2 hp)
     refine go ?_;exact vrt0 (DpX.mk x7.i x7.sl x7.c) ⟨a1,a2,a3,a4,fun n k _=>a5 n k⟩
end
section
variable {c:World} {t r q at_:Nat} {v:Int} {B:ByteArray} {s:Ts}
theorem ck_FlagsK (k:Int) (h:k≠3):Ck Tryz.prog 42 [(zk k).val sl0] c (.int .i64 (flagsN (zk k))):=by
 have hz:(zk k).kind=k:=rfl;rw[flags_zk];refine Ck.in Tryz.func42 ?_
 repeat' first|refine go ?_|refine vA fun b=>?_|refine vc (fun _=>?_) fun _=>?_|refine vri ?_|fail
 all_goals first|(rename_i hh;exact absurd hh h)|grind
theorem CG.perm {P:Program} {Q:Kn} {x:Code} {N:Nat} {L:List (Nat × Value)} {c:World} {M M':List Bl} {R:List Rwv} (k:CG P Q x N L c M' R) (h:M.Perm M'):CG P Q x N L c M R:=⟨fun κ a w F S=>k.h κ a w F (S.perm h)⟩
structure FlR where
 i:Nat
 fa:Option Addr
 fp:Nat
 acc:List Fi
 n:Nat
 S:Ts
structure FmX where
 i:Nat
 p:Pk
 sl:Sl
 c:World
theorem tn_rForm (hT:Tabs c) {n:Nat} {a:Option Addr} {l:List UInt8} (hr:Row c a (B8 l)) (hn:a=none→n=0) (hl:l.length≤n) (h5:l.length≤100000):Tn Tryz.prog 50 [.int .i64 v,.slice a l.length n] c (fun x:Sl=>.tuple #[(formP v l).val x,.bool (formOk v l)]) (fun x c'=>(formP v l).At x c'∧(x.ca=none→x.cc=0)∧Pn c (formP v l) x):=by
  have c1:=ck_rHead hr hn (by omega);have f1:=hd_flags l;have f2:=hd_head l;have f3:=hd_rest l;have f4:=hd_kind l;have eH:=headOk_eq v (headB l) f4;refine Tn.in Tryz.func50 ?_;refine go ?_;refine vA fun b4=>?_
  refine go ?_;refine vA fun b6=>?_
  refine gor ?_
  by_cases hv:v=4∨v=5
  case neg =>
    have e:formOk v l=false:=by simp[formOk,eH,hv]
    rw[e,formP_no e];refine go ?_;exact vrn2 (sl0,c) ⟨Le.refl c,at0 0 c,fun _=>rfl,.zk _ _ _⟩
  by_cases h1:headE l=0
  case neg =>
    have e:formOk v l=false:=by simp[formOk,h1]
    rw[e,formP_no e];rcases hv with rfl|rfl
    all_goals
      refine go ?_;exact vrn2 (sl0,c) ⟨Le.refl c,at0 0 c,fun _=>rfl,.zk _ _ _⟩
  by_cases h2:(l.length:Int)=(headB l).head+(headB l).rest
  case neg =>
    have e:formOk v l=false:=by simp[formOk,h2]
    rw[e,formP_no e];rcases hv with rfl|rfl
    all_goals
      refine go ?_;exact vrn2 (sl0,c) ⟨Le.refl c,at0 0 c,fun _=>rfl,.zk _ _ _⟩
  by_cases h3:(headB l).kind < 1
  case pos =>
    have e:formOk v l=false:=by simp[formOk,eH];grind
    rw[e,formP_no e];rcases hv with rfl|rfl
    all_goals
      refine go ?_;exact vrn2 (sl0,c) ⟨Le.refl c,at0 0 c,fun _=>rfl,.zk _ _ _⟩
  by_cases h4:v=4∧(headB l).kind=15
  case pos =>
    have e:formOk v l=false:=by unfold formOk;rw[eH,show decide ((v=4∨v=5)∧1≤(headB l).kind∧¬(v=4∧(headB l).kind=15)∧((headB l).kind=3∨(headB l).flags=flagsN (zk (headB l).kind)))=false from decide_eq_false fun q=>q.2.2.1 h4];simp
    rw[e,formP_no e];obtain ⟨rfl,h4⟩:=h4;refine go ?_;exact vrn2 (sl0,c) ⟨Le.refl c,at0 0 c,fun _=>rfl,.zk _ _ _⟩
  refine vck (fun _=>[(0,.int .i64 v),(1,.slice a l.length n),(4,pt b4),(6,pt b6),(50,.bool false)]) (fun _=>c) (fun _:Unit=>[⟨b6,116,[.int .i64 (headB l).kind,.int .u8 (headB l).flags,.int .i64 (headB l).head,.int .i64 (headB l).rest]⟩,⟨b4,39,(zk 0).li sl0⟩]) (fun _=>[]) (fun _=>True) ?_ fun _ _=>?_
  · have h6:¬ (headB l).kind < 1:=h3
    rcases hv with rfl|rfl
    · have h7:¬ (headB l).kind=15:=fun q=>h4 ⟨rfl,q⟩
      refine go ?_;rw[decide_eq_false h7];exact vj () trivial
    · refine go ?_
      exact vj () trivial
  have c2:=ck_FlagsK (c:=c) (headB l).kind;have eS:formS v l=fieldsK v (headB l).kind (headB l).flags ⟨l.drop (headB l).head.toNat,0,false⟩:=rfl;have nF:(headB l).kind≠3∧(headB l).flags≠flagsN (zk (headB l).kind)→formOk v l=false:=fun h=>by simp[formOk,eH];grind
  have yF:¬ ((headB l).kind≠3∧(headB l).flags≠flagsN (zk (headB l).kind))→formOk v l=((formS v l).2.ok&&decide ((formS v l).2.l.length=0)):=fun h=>by simp[formOk,eH,h1,h2];grind
  generalize headB l=H at *;obtain ⟨k,f,hd,m⟩:=H;dsimp only at *;refine go ?_;refine vA fun b8=>?_
  refine gor ?_
  by_cases h6:k≠3∧f≠flagsN (zk k)
  · rw[nF h6,formP_no (nF h6)]
    have c3:=c2 h6.1;obtain ⟨h6,h7⟩:=h6;have h8:¬ (f:Int)=(flagsN (zk k):Int):=by omega
    refine vh [0,1,2] ?_
    repeat' first|refine go ?_|refine vqgT ?_|refine vqgF ?_|refine vq ?_|refine vqx 0 ?_|fail
    exact vrn2 (sl0,c) ⟨Le.refl c,at0 0 c,fun _=>rfl,.zk _ _ _⟩
  rw[yF h6];refine vck (fun _=>[(0,.int .i64 v),(1,.slice a l.length n),(4,pt b4),(6,pt b6),(8,pt b8),(65,.bool false)]) (fun _=>c) (fun _:Unit=>[pdB b8 (zk k) sl0,⟨b6,116,[.int .i64 k,.int .u8 f,.int .i64 hd,.int .i64 m]⟩,⟨b4,39,(zk 0).li sl0⟩]) (fun _=>[]) (fun _=>True) ?_ fun _ _=>?_
  · by_cases h7:k=3
    · refine vh [0,1,2] ?_
      repeat' first|refine go ?_|refine vqgT ?_|refine vqgF ?_|refine vq ?_|refine vqx 0 ?_|fail
      exact vj () trivial
    · have c3:=c2 h7
      have h8:f=flagsN (zk k):=Classical.byContradiction fun q=>h6 ⟨h7,q⟩
      have h9:(f:Int)=(flagsN (zk k):Int):=by omega
      refine vh [0,1,2] ?_
      repeat' first|refine go ?_|refine vqgT ?_|refine vqgF ?_|refine vq ?_|refine vqx 0 ?_|fail
      rw[decide_eq_true h9];exact vj () trivial
  have t1:(l.drop hd.toNat).take (l.length - hd.toNat)=l.drop hd.toNat:=List.take_of_length_le (by rw[List.length_drop];omega);have t2:l.length - hd.toNat=(l.drop hd.toNat).length:=by rw[List.length_drop]
  refine go ?_;refine vslf fun a' g1 g2=>?_
  rw[t1]at g1;rw[t2];refine vq ?_;refine go ?_;refine vA fun b9=>?_
  refine go ?_;refine vA fun b10=>?_
  refine gob ?_;have R0:RrK ⟨(l.drop hd.toNat).toArray⟩ 0 (l.drop hd.toNat) 0:=⟨Nat.zero_le _,by show (l.drop hd.toNat).toArray.size≤_;rw[List.size_toArray,List.length_drop];omega,fun _=>by simp,fun h=>absurd rfl h⟩
  have l0:(l.drop hd.toNat).length≤100000:=by rw[List.length_drop];omega
  rw[eS];have nP:((fieldsK v k f ⟨l.drop hd.toNat,0,false⟩).2.ok&&decide ((fieldsK v k f ⟨l.drop hd.toNat,0,false⟩).2.l.length=0))=false→formP v l=zk 0:=fun q=>formP_no (by rw[yF h6,eS];exact q)
  have yP:((fieldsK v k f ⟨l.drop hd.toNat,0,false⟩).2.ok&&decide ((fieldsK v k f ⟨l.drop hd.toNat,0,false⟩).2.l.length=0))=true→formP v l=(fieldsK v k f ⟨l.drop hd.toNat,0,false⟩).1:=fun q=>(if_pos (by rw[yF h6,eS];exact q)).trans (by rw[eS])
  clear yF nF c1 c2 eH h6 t1 t2 g1 g2;generalize l.drop hd.toNat=l' at *;generalize hsd:(⟨l',0,false⟩:Ts)=s at *;have s1:s.l=l':=by rw[← hsd]
  have s2:s.e=0:=by rw[← hsd]
  have s3:s.b=false:=by rw[← hsd]
  have R1:RrK ⟨l'.toArray⟩ 0 s.l s.e:=by rw[s1,s2];exact R0
  have l1:s.l.length≤100000:=by rw[s1];exact l0
  refine CG.me (M':=[dtB b10 b9 v s.b,rrB b9 ⟨l'.toArray⟩ 0 s.e,pdB b8 (zk k) sl0,⟨b6,116,[.int .i64 k,.int .u8 f,.int .i64 hd,.int .i64 m]⟩,⟨b4,39,(zk 0).li sl0⟩]) (by rw[s2,s3];rfl) ?_;generalize (⟨l'.toArray⟩:ByteArray)=B at *;clear R0 l0 hsd eS;refine vck (fun _=>[(4,pt b4),(6,pt b6),(8,pt b8),(9,pt b10)]) (fun x:FmX=>x.c) (fun x=>[dtB b10 b9 v (fieldsK v k f s).2.b,rrB b9 B x.i (fieldsK v k f s).2.e,pdB b8 x.p x.sl,⟨b6,116,[.int .i64 k,.int .u8 f,.int .i64 hd,.int .i64 m]⟩,⟨b4,39,(zk 0).li sl0⟩]) (fun _=>[]) (fun x=>Le c x.c∧RrK B x.i (fieldsK v k f s).2.l (fieldsK v k f s).2.e∧x.p.At x.sl x.c∧(x.sl.ca=none→x.sl.cc=0)∧Pn c x.p x.sl∧((fieldsK v k f s).2.b=false→x.p=(fieldsK v k f s).1)) ?_ fun x hx=>?_
  · have n1:=rd_len 2 s
    have z1:Pn c (zk k) sl0:=.zk _ _ _
    by_cases k1:k=1
    · subst k1
      have e:fieldsK v 1 f s=connK v s:=rfl;have r:=conn_rel v s;rw[e,← r.1];refine go ?_;refine vt30 (dp_connect R1 l1) fun x h=>?_
      refine go ?_;exact vj (FmX.mk x.i (connD v s).1 x.sl x.c) ⟨h.1,h.2.1,h.2.2.1,h.2.2.2.1,h.2.2.2.2 c (Le.refl c) z1,r.2⟩
    by_cases k2:k=2
    · subst k2
      have e:fieldsK v 2 f s=connackK v s:=rfl;have n3:=num1_lt s;have n4:Go.Proofs.YtohmcfmcbibbcaaGreatDoor.num (taken 1 (leftL 1 s.l s.e) (leftE 1 s.l s.e)) < 256:=num1_lt (s.rd 1);have n5:=rd_len 1 s;have n6:=rd_len 1 (s.rd 1);have l9:=lt9 (s.num 1);rw[e];refine go ?_;refine vt1b (rr_num 1 (by decide) (by decide) R1) fun x1 g1=>?_
      refine gor ?_;refine vrg ?_;refine gor ?_;refine CG.me (M':=[dtB b10 b9 v ((s.rd 1).need (decide (s.num 1≤1))).b,rrB b9 B x1 (s.rd 1).e,pdB b8 (zk 2) sl0,⟨b6,116,[.int .i64 2,.int .u8 f,.int .i64 hd,.int .i64 m]⟩,⟨b4,39,(zk 0).li sl0⟩]) (congrArg (fun b=>[dtB b10 b9 v b,rrB b9 B x1 (s.rd 1).e,pdB b8 (zk 2) sl0,⟨b6,116,[.int .i64 2,.int .u8 f,.int .i64 hd,.int .i64 m]⟩,⟨b4,39,(zk 0).li sl0⟩]) (show decide ((1:Int) < ((s.num 1:Nat):Int))=(s.b||!decide (s.num 1≤1)) by rw[s3,← l9,decide_eq_decide];omega)) ?_;refine go ?_;refine vt1b (rr_num 1 (by decide) (by decide) (l:=leftL 1 s.l s.e) (e:=leftE 1 s.l s.e) g1) fun x2 g2=>?_
      refine vq ?_;refine go ?_;refine vt20 (tr_dsec (s:=((s.rd 1).need (decide (s.num 1≤1))).rd 1) (v:=v) g2 (Nat.le_trans (Nat.le_trans n6 n5) l1)) fun z hz=>?_
      refine go ?_;exact vj (FmX.mk z.i _ { sl0 with pa:=z.b,pc:=z.bp } z.c) ⟨hz.1,hz.2.1,⟨.nil _ _,.nil _ _,.nil _ _,hz.2.2.1⟩,fun _=>rfl,⟨.nil _ _,.nil _ _,.nil _ _,hz.2.2.2.2⟩,fun _=>rfl⟩ (hM:=by simp[Pk.li,connackK,Ts.num,bI1,Ts.rd,Ts.need];exact decide_eq_decide.2 Iff.rfl)
    by_cases k3:k=3
    · subst k3
      obtain ⟨q1,q2,q3⟩:=bits16 f f1;have q4:decide ((f:Int) % 2=1) = !decide (f &&& 1=0):=by rw[← q1,decide_eq_decide];omega
      have q5:(f:Int) / 2 % 4=((f / 2 &&& 3:Nat):Int):=by omega
      have q6:decide ((8:Int)≤(f:Int)) = !decide (f &&& 8=0):=by rw[← q3,decide_eq_decide];omega
      have e0:fieldsK v 3 f s=publK v f s:=rfl;have n3:=rdT_len s;have n4:=rd_len 2 s.rdT;have n5:Go.Proofs.YtohmcfmcbibbcaaGreatDoor.num (taken 2 s.rdT.l s.rdT.e) < 65536:=num2_lt s.rdT;rw[e0];refine go ?_;refine vh [3] ?_
      repeat' first|refine gor ?_|refine vqx 0 ?_|fail
      refine CG.me (M':=[dtB b10 b9 v s.b,rrB b9 B 0 s.e,pdB b8 { zk 3 with dup:=!decide (f &&& 8=0),qos:=f / 2 &&& 3,retain:=!decide (f &&& 1=0) } sl0,⟨b6,116,[.int .i64 3,.int .u8 f,.int .i64 hd,.int .i64 m]⟩,⟨b4,39,(zk 0).li sl0⟩]) (by rw[q4,q5,q6];rfl) ?_;refine go ?_;refine vt20 (tr_dtext R1) fun x1 g1=>?_
      refine go ?_
      by_cases hq:f / 2 &&& 3=0
      · have e:publK v f s=({ zk 3 with dup:=!decide (f &&& 8=0),qos:=f / 2 &&& 3,retain:=!decide (f &&& 1=0),topic:=s.bin,id:=0,props:=s.rdT.sec v,load:=(s.rdT.rdS v).rest },(s.rdT.rdS v).rdR):=by simp[publK,hq]
        rw[e];refine vcF ?_ (hp:=decide_eq_false (show ¬ (0:Int) < ((f / 2 &&& 3:Nat):Int) by omega))
        refine go ?_;refine vt20 (tr_dsec (s:=s.rdT) (v:=v) g1 (by omega)) fun y hy=>?_
        refine go ?_;refine vt1b (rr_rest hy.2.1) fun z hz=>?_
        refine go ?_;exact vj (FmX.mk z _ { sl0 with pa:=y.b,pc:=y.bp } y.c) ⟨hy.1,hz,⟨.nil _ _,.nil _ _,.nil _ _,hy.2.2.1⟩,fun _=>rfl,⟨.nil _ _,.nil _ _,.nil _ _,hy.2.2.2.2⟩,fun _=>rfl⟩
      · have e:publK v f s=({ zk 3 with dup:=!decide (f &&& 8=0),qos:=f / 2 &&& 3,retain:=!decide (f &&& 1=0),topic:=s.bin,id:=s.rdT.num 2,props:=(s.rdT.rd 2).sec v,load:=((s.rdT.rd 2).rdS v).rest },((s.rdT.rd 2).rdS v).rdR):=by simp[publK,hq]
        rw[e];refine vcT ?_ (hp:=decide_eq_true (show (0:Int) < ((f / 2 &&& 3:Nat):Int) by omega))
        refine go ?_;refine vt1b (rr_num 2 (by decide) (by decide) g1) fun w hw=>?_
        refine vq ?_;refine go ?_;refine vt20 (tr_dsec (s:=s.rdT.rd 2) (v:=v) hw (by omega)) fun y hy=>?_
        refine go ?_;refine vt1b (rr_rest hy.2.1) fun z hz=>?_
        refine go ?_;exact vj (FmX.mk z _ { sl0 with pa:=y.b,pc:=y.bp } y.c) ⟨hy.1,hz,⟨.nil _ _,.nil _ _,.nil _ _,hy.2.2.1⟩,fun _=>rfl,⟨.nil _ _,.nil _ _,.nil _ _,hy.2.2.2.2⟩,fun _=>rfl⟩
    by_cases k4:k=4∨k=5∨k=6∨k=7
    · have e:fieldsK v k f s=shortK v { zk k with id:=s.num 2 } (s.rd 2):=by simp[fieldsK,k1,k2,k3,k4]
      have z2:Pn c { zk k with id:=s.num 2 } sl0:=⟨z1.w,z1.f,z1.c,z1.p⟩
      have n2:Go.Proofs.YtohmcfmcbibbcaaGreatDoor.num (taken 2 s.l s.e) < 65536:=num2_lt s;rw[e]
      repeat' first|refine go ?_|refine vc (fun _=>?_) fun _=>?_|fail
      all_goals
        refine vt1b (rr_num 2 (by decide) (by decide) R1) fun y hy=>?_
        refine vq ?_;refine go ?_;refine vt30 (dp_code (s:=s.rd 2) (p:={ zk k with id:=s.num 2 }) (sl:=sl0) hy (by omega) ⟨.nil _ _,.nil _ _,.nil _ _,.nil _ _⟩ (fun _=>rfl)) fun x h=>?_
        refine go ?_;exact vj (FmX.mk x.i _ x.sl x.c) ⟨h.1,h.2.1,h.2.2.1,h.2.2.2.1,h.2.2.2.2 c (Le.refl c) z2,fun _=>rfl⟩
    by_cases k8:k=8∨k=10
    · have e:fieldsK v k f s=({ zk k with id:=s.num 2,props:=(s.rd 2).sec v,filters:=(filtK k ((s.rd 2).rdS v).l.length ((s.rd 2).rdS v)).1 },(filtK k ((s.rd 2).rdS v).l.length ((s.rd 2).rdS v)).2):=by simp[fieldsK,k1,k2,k3,k4,k8]
      have n2:Go.Proofs.YtohmcfmcbibbcaaGreatDoor.num (taken 2 s.l s.e) < 65536:=num2_lt s;have n3:=rdS_len v (s.rd 2);rw[e]
      repeat' first|refine go ?_|refine vc (fun _=>?_) fun _=>?_|fail
      all_goals
        refine vt1b (rr_num 2 (by decide) (by decide) R1) fun y hy=>?_
        refine vq ?_;refine go ?_;refine vt20 (tr_dsec (s:=s.rd 2) (v:=v) hy (by omega)) fun z hz=>?_
        refine gob ?_;refine vb ?_;refine CG.nilr 79 2 ?_;have hz1:=hz.2.1;clear hy R1;generalize (s.rd 2).rdS v=s0 at *;refine vlo (fun x:FlR=>[(4,pt b4),(6,pt b6),(8,pt b8),(9,pt b10)]) (fun _=>z.c) (fun x=>[dtB b10 b9 v x.S.b,rrB b9 B x.i x.S.e,pdB b8 { zk k with id:=s.num 2,props:=(s.rd 2).sec v,filters:=x.acc } { sl0 with pa:=z.b,pc:=z.bp,fa:=x.fa,fc:=x.fp },⟨b6,116,[.int .i64 k,.int .u8 f,.int .i64 hd,.int .i64 m]⟩,⟨b4,39,(zk 0).li sl0⟩]) (fun x=>[⟨79,2,.slice x.fa x.acc.length x.fp,x.acc.length,FC x.acc⟩]) (fun x=>filtK k s0.l.length s0=(x.acc++(filtK k x.n x.S).1,(filtK k x.n x.S).2)∧x.S.l.length≤x.n∧x.acc.length+x.n≤s0.l.length∧RrK B x.i x.S.l x.S.e) (fun x=>x.n) ⟨z.i,none,0,[],s0.l.length,s0⟩ ⟨by simp,Nat.le_refl _,by simp,hz1⟩ fun ⟨i,fa,fp,acc,n,S⟩ ⟨j1,j2,j3,j4⟩=>?_
        dsimp only at j1 j2 j3 j4 ⊢;have stop:¬ (S.b=false∧0 < S.l.length)→filtK k s0.l.length s0=(acc,S):=fun h9=>filtK_end j1 fun q=>h9 ⟨by have:=q.1;unfold Ts.ok at this;simp at this;exact this.1,q.2⟩
        refine go ?_;refine vt1b (rr_left j4) fun x1 g1=>?_
        by_cases h0:0 < S.l.length
        case neg =>
          rw[stop (fun q=>h0 q.2)];refine go ?_;refine veo fun c' l9 o9 nw=>?_
          exact vj (FmX.mk x1 _ { sl0 with pa:=z.b,pc:=z.bp,fa:=fa,fc:=fp } c') ⟨hz.1.trans l9,g1,⟨.nil _ _,o9.row,.nil _ _,hz.2.2.1.le l9⟩,fun _=>rfl,⟨.nil _ _,nw.le hz.1,.nil _ _,hz.2.2.2.2⟩,fun _=>rfl⟩
        rcases Bool.eq_false_or_eq_true S.b with hb|hb
        · have hb':(!S.b)=false:=by rw[hb];rfl
          rw[stop (by rw[hb];simp)];refine go ?_;refine veo fun c' l9 o9 nw=>?_
          exact vj (FmX.mk x1 _ { sl0 with pa:=z.b,pc:=z.bp,fa:=fa,fc:=fp } c') ⟨hz.1.trans l9,g1,⟨.nil _ _,o9.row,.nil _ _,hz.2.2.1.le l9⟩,fun _=>rfl,⟨.nil _ _,nw.le hz.1,.nil _ _,hz.2.2.2.2⟩,fun _=>rfl⟩
        · have hb':(!S.b)=true:=by rw[hb];rfl
          have he:S.e=0:=Classical.byContradiction fun q=>by have:=j4.bad q;rw[this]at h0;simp at h0
          have hok:S.ok=true:=by unfold Ts.ok;rw[hb,he];rfl
          have m1:Go.Proofs.YtohmcfmcbibbcaaGreatDoor.num (taken 1 S.rdT.l S.rdT.e) < 256:=num1_lt S.rdT;obtain ⟨r1,r2⟩:=filtK_round (o:=if k=8 then S.rdT.num 1 else 0) (s':=if k=8 then S.rdT.rd 1 else S.rdT) j1 j2 ⟨hok,h0⟩ rfl rfl;refine go ?_;refine vt20 (tr_dtext g1) fun x2 g2=>?_
          refine go ?_;refine vA fun b11=>?_
          by_cases hk:k=8
          · rw[if_pos hk]at r1 r2
            rw[if_pos hk]at r1;refine go ?_;refine vt1c (rr_num 1 (by decide) (by decide) g2) fun x3 g3=>?_
            refine vq ?_;refine gor ?_;refine CG.perm ?_ (List.perm_middle (l₁:=[_,_,_]))
            refine go ?_;refine vA fun b12=>?_
            refine vgb fun a' cp'=>?_
            refine go ?_;refine ved ?_;refine EG.perm ?_ (List.perm_middle (l₁:=[_]))
            refine ved ?_;refine EG.perm ?_ (List.perm_middle (l₁:=[_,_])).symm;have e1:acc.length+1=(acc++[(⟨S.bin,S.rdT.num 1⟩:Fi)]).length:=by simp
            have e2:FC acc++[.string S.bin,.int .u8 (S.rdT.num 1)]=FC (acc++[(⟨S.bin,S.rdT.num 1⟩:Fi)]):=by rw[FC_append,FC_one];rfl
            have e3:(Go.Proofs.YtohmcfmcbibbcaaGreatDoor.num (taken 1 S.rdT.l S.rdT.e):Int)=(S.rdT.num 1:Int):=rfl;rw[e3,e2,e1];exact vj ⟨x3,a',cp',acc++[⟨S.bin,S.rdT.num 1⟩],n - 1,S.rdT.rd 1⟩ ⟨r1,r2,by dsimp only;rw[← e1];omega,g3⟩ (hμ:=by dsimp only;omega)
          · (try (exfalso;omega)) <;>
            (rw[if_neg hk]at r1 r2
             rw[if_neg hk]at r1;refine gor ?_;refine vrg ?_;refine gor ?_;refine CG.perm ?_ (List.perm_middle (l₁:=[_,_,_]))
             refine go ?_;refine vA fun b12=>?_
             refine vgb fun a' cp'=>?_
             refine go ?_;refine ved ?_;refine EG.perm ?_ (List.perm_middle (l₁:=[_]))
             refine ved ?_;refine EG.perm ?_ (List.perm_middle (l₁:=[_,_])).symm;have e1:acc.length+1=(acc++[(⟨S.bin,0⟩:Fi)]).length:=by simp
             have e2:FC acc++[.string S.bin,.int .u8 0]=FC (acc++[(⟨S.bin,0⟩:Fi)]):=by rw[FC_append,FC_one];rfl
             rw[e2,e1];exact vj ⟨x2,a',cp',acc++[⟨S.bin,0⟩],n - 1,S.rdT⟩ ⟨r1,r2,by dsimp only;rw[← e1];omega,g2⟩ (hμ:=by dsimp only;omega))
    by_cases k9:k=9∨k=11
    · have e:fieldsK v k f s=({ zk k with id:=s.num 2,props:=(s.rd 2).sec v,codes:=((s.rd 2).rdS v).l },((s.rd 2).rdS v).rdR):=by simp[fieldsK,k1,k2,k3,k4,k8,k9]
      have n2:Go.Proofs.YtohmcfmcbibbcaaGreatDoor.num (taken 2 s.l s.e) < 65536:=num2_lt s;rw[e]
      repeat' first|refine go ?_|refine vc (fun _=>?_) fun _=>?_|fail
      all_goals
        refine vt1b (rr_num 2 (by decide) (by decide) R1) fun y hy=>?_
        refine vq ?_;refine go ?_;refine vt20 (tr_dsec (s:=s.rd 2) (v:=v) hy (by omega)) fun z hz=>?_
        refine go ?_;refine vt1b (rr_rest hz.2.1) fun x hx=>?_
        refine vsb9 fun c' a' cp' h1 h2 h3 h4 h5=>?_
        refine go ?_;exact vj (FmX.mk x _ { sl0 with pa:=z.b,pc:=z.bp,ca:=a',cc:=cp' } c') ⟨hz.1.trans h1,hx,⟨.nil _ _,.nil _ _,h2,hz.2.2.1.le h1⟩,h3,⟨.nil _ _,.nil _ _,h5.le hz.1,hz.2.2.2.2⟩,fun _=>rfl⟩
    by_cases k14:k=14∨k=15
    · have e:fieldsK v k f s=shortK v (zk k) s:=by simp[fieldsK,k1,k2,k3,k4,k8,k9,k14]
      rw[e]
      repeat' first|refine go ?_|refine vc (fun _=>?_) fun _=>?_|fail
      all_goals
        refine vt30 (dp_code (p:=zk k) (sl:=sl0) R1 l1 (at0 k c) (fun _=>rfl)) fun x h=>?_
        refine go ?_;exact vj (FmX.mk x.i _ x.sl x.c) ⟨h.1,h.2.1,h.2.2.1,h.2.2.2.1,h.2.2.2.2 c (Le.refl c) z1,fun _=>rfl⟩
    · have e:fieldsK v k f s=(zk k,s):=by simp[fieldsK,k1,k2,k3,k4,k8,k9,k14]
      rw[e]
      repeat' first|refine go ?_|refine vc (fun _=>?_) fun _=>?_|fail
      exact vj (FmX.mk 0 (zk k) sl0 c) ⟨Le.refl c,R1,at0 k c,fun _=>rfl,z1,fun _=>rfl⟩
  · obtain ⟨x1,x2,x3,x4,x5,x6⟩:=hx
    generalize fieldsK v k f s=K at *;refine CG.perm ?_ (List.perm_middle (l₁:=[_,_,_,_]))
    rcases Bool.eq_false_or_eq_true K.2.b with hb|hb
    · have e:(K.2.ok&&decide (K.2.l.length=0))=false:=by simp[Ts.ok,hb]
      rw[e,nP e];refine go ?_;exact vrn2 (sl0,x.c) ⟨x1,at0 0 _,fun _=>rfl,.zk _ _ _⟩
    by_cases he:K.2.e=0
    case neg =>
      have e:(K.2.ok&&decide (K.2.l.length=0))=false:=by simp[Ts.ok,he]
      rw[e,nP e];refine go ?_;exact vrn2 (sl0,x.c) ⟨x1,at0 0 _,fun _=>rfl,.zk _ _ _⟩
    refine go ?_;refine vt1c (rr_left x2) fun x7 _=>?_
    by_cases h0:K.2.l.length=0
    · have e:(K.2.ok&&decide (K.2.l.length=0))=true:=by simp[Ts.ok,he,hb,h0]
      rw[e,yP e,← x6 hb];refine go ?_;exact vrn2 (x.sl,x.c) ⟨x1,x3,x4,x5⟩
    · have e:(K.2.ok&&decide (K.2.l.length=0))=false:=by simp[h0]
      rw[e,nP e];refine go ?_;exact vrn2 (sl0,x.c) ⟨x1,at0 0 _,fun _=>rfl,.zk _ _ _⟩
end
theorem own_ca {p:Pk} {s:Sl} (h:s.ca=none→s.cc=0):(ownSl p s).ca=none→(ownSl p s).cc=0:=by
 unfold ownSl
 repeat' split
 all_goals first|exact fun _=>rfl|exact h
section
variable {c:World} {v:Int}
theorem tn_rDecode (hT:Tabs c) {n:Nat} {a:Option Addr} {l:List UInt8} (hr:Row c a (B8 l)) (hn:a=none→n=0) (hl:l.length≤n) (h5:l.length≤2400):Tn Tryz.prog 21 [.int .i64 v,.slice a l.length n] c (fun x:Sl=>.tuple #[(decP v l).val x,.int .i64 (decE v l)]) (fun x c'=>(decP v l).At x c'∧(x.ca=none→x.cc=0)∧Pn c (decP v l) x):=by
 refine Tn.in Tryz.func21 ?_;refine go ?_;refine vA fun b1=>?_
 by_cases hv:v=4∨v=5
 case neg =>
  have e:decE v l=1:=if_neg hv;have e2:decP v l=zk 0:=if_neg (by rw[e];decide);rw[e,e2];have h4:¬ v=4:=fun q=>hv (.inl q)
  have h5:¬ v=5:=fun q=>hv (.inr q)
  refine go ?_;exact vrn2 (sl0,c) ⟨Le.refl c,at0 0 c,fun _=>rfl,.zk _ _ _⟩
 have c2:=tn_rForm (v:=v) hT hr hn hl (by omega);have hv9:=hv;rcases hv with hv|hv
 all_goals
  refine go ?_;refine vtn c2 fun x c' h1 h2=>?_
  refine go ?_;refine vA fun b2=>?_
  cases hO:formOk v l with
  | false =>
   have e:decE v l=3:=(if_pos hv9).trans (if_neg (by rw[hO];decide));have e2:decP v l=zk 0:=if_neg (by rw[e];decide);rw[e,e2];refine go ?_;exact vrn2 (sl0,c') ⟨h1,at0 0 c',fun _=>rfl,.zk _ _ _⟩
  | true =>
   have hF:=fit_form (v:=v) (by omega) hO;have c3:=ck_rRight (c:=c') v (formP v l) x h2.1 hF (ck_rSame _ _ _ _ h2.1 (ownSl_at h2.1) hF.few (bare_few hF.few) h2.2.1 (own_ca h2.2.1));rw[← right_eq v (formP v l) (fun f hf=>((ok9_form (by omega)).tf f hf).1) (rest9 (by omega))]at c3;cases hR:rightP v (formP v l) with
   | false =>
    have e:decE v l=4:=(if_pos hv9).trans ((if_pos hO).trans (if_neg (by rw[hR];decide)));have e2:decP v l=zk 0:=if_neg (by rw[e];decide);rw[hR]at c3;rw[e,e2];refine go ?_;exact vrn2 (sl0,c') ⟨h1,at0 0 c',fun _=>rfl,.zk _ _ _⟩
   | true =>
    have e:decE v l=0:=(if_pos hv9).trans ((if_pos hO).trans (if_pos hR));have e2:decP v l=formP v l:=if_pos e;rw[hR]at c3;rw[e,e2];refine go ?_;exact vrn2 (x,c') ⟨h1,h2⟩
theorem decE_ne2 {v:Int} {l:List UInt8}:decE v l≠2:=by grind [decE]
structure PsX where
 L:List RIt
 oa:Option Addr
 oc:Nat
 n:Nat
 fst:Bool
 la:Option Addr
 lc:Nat
 l:List UInt8
 c:World
structure Rp9 (v m:Int) (N:Nat) (F:Bool) (l0:List UInt8) (L:List RIt) (n:Nat) (fst:Bool) (l:List UInt8):Prop where
 f:feedG v m N F l0=(L.map RIt.pb++(feedG v m n fst l).1,(feedG v m n fst l).2)
 n:l.length≤n
 s:fst=(F&&L.isEmpty)
theorem Rp9.go {v m:Int} {N n:Nat} {F fst:Bool} {l0 l:List UInt8} {L:List RIt} {x:RIt} (h:Rp9 v m N F l0 L n fst l) (h0:nextE v m fst l=0) (hp:x.pb=(decP v (l.take (nextN l)),l.take (nextN l))):Rp9 v m N F l0 (L++[x]) (n - 1) false (l.drop (nextN l)):=by
 have h1:=nextN_lt h0;have h2:=h.n;obtain ⟨k,rfl⟩:∃ k,n=k+1:=⟨n - 1,by omega⟩
 refine ⟨?_,by simp only[List.length_drop];omega,by simp⟩;rw[h.f,feedG_go h0,Nat.add_sub_cancel,List.map_append,List.append_assoc,List.map_singleton,hp]
 rfl
theorem tn_Parse (hT:Tabs c) {m:Int} {F:Bool} {n:Nat} {a:Option Addr} {l:List UInt8} (hr:Row c a (B8 l)) (hn:a=none→n=0) (hl:l.length≤n) (h5:l.length≤100000) (hm:m≤2400):Tn Tryz.prog 24 [.int .i64 v,.int .i64 m,.bool F,.slice a l.length n] c (fun x:List RIt × Option Addr × Nat=>.tuple #[.slice x.2.1 x.1.length x.2.2,.int .i64 (feedG v m l.length F l).2.2,.int .i64 (feedG v m l.length F l).2.1.length]) (fun x c'=>x.1.map RIt.pb=(feedG v m l.length F l).1∧(∀ y∈x.1,y.At c'∧Pn c y.p y.s)∧Own9 c' 56 x.2.1 x.1.length x.2.2 (RC x.1)∧Nw c x.2.1 (RC x.1)):=by
 refine Tn.in Tryz.func24 ?_;refine gor ?_;refine vrg ?_;refine gor ?_;refine vrg ?_;refine gor ?_;refine CG.nilr 56 26 ?_;refine vlo (fun x:PsX=>[(0,.int .i64 v),(1,.int .i64 m),(2,.bool F),(3,.slice x.la x.l.length x.lc),(11,.slice x.oa x.L.length x.oc)]) (fun x=>x.c) (fun _=>[]) (fun x=>[⟨56,26,.slice x.oa x.L.length x.oc,x.L.length,RC x.L⟩]) (fun x=>Le c x.c∧Rp9 v m l.length F l x.L x.n x.fst x.l∧(∀ y∈x.L,y.At x.c∧Pn c y.p y.s)∧Row x.c x.la (B8 x.l)∧(x.la=none→x.lc=0)∧x.l.length≤x.lc∧x.l.length≤100000∧x.L.length+x.l.length≤100000) (fun x=>x.l.length) ⟨[],none,0,l.length,F,a,n,l,c⟩ ⟨Le.refl c,⟨rfl,Nat.le_refl _,by simp⟩,by simp,hr,hn,hl,h5,by simpa using h5⟩ fun x ⟨x1,x2,x3,x4,x5,x6,x7,x8⟩=>?_
 have c1:=ck_rHead x4 x5 (by omega);have f2:=hd_head x.l;have f3:=hd_rest x.l
 have fin:∀ e,nextE v m x.fst x.l=e→e≠0→feedG v m l.length F l=(x.L.map RIt.pb,if e=2 then (x.l,0) else ([],e)):=fun e h h0=>by
  rw[x2.f,feedG_no (by rw[h];exact h0) x2.n,h]
  split<;>simp
 refine go ?_;refine vA fun b12=>?_
 by_cases h1:headE x.l=0
 case neg =>
  have e9:nextE v m x.fst x.l=headE x.l:=if_pos h1;rw[fin _ e9 h1]
  by_cases h2:headE x.l=2
  ·rw[h2,if_pos rfl]
   refine go ?_;refine veo fun c' l9 o9 nw=>?_
   exact vrn3 ((x.L,x.oa,x.oc),c') ⟨x1.trans l9,rfl,fun y hy=>⟨(x3 y hy).1.le l9,(x3 y hy).2⟩,o9,nw.le x1⟩
  ·rw[if_neg h2]
   refine go ?_;refine veo fun c' l9 o9 nw=>?_
   exact vrn3 ((x.L,x.oa,x.oc),c') ⟨x1.trans l9,rfl,fun y hy=>⟨(x3 y hy).1.le l9,(x3 y hy).2⟩,o9,nw.le x1⟩
 by_cases h2:m < (headB x.l).head+((headB x.l).rest:Int)
 ·have e9:nextE v m x.fst x.l=5:=(if_neg (fun q=>q h1)).trans (if_pos h2)
  rw[fin _ e9 (by decide),if_neg (by decide)];refine go ?_;refine veo fun c' l9 o9 nw=>?_
  exact vrn3 ((x.L,x.oa,x.oc),c') ⟨x1.trans l9,rfl,fun y hy=>⟨(x3 y hy).1.le l9,(x3 y hy).2⟩,o9,nw.le x1⟩
 have h2':¬ (headB x.l).head+((headB x.l).rest:Int) > m:=h2
 by_cases h3:x.fst=true∧(headB x.l).kind≠1
 ·have e9:nextE v m x.fst x.l=6:=(if_neg (fun q=>q h1)).trans ((if_neg h2).trans (if_pos h3))
  rw[fin _ e9 (by decide),if_neg (by decide)];obtain ⟨h3,h4⟩:=h3;rw[x2.s,Bool.and_eq_true]at h3;obtain ⟨rfl,h3⟩:=h3;have h5:((x.L.length:Nat):Int)=0:=by have:=List.isEmpty_iff.1 h3;rw[this];rfl
  refine go ?_;refine veo fun c' l9 o9 nw=>?_
  exact vrn3 ((x.L,x.oa,x.oc),c') ⟨x1.trans l9,rfl,fun y hy=>⟨(x3 y hy).1.le l9,(x3 y hy).2⟩,o9,nw.le x1⟩
 refine gor ?_;refine vrg ?_;refine gor ?_;refine vrg ?_;refine gor ?_;refine vrg ?_;refine gor ?_;refine vck (fun _=>[(0,.int .i64 v),(1,.int .i64 m),(2,.bool F),(3,.slice x.la x.l.length x.lc),(11,.slice x.oa x.L.length x.oc),(12,pt b12),(47,.bool false)]) (fun _=>x.c) (fun _:Unit=>[⟨b12,116,[.int .i64 (headB x.l).kind,.int .u8 (headB x.l).flags,.int .i64 (headB x.l).head,.int .i64 (headB x.l).rest]⟩]) (fun _=>[⟨56,26,.slice x.oa x.L.length x.oc,x.L.length,RC x.L⟩]) (fun _=>True) ?_ fun _ _=>?_
 ·cases F with
  | false =>
   refine go ?_;exact vj () trivial
  | true =>
   by_cases h4:x.L.length=0
   ·have h5:x.fst=true:=by rw[x2.s,List.length_eq_zero_iff.1 h4];rfl
    have h6:(headB x.l).kind=1:=Classical.byContradiction fun q=>h3 ⟨h5,q⟩
    refine go ?_;rw[decide_eq_true h6];exact vj () trivial
   ·refine go ?_
    exact vj () trivial
 have eN:(headB x.l).head+((headB x.l).rest:Int)=(nextN x.l:Int):=by unfold nextN;omega
 by_cases h4:(x.l.length:Int) < (headB x.l).head+((headB x.l).rest:Int)
 ·have e9:nextE v m x.fst x.l=2:=(if_neg (fun q=>q h1)).trans ((if_neg h2).trans ((if_neg h3).trans (if_pos h4)))
  rw[fin _ e9 (by decide),if_pos rfl];refine go ?_;refine veo fun c' l9 o9 nw=>?_
  exact vrn3 ((x.L,x.oa,x.oc),c') ⟨x1.trans l9,rfl,fun y hy=>⟨(x3 y hy).1.le l9,(x3 y hy).2⟩,o9,nw.le x1⟩
 have e9:nextE v m x.fst x.l=decE v (x.l.take (nextN x.l)):=(if_neg (fun q=>q h1)).trans ((if_neg h2).trans ((if_neg h3).trans (if_neg h4)));have eL:nextN x.l=(x.l.take (nextN x.l)).length:=by rw[List.length_take];omega
 have eT:((headB x.l).head+((headB x.l).rest:Int)).toNat=nextN x.l:=by rw[eN];rfl
 refine go ?_;refine vslt fun a' g1 g2=>?_
 rw[eT]at g1;refine vle (v':=.slice a' (x.l.take (nextN x.l)).length x.lc) (by rw[eT,← eL]) ?_;have d1:=tn_rDecode (v:=v) (hT.le x1) g1 g2 (by rw[← eL];omega) (by rw[← eL];omega)
 by_cases h7:decE v (x.l.take (nextN x.l))=0
 case neg =>
  rw[fin _ e9 h7,if_neg decE_ne2];refine vtn d1 fun y c' k1 k2=>?_
  refine go ?_;refine vA fun b14=>?_
  refine go ?_;refine veo fun c2 l9 o9 nw=>?_
  exact vrn3 ((x.L,x.oa,x.oc),c2) ⟨(x1.trans k1).trans l9,rfl,fun y hy=>⟨(x3 y hy).1.le (k1.trans l9),(x3 y hy).2⟩,o9,nw.le (x1.trans k1)⟩
 rw[h7]at d1;refine vtn d1 fun y c' k1 k2=>?_
 refine go ?_;refine vA fun b14=>?_
 refine go ?_;refine vh [0,1] ?_
 repeat' first|refine go ?_|refine vqx 0 ?_|fail
 refine vqst 0 (a:=x.la) (l:=x.l) (fun a2 k3 k4=>?_) (hr:=x4.le k1);rw[eT]at k3;refine vqe (v':=.slice a2 (x.l.take (nextN x.l)).length x.lc) (by rw[eT,← eL]) ?_;refine go ?_;refine vqbu 0 ?_;refine vqA fun b15=>?_
 refine vqgb fun a3 c3=>?_
 refine go ?_;refine vslf (hr:=x4.le k1) fun a4 k5 k6=>?_
 rw[eT,List.take_of_length_le (by rw[List.length_drop];exact Nat.le_refl _)]at k5;rw[eT]at k6 ⊢;rw[← List.length_drop];refine go ?_;have h0:nextE v m x.fst x.l=0:=e9.trans h7;have hN:=nextN_lt h0;have e1:x.L.length+1=(x.L++[(⟨decP v (x.l.take (nextN x.l)),y,x.l.take (nextN x.l)⟩:RIt)]).length:=by simp
 refine ved (ved (ved (vj ⟨x.L++[⟨decP v (x.l.take (nextN x.l)),y,x.l.take (nextN x.l)⟩],a3,c3,x.n - 1,false,a4,x.lc - nextN x.l,x.l.drop (nextN x.l),c'⟩ ⟨x1.trans k1,x2.go h0 rfl,?_,k5,k6,?_,?_,?_⟩ (hμ:=?_) (hL:=?_) (hR:=?_))))
 all_goals dsimp only
 ·intro z hz
  rcases List.mem_append.1 hz with hz|hz
  ·exact ⟨(x3 z hz).1.le k1,(x3 z hz).2⟩
  ·rw[List.mem_singleton.1 hz]
   exact ⟨⟨k2.1,k2.2.1⟩,k2.2.2.le x1⟩
 ·rw[List.length_drop];omega
 ·rw[List.length_drop];omega
 ·rw[List.length_drop,← e1];omega
 ·rw[List.length_drop];omega
 ·rw[← e1]
  repeat' (first|exact trivial|refine ⟨rfl,?_⟩)
 ·rw[RC_add,← e1]
  rfl
end
end Go.Proofs.YtohmcfmcbibbcaaGreatDoor
