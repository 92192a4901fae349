import Derived.Test.YtohmcfmcbibbcaaGreatDoorYJ1
import Derived.Test.YtohmcfmcbibbcaaGreatDoorYJ2
import Derived.Test.YtohmcfmcbibbcaaGreatDoorYI2
import Derived.Test.YtohmcfmcbibbcaaGreatDoorYH9
import Derived.Test.YtohmcfmcbibbcaaGreatDoorYK4
import Derived.Test.YtohmcfmcbibbcaaGreatDoorYJ3
import Derived.Test.YtohmcfmcbibbcaaGreatDoorYJ5
import Derived.Test.YtohmcfmcbibbcaaGreatDoorYI3
import Derived.Test.YtohmcfmcbibbcaaGreatDoorYJ6
namespace Go.Proofs.YtohmcfmcbibbcaaGreatDoor
open Go.RowKit
set_option linter.unusedVariables false
set_option linter.unusedSimpArgs false
set_option maxRecDepth 100000
theorem szP_small {x:Pr} (h:x.a.size≤300∧x.b.size≤300):x.size≤609:=by
 unfold Pr.size szP
 have:=varL_le x.n
 repeat' split
 all_goals omega
theorem lenGo_small:∀ (L:List Pr) (m n:Nat),lenGo L m=some n→(∀ x∈L,x.a.size≤300∧x.b.size≤300)→n≤m+L.length * 609:=by
 intro L
 induction L with
 | nil=>intro m n h _;simp[lenGo]at h;simp;omega
 | cons p L ih =>
  intro m n h hx;simp only[lenGo]at h;have h1:=szP_small (hx p (List.mem_cons_self ..));simp only[List.length_cons]
  split at h
  ·split at h
   ·have:=ih _ _ h (fun x hx'=>hx x (List.mem_cons_of_mem _ hx'));omega
   ·cases h
  ·cases h
theorem secN_small {v:Int} {L:List Pr} (h:∀ x∈L,x.a.size≤300∧x.b.size≤300) (hl:L.length≤30):secN v L≤18280:=by
 unfold secN sizeR
 split
 ·omega
 ·split
  ·rename_i n hn
   have h1:=lenGo_small L 0 n hn h;have h4:=varL_le n;omega
  ·omega
theorem filtersN_small (k:Int):∀ (L:List Fi),(∀ f∈L,f.text.size≤300)→filtersN k L≤L.length * 303
 | [],_=>by simp[filtersN]
 | f :: L,h=>by
  have h1:=filtersN_small k L (fun g hg=>h g (List.mem_cons_of_mem _ hg));have h2:=h f (List.mem_cons_self ..);simp only[filtersN,List.length_cons]
  split<;>omega
theorem restN_small {v:Int} {p:Pk} (h:Small p):restN v p≤268435455:=by
 have h1:=secN_small (v:=v) h.tp h.np;have h2:=secN_small (v:=v) h.tw h.nw;have h3:=filtersN_small p.kind p.filters h.tf;have h4:=h.nf;have h5:=h.sum;have h6:shortN v p≤18281:=by unfold shortN;(repeat' split)<;>omega
 have h7:connectN v p≤100000:=by unfold connectN;(repeat' split)<;>omega
 unfold restN
 repeat' split
 all_goals omega
theorem Fine.small {m:Nat} {p:Pk} (h:Fine m p) (hm:m≤60):Small p:=by
 have h1:=h.client;have h2:=h.willTopic;have h3:=h.willLoad;have h4:=h.user;have h5:=h.pass;have h6:=h.topic;have h7:=h.load;have h8:=h.codes;have h9:=h.nf;have h10:=h.np;have h11:=h.nw;exact ⟨by omega,by omega,by omega,by omega,fun f hf=>by have:=(h.tf f hf).2;omega,fun x hx=>⟨by have:=(h.tp x hx).2.2.1;omega,by have:=(h.tp x hx).2.2.2;omega⟩,fun x hx=>⟨by have:=(h.tw x hx).2.2.1;omega,by have:=(h.tw x hx).2.2.2;omega⟩⟩
theorem FixQ.fineQ {v:Int} {q:Pk} (h:FixQ v q):Fine 40 q :=
 ⟨h.sc,h.wts,h.sw,h.su,h.spl,h.tops,h.sl,by have:=h.cl;omega,by have:=h.fl2;omega,h.prn,h.wprn,fun f hf=>⟨(h.fl f hf).2.1,by have:=(h.fl f hf).2.2;omega⟩,h.prs,h.wprs,by have:=h.qos;omega,h.id,h.keep,by have:=h.wq;omega,h.codel⟩
theorem Fine.bare {m:Nat} {q:Pk} (h:Fine m q):Fine m (bareP q):=by
 have e0:(0:Nat)≤m:=Nat.zero_le _;have es:∀ (b:Bool) (s:ByteArray),s.size≤m→(if b then s else ⟨#[]⟩:ByteArray).size≤m:=fun b s hs=>by cases b;exact e0;exact hs
 have ez:(⟨#[]⟩:ByteArray).size≤m:=e0;have en:∀ (b:Bool) (k n:Nat),k < n→0 < n→(if b then k else 0) < n:=fun b k n hk hn=>by cases b;exact hn;exact hk
 have ew:∀ (b:Bool),(if b then q.willProps else []).length≤10:=fun b=>by cases b;exact Nat.zero_le _;exact h.nw
 have ex:∀ (b:Bool),∀ x∈(if b then q.willProps else []),x.id < 256∧x.n < 4294967296∧x.a.size≤32∧x.b.size≤32:=fun b=>by cases b;(intro x hx;cases hx);exact h.tw
 have en2:∀ {α:Type},([]:List α).length≤10:=fun {α}=>Nat.zero_le _
 have em:∀ {α:Type},([]:List α).length≤m:=fun {α}=>Nat.zero_le _
 unfold bareP
 split
 ·exact ⟨h.client,es _ _ h.willTopic,es _ _ h.willLoad,es _ _ h.user,es _ _ h.pass,ez,ez,em,en2,h.np,ew _,(fun f hf=>by cases hf),h.tp,ex _,(show 0 < 256 by decide),(show 0 < 65536 by decide),h.keep,en _ _ _ h.wq (by decide),(show 0 < 256 by decide)⟩
 all_goals (repeat' split)
 all_goals (refine ⟨?_,?_,?_,?_,?_,?_,?_,?_,?_,?_,?_,?_,?_,?_,?_,?_,?_,?_,?_⟩<;>first|exact ez|exact h.topic|exact h.load|exact em|exact h.codes|exact en2|exact h.nf|exact h.np|exact h.tf|exact h.tp|exact h.qos|exact h.id|exact h.code|exact (by decide:0 < 256)|exact (by decide:0 < 65536)|(intro x hx;cases hx))
theorem chk_ok9:∀ (L:List Pr) {k:Int} (q:Option Nat),chkGo k q L=true→∀ x∈L,x.ok=true
 | [],_,_,_=>by simp
 | p :: t,k,q,h=>by
  unfold chkGo at h;simp only[Bool.and_eq_true]at h;intro x hx;rcases List.mem_cons.1 hx with rfl|hx
  ·have:=h.1;unfold valueB at this;simp only[Bool.and_eq_true]at this;exact this.1
  ·exact chk_ok9 t _ h.2.2.2 x hx
theorem check_ok9 {k:Int} {L:List Pr} (h:checkB k L=true):∀ p∈L,p.ok=true:=by
 unfold checkB at h;simp only[Bool.and_eq_true]at h;exact chk_ok9 L none h.2.1
theorem small_lay9:∀ (L:List Pr),(∀ p∈L,p.wf')→(∀ p∈L,p.ok=true)→(∀ x∈L,x.a.size≤300∧x.b.size≤300)→(layAll L).length≤L.length * 609
 | [],_,_,_=>by simp[layAll]
 | p :: t,hw,hk,hs=>by
  have hl:p.lay.length=p.size:=layP_len (Pr.fits (hw p (by simp)) (hk p (by simp)));have h1:=szP_small (hs p (by simp));have h2:=small_lay9 t (fun q hq=>hw q (List.mem_cons_of_mem _ hq)) (fun q hq=>hk q (List.mem_cons_of_mem _ hq)) (fun q hq=>hs q (List.mem_cons_of_mem _ hq));rw[show layAll (p :: t)=p.lay++layAll t from rfl,List.length_append,hl,List.length_cons];omega
theorem len_of9 {k:Int} {L:List Pr} (hc:checkB k L=true) (hn:L.length≤10) (hs:∀ x∈L,x.id < 256∧x.n < 4294967296∧x.a.size≤32∧x.b.size≤32):∃ n,lenGo L 0=some n:=by
 have hw:∀ p∈L,p.wf':=fun p hp=>by
  have:=hs p hp
  exact ⟨this.1,this.2.1,by omega,by omega⟩
 have hk:=check_ok9 hc;have h1:=small_lay9 L hw hk (fun x hx=>by have:=hs x hx;omega);exact ⟨_,lenGo_all L 0 hw hk (by omega)⟩
theorem bare_pr (p:Pk):((bareP p).props=p.props∨(bareP p).props=[])∧((bareP p).willProps=p.willProps∨(bareP p).willProps=[]):=by
 unfold bareP
 repeat' split
 all_goals first|exact ⟨.inl rfl,.inr rfl⟩|exact ⟨.inr rfl,.inr rfl⟩|(cases h:p.hasWill<;>simp[zk])
theorem fix_lays {v:Int} {Q:Pk} (h:FixQ v Q):Lays9 v (bareP Q)∧canon (bareP Q)=bareP Q:=by
 obtain ⟨b1,b2⟩:=bare_pr Q
 have e1:∃ n,lenGo (bareP Q).props 0=some n:=by
  rcases b1 with b|b<;>rw[b]
  ·exact len_of9 h.pr h.prn h.prs
  ·exact ⟨_,rfl⟩
 have e2:∃ n,lenGo (bareP Q).willProps 0=some n:=by
  rcases b2 with b|b<;>rw[b]
  ·exact len_of9 h.wpr h.wprn h.wprs
  ·exact ⟨_,rfl⟩
 refine ⟨⟨.inr e1,.inr e2,fun h4=>?_,fun h4=>?_⟩,?_⟩
 ·rcases b1 with b|b<;>rw[b]
  exact (h.pr4 h4).1
 ·rcases b2 with b|b<;>rw[b]
  exact (h.pr4 h4).2
 ·have c1:sortL (bareP Q).props=(bareP Q).props:=by
   rcases b1 with b|b<;>rw[b]
   ·exact sortL_of h.srt
   ·exact sortL_of List.Pairwise.nil
  have c2:sortL (bareP Q).willProps=(bareP Q).willProps:=by
   rcases b2 with b|b<;>rw[b]
   ·exact sortL_of h.wsrt
   ·exact sortL_of List.Pairwise.nil
  unfold canon;rw[c1,c2]
theorem fx9_of {v:Int} {Q:Pk} (hv:v=4∨v=5) (hQ:FixQ v Q):Fx9 v (bareP Q):=by
 have hF:=hQ.fineQ.bare;obtain ⟨hL,hC⟩:=fix_lays hQ;exact ⟨hF,by rw[right_eq v _ (hF.fit (by decide)).opt (restN_small (hF.small (by decide)))];exact hQ.right hv,hL,hC⟩
set_option maxHeartbeats 8000000
section
variable {c:World}
theorem tn_to6 {a:Option Addr} {n:Nat} {L:List Pr} (hr:Row c a (PC L)) (hl:L.length≤100000):Tn Tryz.prog 32 [.slice a L.length n] c (fun x:Option Addr × Nat=>.slice x.1 L.length x.2) (fun x c'=>Own9 c' 139 x.1 L.length x.2 (PC L)) :=
 Tn.own (k:=4) Tryz.func32 fun w k=>tolist_any a n L w (hr.le k) hl
theorem tn_To7 (p:Pk) (s:Sl) (hp:p.At s c) (hF:p.few) (hs:s.ca=none→s.cc=0):Tn Tryz.prog 10 [p.val s] c (fun x:Sl=>p.val x) (fun x c'=>p.At x c'∧(x.ca=none→x.cc=0)):=by
 have h1:=hF.hf;have h2:=hF.hc;have h3:=hF.hp;have h4:=hF.hw;refine Tn.in Tryz.func10 ?_;refine go ?_;refine vA fun b1=>?_
 refine vA fun b2=>?_
 refine go ?_;refine vck (fun x:F7=>[(1,pt b1),(2,pt b2),(3,pt x.b)]) (fun x=>x.c) (fun x=>[⟨x.b,34,({ p with filters:=[] }:Pk).li x.s⟩,⟨b2,34,(zk 0).li sl0⟩,⟨b1,39,p.li s⟩]) (fun _=>[]) (fun x=>Le c x.c∧({ p with filters:=[] }:Pk).At x.s x.c∧(x.s.ca=none→x.s.cc=0)∧x.s.fa=none∧x.s.fc=0) ?_ fun ⟨xb,⟨wa,wc,fa,fc,ca,cc,pa,pc⟩,xc⟩ ⟨x1,x2,x3,x4,x5⟩=>?_
 ·refine vh [1] ?_
  refine go ?_
  repeat' first
   | refine go ?_
   | refine vqbu 0 ?_
   | refine vqp3 ?_ ?_ ?_
   | refine vqp2 ?_ ?_
   | refine vimt 5 fun a3 c3=>?_
   | refine viA fun b3=>?_
   | refine vitn (tn_to6 hp.hw h4) fun xw cw lw ow=>?_
   | refine vigr (hp.hc.le lw) hs (B8_one _) fun a4 c4=>?_
   | refine vitn (tn_to6 (hp.hp.le lw) h3) fun xp cp lp op=>?_
   | refine vqmt 5 fun a3 c3=>?_
   | refine vqA fun b3=>?_
   | refine vqtn (tn_to6 hp.hw h4) fun xw cw lw ow=>?_
   | refine vqgr (hp.hc.le lw) hs (B8_one _) fun a4 c4=>?_
   | refine vqtn (tn_to6 (hp.hp.le lw) h3) fun xp cp lp op=>?_
   | fail
  all_goals
   rw[Nat.zero_add p.codes.length,List.nil_append];refine vef9 fun c5 l5 o5=>?_
   exact vj (F7.mk b3 ⟨xw.1,xw.2,none,0,a4,c4,xp.1,xp.2⟩ c5) ⟨(lw.trans lp).trans l5,⟨ow.row.le (lp.trans l5),.nil _ _,o5.row,op.row.le l5⟩,o5.nil,rfl,rfl⟩
 ·dsimp only at x1 x2 x3 x4 x5
  subst x4 x5;refine go ?_;refine CG.nilr 80 2 ?_;refine vlo (fun y:F7f=>[(1,pt b1),(2,pt b2),(3,pt xb),(4,.int .i64 y.l.length)]) (fun _=>xc) (fun y=>[⟨xb,34,({ p with filters:=y.l }:Pk).li ⟨wa,wc,y.fa,y.fc,ca,cc,pa,pc⟩⟩,⟨b2,34,(zk 0).li sl0⟩,⟨b1,39,p.li s⟩]) (fun y=>[⟨80,2,.slice y.fa y.l.length y.fc,y.l.length,FC y.l⟩]) (fun y=>y.l=p.filters.take y.l.length∧y.l.length≤p.filters.length) (fun y=>p.filters.length - y.l.length) ⟨[],none,0⟩ ⟨rfl,Nat.zero_le _⟩ fun y ⟨g1,g2⟩=>?_
  rcases Nat.lt_or_ge y.l.length p.filters.length with h|h
  ·obtain ⟨b5,o5,hR⟩:=(hp.hf.le x1).fi h
   refine go ?_;refine vh [2] ?_;refine go ?_;refine vqy 1 ?_;refine vqy 1 ?_;refine vqy 1 ?_;refine vqy 1 ?_;refine vqy 1 ?_;refine vqy 1 ?_;refine vqy 1 ?_;refine vqy 1 ?_;refine vqy 1 ?_;refine vqy 1 ?_;refine vqy 1 ?_;refine vqy 1 ?_;refine vqbu 1 ?_;refine vq2 (i:=1) (j:=15) (vilm ?_) (viA fun b6=>?_)
   case' refine_1=>refine vqA fun b6=>?_
   case' refine_2=>refine vqlm ?_
   all_goals
    refine vqgb fun fa' fc'=>?_
    refine go ?_;refine ved ?_;have e1:y.l.length+1=(y.l++[p.filters[y.l.length]]).length:=by simp
    have e2:FC y.l++[.string p.filters[y.l.length].text,.int .u8 p.filters[y.l.length].opt]=FC (y.l++[p.filters[y.l.length]]):=by rw[FC_append,FC_one];rfl
    rw[e1,e2];refine vj (F7f.mk (y.l++[p.filters[y.l.length]]) fa' fc') ⟨?_,?_⟩ (hμ:=?_) (hL:=?_)
    ·dsimp only
     rw[← e1,List.take_add_one,← g1,List.getElem?_eq_getElem h]
     rfl
    ·dsimp only;omega
    ·dsimp only;omega
    ·refine ⟨rfl,rfl,rfl,?_,trivial⟩
     dsimp only;rw[← e1]
     rfl
  ·refine go ?_
   have e:y.l=p.filters:=by rw[g1,List.take_of_length_le h]
   obtain ⟨l,fa9,fc9⟩:=y;dsimp only at e;subst e;refine vef9 fun c5 l5 o5=>?_
   exact vrn (⟨wa,wc,fa9,fc9,ca,cc,pa,pc⟩,c5) ⟨x1.trans l5,⟨x2.hw.le l5,o5.row,x2.hc.le l5,x2.hp.le l5⟩,x3⟩
end
theorem secN_ten {v:Int} {L:List Pr} (h:∀ x∈L,x.a.size≤300∧x.b.size≤300) (hl:L.length≤10):secN v L≤6096:=by
 unfold secN sizeR
 split
 ·omega
 ·split
  ·rename_i n hn
   have h1:=lenGo_small L 0 n hn h;have h4:=varL_le n;omega
  ·omega
theorem enc_len3 {v:Int} {q:Pk} (h:Fx9 v q):2≤(encL v q).length∧(encL v q).length≤12500:=by
 obtain ⟨_,_,_,a4⟩:=enc_hd h.right h.fit;have f:=h.fine;have t1:=f.client;have t2:=f.willTopic;have t3:=f.willLoad;have t4:=f.user;have t5:=f.pass;have t6:=f.topic;have t7:=f.load;have t8:=f.codes;have t9:=f.nf;have h1:=secN_ten (v:=v) (L:=q.props) (fun x hx=>by have:=f.tp x hx;omega) f.np;have h2:=secN_ten (v:=v) (L:=q.willProps) (fun x hx=>by have:=f.tw x hx;omega) f.nw;have h3:=filtersN_small q.kind q.filters (fun g hg=>by have:=f.tf g hg;omega);have h6:shortN v q≤6097:=by unfold shortN;(repeat' split)<;>omega
 have h7:connectN v q≤12420:=by unfold connectN;(repeat' split)<;>omega
 have h8:restN v q≤12420:=by
  unfold restN
  repeat' split
  all_goals omega
 have h9:=varL_le (restN v q);have h10:=varL_pos (n:=restN v q) (by omega);omega
theorem feedG_all {v m:Int}:∀ (L:List Pk) (n:Nat),(∀ p∈L,Fx9 v p∧((encL v p).length:Int)≤m)→(L.flatMap (encL v)).length≤n→feedG v m n false (L.flatMap (encL v))=(L.map (fun p=>(p,encL v p)),[],0)
 | [],n,_,_=>feedG_wait n nextE_nil
 | p :: L,n,h,hn=>by
  obtain ⟨hX,hm⟩:=h p (by simp);obtain ⟨a1,a2,a3,a4⟩:=enc_hd hX.right hX.fit;obtain ⟨b1,b2⟩:=head_app (m:=L.flatMap (encL v)) (l:=encL v p) (by rw[a1];decide);have b3:=b2 a1;have l9:=(enc_len3 hX).1;rw[List.flatMap_cons]at hn ⊢;have hN:nextN (encL v p++L.flatMap (encL v))=(encL v p).length:=by unfold nextN;rw[b3,a2];dsimp only;omega
  have hd:=dec_back hX.right hX.fit hX.lays hX.can
  have hE:nextE v m false (encL v p++L.flatMap (encL v))=0:=by
   rw[nextE_5 (h:=headB (encL v p)) b3 (b1.trans a1) (by rw[a2];dsimp only;omega) (by simp) (by rw[a2,List.length_append];dsimp only;omega),hN,List.take_left,hd.1]
  rw[List.length_append]at hn;obtain ⟨n,rfl⟩:∃ k,n=k+1:=⟨n - 1,by omega⟩
  rw[feedG_go hE,hN,List.take_left,List.drop_left,hd.2,feedG_all L n (fun q hq=>h q (by simp[hq])) (by omega)]
  rfl
theorem feedS_all {v m:Int} {L:List Pk} (h:∀ p∈L,Fx9 v p∧((encL v p).length:Int)≤m):feedS v m ⟨false,[],0⟩ (L.flatMap (encL v))=(L.map (fun p=>(p,encL v p)),⟨false,[],0⟩):=by
 have:=feedG_all L (L.flatMap (encL v)).length h (Nat.le_refl _)
 unfold feedS;rw[if_neg (by decide)];dsimp only [List.nil_append];rw[this]
 rfl
theorem feedS_e {v m:Int} {S:Fs} {b:List UInt8} (h:(feedS v m S b).2.e=0):S.e=0:=by
 unfold feedS at h
 split at h
 ·exact h
 ·rename_i q;exact Classical.byContradiction q
def QC (L:List (Pk × Sl)):List Value:=L.flatMap fun x=>x.1.li x.2
theorem QC_add (L:List (Pk × Sl)) (x:Pk × Sl):QC (L++[x])=QC L++x.1.li x.2:=by unfold QC;simp
structure PqX where
 l:List (Pk × Sl)
 a:Option Addr
 cp:Nat
 c:World
structure Qat (v:Int) (c:World) (x:Pk × Sl):Prop where
 h:x.1.At x.2 c
 n:x.2.ca=none→x.2.cc=0
 f:Fx9 v x.1
theorem Qat.le {v:Int} {c c':World} {x:Pk × Sl} (h:Qat v c x) (k:Le c c'):Qat v c' x:=⟨h.h.le k,h.n,h.f⟩
section
variable {c:World}
theorem tn_packets {v:Int} (hv:v=4∨v=5) {L:List (Pk × Sl)} {a:Option Addr} {n:Nat} (hr:Row c a (QC L)) (hL:∀ x∈L,x.1.At x.2 c∧Any x.1):Tn Tryz.prog 8 [.int .i64 v,.slice a L.length n] c (fun y:List (Pk × Sl) × Option Addr × Nat=>.slice y.2.1 y.1.length y.2.2) (fun y c'=>y.1.length≤8∧(∀ x∈y.1,Qat v c' x)∧Row c' y.2.1 (QC y.1)∧(y.2.1=none→y.2.2=0)):=by
 refine Tn.in Tryz.func8 ?_;refine go ?_;refine CG.nilr 39 25 ?_;refine vlo (fun y:PqX=>[(0,.int .i64 v),(1,.slice a L.length n),(5,.slice y.a y.l.length y.cp),(6,.int .i64 y.l.length)]) (fun y=>y.c) (fun _=>[]) (fun y=>[⟨39,25,.slice y.a y.l.length y.cp,y.l.length,QC y.l⟩]) (fun y=>Le c y.c∧y.l.length≤8∧y.l.length≤L.length∧∀ x∈y.l,Qat v y.c x) (fun y=>L.length - y.l.length) ⟨[],none,0,c⟩ ⟨Le.refl c,Nat.zero_le _,Nat.zero_le _,by simp⟩ fun y ⟨y1,y2,y3,y4⟩=>?_
 by_cases h:y.l.length < L.length∧y.l.length < 8
 ·obtain ⟨h1,h2⟩:=h
  obtain ⟨b5,o5,hR⟩:=Row.fm (f:=fun x:Pk × Sl=>x.1.li x.2) (k:=25) (hr.le y1) (fun x _=>rfl) (by decide) h1;obtain ⟨g1,g2⟩:=hL _ (List.getElem_mem h1);have t1:=tn_Fix7 (c:=y.c) hv _ _ (g1.le y1) g2;generalize L[y.l.length]=e at *;refine go ?_
  repeat' first|refine go ?_|refine vix ?_|refine vlr ?_|fail
  refine vtn t1 fun x c1 l1 ⟨k1,k2,Q,k3,k4⟩=>?_
  have f1:Fx9 v x.1:=k3▸fx9_of hv k4
  repeat' first|refine go ?_|refine vA fun b8=>?_|fail
  refine vgb fun a' cp'=>?_
  repeat' first|refine go ?_|fail
  have e1:y.l.length+1=(y.l++[x]).length:=by simp
  refine ved (vj (PqX.mk (y.l++[x]) a' cp' c1) ⟨y1.trans l1,?_,?_,?_⟩ (hμ:=?_) (hL:=?_) (hR:=?_))
  ·dsimp only;rw[← e1];omega
  ·dsimp only;rw[← e1];omega
  ·intro z hz
   rcases List.mem_append.1 hz with hz|hz
   ·exact (y4 z hz).le l1
   ·rw[List.mem_singleton.1 hz]
    exact ⟨k1,k2,f1⟩
  ·dsimp only;rw[← e1];omega
  ·dsimp only
   rw[← e1]
   repeat' (first|exact trivial|refine ⟨rfl,?_⟩)
  ·dsimp only
   rw[← e1,QC_add]
   rfl
 ·rcases Nat.lt_or_ge y.l.length L.length with h1|h1
  ·have h2:¬ y.l.length < 8:=fun q=>h ⟨h1,q⟩
   refine go ?_;refine vefz fun c4 l4 r4 n4 m4 x4=>?_
   exact vrn ((y.l,y.a,y.cp),c4) ⟨y1.trans l4,y2,fun x hx=>(y4 x hx).le l4,r4,n4⟩
  ·refine go ?_
   refine vefz fun c4 l4 r4 n4 m4 x4=>?_
   exact vrn ((y.l,y.a,y.cp),c4) ⟨y1.trans l4,y2,fun x hx=>(y4 x hx).le l4,r4,n4⟩
end
def EB (v:Int) (L:List (Pk × Sl)):List UInt8:=L.flatMap fun x=>encL v x.1
theorem EB_len {v:Int}:∀ (L:List (Pk × Sl)),(∀ x∈L,Fx9 v x.1)→(EB v L).length≤L.length * 12500
 | [],_=>Nat.zero_le _
 | x :: L,h=>by
  have h1:=(enc_len3 (h x (by simp))).2;have h2:=EB_len L fun y hy=>h y (by simp[hy])
  unfold EB at h2 ⊢;rw[List.flatMap_cons,List.length_append,List.length_cons];omega
theorem EB_step {v:Int} {L:List (Pk × Sl)} {i:Nat} (h:i < L.length):EB v (L.take (i+1))=EB v (L.take i)++encL v L[i].1:=by
 unfold EB;rw[List.take_add_one,List.getElem?_eq_getElem h,List.flatMap_append];simp
theorem EB_feed {v:Int} {L:List (Pk × Sl)} (h:∀ x∈L,Fx9 v x.1):feedS v 100000 ⟨false,[],0⟩ (EB v L)=(L.map (fun x=>(x.1,encL v x.1)),⟨false,[],0⟩):=by
 have h1:=feedS_all (v:=v) (m:=100000) (L:=L.map Prod.fst) fun p hp=>by
  obtain ⟨x,hx,rfl⟩:=List.mem_map.1 hp
  have:=(enc_len3 (h x hx)).2
  exact ⟨h x hx,by omega⟩
 rw[List.flatMap_map,List.map_map]at h1;exact h1
theorem gos {G G':Prop} (k:G') (h:Nx G'→G:=by
  intro k9
  repeat1' (first
   | refine vz ?_
   | refine vf ?_
   | refine vl ?_
   | refine vn ?_
   | refine vla ?_
   | refine vno ?_
   | refine vrg ?_
   | refine vct ?_
   | refine vcf ?_
   | refine vk ?_
   | refine ves ?_
   | refine vb ?_
   | refine vx ?_
   | refine vre ?_
   | refine ver ?_
   | refine vex ?_
   | refine veb ?_
   | refine vjr ?_
   | refine vjx ?_
   | refine vln ?_
   | refine vls ?_
   | refine vad ?_
   | refine vgT ?_
   | refine vgF ?_
   | refine vcT ?_
   | refine vcF ?_
   | refine vq ?_)
  exact k9.h):G:=h ⟨k⟩
structure RdyX where
 i:Nat
 a:Option Addr
 cp:Nat
 c:World
structure RcuX where
 had:List RIt
 ha:Option Addr
 hc:Nat
 fr:Nat
 i:Nat
 S:Fs
 fa:Option Addr
 fc:Nat
 c:World
section
variable {c:World}
theorem ck_PouchRound (hT:Tabs c) {v:Int} {al ac:Option Addr} {nl nc:Nat} {L0:List (Pk × Sl)} {ks:List Int} (hr:Row c al (QC L0)) (hL:∀ x∈L0,x.1.At x.2 c∧Any x.1) (hk:Row c ac (I64 ks)):Ck Tryz.prog 3 [.int .i64 v,.slice al L0.length nl,.slice ac ks.length nc] c (.bool true):=by
 have hV:4+v % 18446744073709551616 % 2=4∨4+v % 18446744073709551616 % 2=5:=by omega
 have cv:=ck_version (c:=c) v;generalize 4+v % 18446744073709551616 % 2=V at *;refine Ck.in Tryz.func3 ?_;refine go ?_;refine vtn (tn_packets hV hr hL) fun ⟨L,La,Lc⟩ c1 l1 ⟨p1,p2,p3,p4⟩=>?_
 dsimp only at p1 p2 p3 p4 ⊢;clear hr hL;have hT1:=hT.le l1;have hk1:=hk.le l1;clear hT hk;refine go ?_;refine CG.nilr 5 1 ?_;refine vlo (fun y:RdyX=>[(2,.slice ac ks.length nc),(7,.int .i64 V),(8,.slice La L.length Lc),(9,.slice y.a (EB V (L.take y.i)).length y.cp),(10,.int .i64 y.i)]) (fun y=>y.c) (fun _=>[]) (fun y=>[byR y.a y.cp (EB V (L.take y.i))]) (fun y=>Le c1 y.c∧y.i≤L.length) (fun y=>L.length - y.i) ⟨0,none,0,c1⟩ ⟨Le.refl _,Nat.zero_le _⟩ fun y ⟨y1,y2⟩=>?_
 rcases Nat.lt_or_ge y.i L.length with i1|i1
 ·obtain ⟨b5,o5,hR⟩:=Row.fm (f:=fun x:Pk × Sl=>x.1.li x.2) (k:=25) (p3.le y1) (fun x _=>rfl) (by decide) i1
  have hq:=(p2 _ (List.getElem_mem i1)).le y1;have e1:=EB_step (v:=V) i1;have e2:=EB_len (v:=V) (L.take (y.i+1)) fun x hx=>(p2 x (List.mem_of_mem_take hx)).f
  have e3:(L.take (y.i+1)).length=y.i+1:=by rw[List.length_take];omega
  have e4:=EB_len (v:=V) (L.take y.i) fun x hx=>(p2 x (List.mem_of_mem_take hx)).f
  have e5:(L.take y.i).length=y.i:=by rw[List.length_take];omega
  rw[e3]at e2;rw[e5]at e4;generalize L[y.i]=x at *;generalize EB V (L.take y.i)=E at *;refine go ?_
  repeat' first|refine go ?_|refine vix ?_|refine vlr ?_|fail
  refine vtn (tn_To7 x.1 x.2 hq.h hq.f.fit.few hq.n) fun st c2 l2 ⟨g4,g5⟩=>?_
  repeat' first|refine go ?_|fail
  have te:=tn_Encode ((hT1.le y1).le l2) V x.1 st g4 g5 hq.f.fit;rw[show eN V x.1=0 from if_pos hq.f.right]at te;refine vtn te fun z c3 l3 o3=>?_
  replace hR:=hR.le (l2.trans l3)
  repeat' first|refine go ?_|refine vix ?_|refine vlr ?_|fail
  refine vtn (tn_To7 x.1 x.2 (hq.h.le (l2.trans l3)) hq.f.fit.few hq.n) fun st2 c4 l4 ⟨g6,g7⟩=>?_
  have cz:=ck_Size (((hT1.le y1).le l2).le l3 |>.le l4) V x.1 st2 g6 hq.f.fit
  have hz:sizeN V x.1=(encL V x.1).length:=by
   obtain ⟨_,_,_,a4⟩:=enc_hd hq.f.right hq.f.fit;rw[a4];exact if_pos hq.f.right
  rw[hz]at cz
  repeat' first|refine go ?_|fail
  have hE:E.length+(encL V x.1).length=(EB V (L.take (y.i+1))).length:=by rw[e1,List.length_append]
  refine vgr (o3.row.le l4) o3.nil (B8_one _) (fun a' cp'=>?_) (hb:=by omega);rw[hE,← B8_append,← e1]
  repeat' first|refine go ?_|fail
  have r6:(y.i:Int)+1=((y.i+1:Nat):Int):=by omega
  rw[r6];exact vj (RdyX.mk (y.i+1) a' cp' c4) ⟨((y1.trans l2).trans l3).trans l4,i1⟩ (hμ:=by dsimp only;omega)
 have e1:L.take y.i=L:=List.take_of_length_le i1;rw[e1];have b1:=EB_len (v:=V) L fun x hx=>(p2 x hx).f
 have b2:=EB_feed (v:=V) (L:=L) fun x hx=>(p2 x hx).f
 have b3:(EB V L).length≤100000:=by omega
 generalize EB V L=bs at *;refine go ?_;refine vlf9 fun c2 l2 o2=>?_
 have h1:=o2.row;have h2:=o2.nil;have h3:=o2.le;refine vta (M1:=[]) (R1:=[]) (tr_New (v:=V) (m:=100000) (fst:=false) hV (by decide)) fun g _=>?_
 refine go ?_;refine vpz ?_;refine go ?_;refine vtn (tn_alive ((hT1.le y1).le l2)) fun _ c0 l0 _=>?_
 refine gob ?_;have hy0:=(y1.trans l2).trans l0;have hT2:=hT1.le hy0;have hk2:=hk1.le hy0;have p5:∀ x∈L,Qat V c0 x:=fun x hx=>(p2 x hx).le hy0
 have p6:=p3.le hy0;replace h1:=h1.le l0;generalize y.a=ba at *;generalize y.cp=bc at *;clear o2 l2 l0 hy0 hT1 hk1 p2 p3 y1 y2 e1 i1;refine CG.nilr 56 26 ?_;refine CG.permr ?_ (List.Perm.swap _ _ _)
 refine vck (fun y:RcuX=>[(7,.int .i64 V),(8,.slice La L.length Lc),(13,pt g),(15,.slice y.ha y.had.length y.hc)]) (fun y=>y.c) (fun y=>[frB g V 100000 false (.slice y.fa 0 y.fc) 0]) (fun y=>[byR y.fa y.fc [],⟨56,26,.slice y.ha y.had.length y.hc,y.had.length,RC y.had⟩]) (fun y=>Le c0 y.c∧y.had.map RIt.pb=L.map (fun x=>(x.1,encL V x.1))∧(∀ q∈y.had,q.At y.c∧q.p.few)) ?_ fun y ⟨y1,y2,y3⟩=>?_
 ·refine go ?_
  refine vlo (fun y:RcuX=>[(2,.slice ac ks.length nc),(7,.int .i64 V),(8,.slice La L.length Lc),(9,.slice ba bs.length bc),(13,pt g),(15,.slice y.ha y.had.length y.hc),(16,.int .i64 y.fr),(17,.int .i64 y.i)]) (fun y=>y.c) (fun y=>[frB g V 100000 y.S.fst (.slice y.fa y.S.h.length y.fc) y.S.e]) (fun y=>[byR y.fa y.fc y.S.h,⟨56,26,.slice y.ha y.had.length y.hc,y.had.length,RC y.had⟩]) (fun y=>Le c0 y.c∧feedS V 100000 ⟨false,[],0⟩ (bs.take y.fr)=(y.had.map RIt.pb,y.S)∧(∀ q∈y.had,q.At y.c∧q.p.few)∧y.fr≤bs.length∧((y.i≤ks.length∧y.i < 40)∨y.fr=bs.length)) (fun y=>41 - y.i) ⟨[],none,0,0,0,⟨false,[],0⟩,none,0,c0⟩ ⟨Le.refl c0,feedS_nil0 V 100000 false,by simp,Nat.zero_le _,.inl ⟨Nat.zero_le _,Nat.succ_pos 39⟩⟩ fun y ⟨y1,y2,y3,y4,y5⟩=>?_
  have q1:=feedS_len V 100000 ⟨false,[],0⟩ (bs.take y.fr);have q2:=feedS_hold V 100000 ⟨false,[],0⟩ (bs.take y.fr);rw[y2,List.length_take,List.length_map]at q1;rw[y2,List.length_take]at q2;dsimp only [List.length_nil]at q1 q2;have hT3:=hT2.le y1
  by_cases hi:y.i≤ks.length∧y.i < 40
  ·obtain ⟨i1,i2⟩:=hi
   refine vs ?_;refine vs ?_;refine gos ?_;refine vs ?_;refine gos ?_;refine vs ?_;refine gos ?_;refine vs ?_;refine vck (fun u9:Nat=>[(2,.slice ac ks.length nc),(7,.int .i64 V),(8,.slice La L.length Lc),(9,.slice ba bs.length bc),(13,pt g),(15,.slice y.ha y.had.length y.hc),(16,.int .i64 y.fr),(17,.int .i64 y.i),(18,.int .i64 u9)]) (fun _=>y.c) (fun _=>[frB g V 100000 y.S.fst (.slice y.fa y.S.h.length y.fc) y.S.e]) (fun _=>[byR y.fa y.fc y.S.h,⟨56,26,.slice y.ha y.had.length y.hc,y.had.length,RC y.had⟩]) (fun u9=>y.fr≤u9∧u9≤bs.length∧((y.i < ks.length∧y.i < 39)∨u9=bs.length)) ?_ fun u9 ⟨t1,t2,t3⟩=>?_
   ·by_cases hj:y.i < ks.length∧y.i < 39
    ·obtain ⟨j1,j2⟩:=hj
     obtain ⟨b5,o5,hR⟩:=Row.fm (f:=fun k=>[Value.int .i64 k]) (k:=1) (hk2.le y1) (fun x _=>rfl) (by decide) j1;have t1:0≤ks[y.i] % 18446744073709551616 % ((bs.length:Int) - (y.fr:Int)+1):=Int.emod_nonneg _ (by omega);have t2:ks[y.i] % 18446744073709551616 % ((bs.length:Int) - (y.fr:Int)+1) < (bs.length:Int) - (y.fr:Int)+1:=Int.emod_lt_of_pos _ (by omega);refine go ?_;generalize ks[y.i] % 18446744073709551616 % ((bs.length:Int) - (y.fr:Int)+1)=t at *;obtain ⟨t,rfl⟩:=Int.eq_ofNat_of_zero_le t1;have r6:((y.fr:Int)+(t:Int))=((y.fr+t:Nat):Int):=by omega
     rw[r6];exact vj (y.fr+t) ⟨by omega,by omega,.inl ⟨j1,j2⟩⟩
    ·rcases Nat.lt_or_ge y.i ks.length with j1|j1
     ·have j2:¬ y.i < 39:=fun q=>hj ⟨j1,q⟩
      refine go ?_;exact vj bs.length ⟨y4,Nat.le_refl _,.inr rfl⟩
     ·refine go ?_
      exact vj bs.length ⟨y4,Nat.le_refl _,.inr rfl⟩
   ·refine go ?_
    refine vsl (hr:=h1.le y1) fun a2 e1 e2=>?_
    have r1:((u9:Int)).toNat - ((y.fr:Int)).toNat=u9 - y.fr:=by omega
    have r2:((y.fr:Int)).toNat=y.fr:=by omega
    rw[r1,r2]at e1;rw[r2]at e2;have r3:u9 - y.fr=((bs.drop y.fr).take (u9 - y.fr)).length:=by rw[List.length_take,List.length_drop];omega
    refine vle (v':=.slice a2 ((bs.drop y.fr).take (u9 - y.fr)).length (bc - y.fr)) (by rw[← r3,r1,r2]) ?_;have z2:bs.take y.fr++(bs.drop y.fr).take (u9 - y.fr)=bs.take u9:=by rw[← List.take_add];congr 1;omega
    have z4:=feedS_app V 100000 ⟨false,[],0⟩ (bs.take u9) (bs.drop u9);rw[List.take_append_drop,b2]at z4;have z5:(feedS V 100000 ⟨false,[],0⟩ (bs.take u9)).2.e=0:=feedS_e (v:=V) (m:=100000) (b:=bs.drop u9) (by rw[← congrArg Prod.snd z4]);generalize (bs.drop y.fr).take (u9 - y.fr)=bd at *;have f1:=tr_Feed (S:=y.S) (v:=V) (m:=100000) (g:=g) (a:=y.fa) (cp:=y.fc) hT3 e1 e2 (by rw[← r3];omega);have z1:=feedS_app V 100000 ⟨false,[],0⟩ (bs.take y.fr) bd;rw[y2,z2]at z1;dsimp only at z1;have w1:=feedS_few (v:=V) (m:=100000) (S:=y.S) (b:=bd) (by rw[← r3];omega);have w2:=feedS_len V 100000 y.S bd;have z6:(feedS V 100000 y.S bd).2.e=0:=by rw[z1]at z5;exact z5
    generalize hS2:feedS V 100000 y.S bd=S2 at *;refine vt11 f1 fun x2 ⟨m1,m2,m3,m4,m5⟩=>?_
    rw[z6];have w3:x2.L.length=S2.1.length:=by rw[← m2,List.length_map]
    refine go ?_;refine vtn (tn_From10 m4 (fun t ht=>⟨m3 t ht,w1 _ (by rw[← m2];exact List.mem_map_of_mem ht)⟩) (by omega)) fun x3 c4 a1 ⟨a2',a3,a4⟩=>?_
    have w4:x3.1.length=S2.1.length:=by rw[← w3];simpa using congrArg List.length a2'
    refine LG.permr ?_ (List.Perm.swap _ _ _)
    refine vgr a4.row a4.nil (RC_oneF _) (fun ha' hc'=>?_) (hl:=RC_lenF _) (hb:=by omega);have r4:y.had.length+x3.1.length=(y.had++x3.1).length:=by rw[List.length_append]
    have r5:RC y.had++RC x3.1=RC (y.had++x3.1):=by unfold RC;rw[List.flatMap_append]
    rw[r4,r5];have u1:(y.had++x3.1).map RIt.pb=y.had.map RIt.pb++S2.1:=by rw[List.map_append,a2',m2]
    have u2:∀ t∈y.had++x3.1,t.At c4∧t.p.few:=by
     intro t ht;rcases List.mem_append.1 ht with ht|ht
     ·exact ⟨(y3 t ht).1.le (m1.trans a1),(y3 t ht).2⟩
     ·refine ⟨a3 t ht,?_⟩
      have:t.pb∈S2.1:=by rw[← m2,← a2'];exact List.mem_map_of_mem ht
      exact w1 _ this
    generalize y.had++x3.1=hd at *;refine go ?_;refine EG.permr ?_ (List.Perm.swap _ _ _)
    have r6:(y.i:Int)+1=((y.i+1:Nat):Int):=by omega
    rw[r6];exact vj (RcuX.mk hd ha' hc' u9 (y.i+1) S2.2 x2.a x2.cp c4) ⟨(y1.trans m1).trans a1,by rw[z1,u1],u2,t2,by dsimp only;omega⟩ (hμ:=by dsimp only;omega) (hM:=by dsimp only;rw[z6])
  ·have e1:y.fr=bs.length:=by omega
   have e2:bs.take y.fr=bs:=by rw[e1,List.take_length]
   rw[e2,b2]at y2;have e3:y.S=⟨false,[],0⟩:=(congrArg Prod.snd y2).symm;have e4:y.had.map RIt.pb=L.map (fun x=>(x.1,encL V x.1)):=(congrArg Prod.fst y2).symm;rcases Nat.lt_or_ge ks.length y.i with i1|i1
   ·have i2:¬ y.i≤ks.length:=by omega
    refine go ?_;exact vj y ⟨y1,e4,y3⟩ (hM:=by rw[e3];try rfl) (hR:=by rw[e3];try rfl)
   ·have i2:¬ y.i < 40:=fun q=>hi ⟨i1,q⟩
    refine go ?_;exact vj y ⟨y1,e4,y3⟩ (hM:=by rw[e3];try rfl) (hR:=by rw[e3];try rfl)
 have hl:y.had.length=L.length:=by simpa using congrArg List.length y2
 rw[hl];refine go ?_;refine vt1a tr_Held fun _ _=>?_
 refine go ?_;refine CG.dropr ?_;refine vcf9 fun c5 l5 o5=>?_
 have k1:=o5.row;have hy:=y1.trans l5;refine vlo (fun z:Nat × World=>[(7,.int .i64 V),(8,.slice La L.length Lc),(15,.slice y.ha L.length y.hc),(21,.int .i64 z.1)]) (fun z=>z.2) (fun _=>[frB g V 100000 false (.slice y.fa 0 y.fc) 0]) (fun _=>[]) (fun z=>Le c5 z.2∧z.1≤L.length) (fun z=>L.length - z.1) (0,c5) ⟨Le.refl _,Nat.zero_le _⟩ fun ⟨i,c6⟩ ⟨l6,i6⟩=>?_
 dsimp only at l6 i6 ⊢;rcases Nat.lt_or_ge i L.length with i1|i1
 ·have i2:i < y.had.length:=by omega
  obtain ⟨b5,f5,hR⟩:=Row.fm (f:=fun x:Pk × Sl=>x.1.li x.2) (k:=25) (p6.le (hy.trans l6)) (fun x _=>rfl) (by decide) i1;obtain ⟨b6,f6,hR2⟩:=Row.fm (f:=RIt.li) (k:=26) (k1.le l6) (fun x _=>rfl) (by decide) i2;have hq:=(p5 _ (List.getElem_mem i1)).le (hy.trans l6);obtain ⟨g1,g2⟩:=y3 _ (List.getElem_mem i2);replace g1:=g1.le (l5.trans l6)
  have e1:y.had[i].pb=(L[i].1,encL V L[i].1):=by
   have:=congrArg (fun l=>l[i]?) y2
   simpa [i1,i2] using this
  generalize L[i]=x at *;generalize y.had[i]=t at *;obtain ⟨tp,ts,tb⟩:=t;obtain ⟨rfl,rfl⟩:tp=x.1∧tb=encL V x.1:=by simpa using e1
  have hf:=hq.f.fine;have hn:=enc_len3 hq.f;refine go ?_
  repeat' first|refine go ?_|refine vix ?_|refine vlr ?_|fail
  refine vtn (tn_rEncode (v:=V) x.1 x.2 hq.h hq.n hq.f.fit hq.f.right hq.f.lays (by have:=hf.np;omega) (by have:=hf.nw;omega) (by omega)) fun z c7 l7 o7=>?_
  repeat' first|refine go ?_|fail
  have cs:=ck_rSame (c:=c7) x.1 x.1 ts x.2 (g1.p.le l7) (hq.h.le l7) hq.f.fit.few hq.f.fit.few g1.n hq.n;rw[decide_eq_true rfl]at cs;replace hR:=hR.le l7;replace hR2:=hR2.le l7;have o1:=o7.row;have o2:=o7.nil;refine vh [] ?_
  repeat' first|refine vqy 0 ?_|refine vqkk cs ?_|refine vqgF (b:=!true) ?_ (hp:=rfl)|fail
  refine vqx 0 ?_ rfl rfl rfl (qh_q (qbs rfl rfl rfl rfl o1 rfl o2))
  repeat' first|refine vqx 0 ?_|fail
  refine go ?_;refine vc (fun q=>absurd rfl q) fun _=>?_
  refine go ?_;have r6:(i:Int)+1=((i+1:Nat):Int):=by omega
  rw[r6];exact vj (i+1,c7) ⟨l6.trans l7,i1⟩ (hμ:=by dsimp only;omega)
 ·refine go ?_
  exact vrb rfl
end
theorem pouchRound_full (v:Int) (a1:Option Addr) (len1 cap1:Nat) (z1:List (Pk × Sl)) (a2:Option Addr) (len2 cap2:Nat) (z2:List Int) (w:World) (w0:(Lit.int .i64 v).wf=true) (w1:IsPks w a1 len1 cap1 z1) (w2:IsRow .i64 w a2 len2 cap2 z2) (hT:Tabs w) :
  Calls Tryz.prog 3 #[.int .i64 v,.slice a1 len1 cap1,.slice a2 len2 cap2] w fun e w'=>e=.returned (.bool true)∧Below w.heap.size w w':=by
 obtain ⟨rfl,hr,_,_,he⟩:=w1;obtain ⟨hrow2,hlen2,_,_,_,_⟩:=w2.row
 have e2:ints .i64 (z2.take len2)=I64 (z2.take len2):=by
  unfold ints I64
  induction z2.take len2 with
  | nil=>rfl
  | cons x l ih=>rw[List.map_cons,List.flatMap_cons,ih];rfl
 rw[e2]at hrow2;have h:=(ck_PouchRound (c:=w) hT (v:=v) (nl:=cap1) (nc:=cap2) (L0:=z1) hr (fun x hx=>⟨⟨(he x hx).1.hw.hrow,(he x hx).1.hf.hrow,(he x hx).1.hc.hrow,(he x hx).1.hp.hrow⟩,⟨(he x hx).2,(he x hx).1.hqos,(he x hx).1.hid,(he x hx).1.hkeep,(he x hx).1.hwillQoS,(he x hx).1.hcode,fun f hf=>((he x hx).1.hf.hwf f hf).2,fun y hy=>⟨((he x hx).1.hp.hwf y hy).1,((he x hx).1.hp.hwf y hy).2.1⟩,fun y hy=>⟨((he x hx).1.hw.hwf y hy).1,((he x hx).1.hw.hwf y hy).2.1⟩⟩⟩) hrow2).h w (Le.refl w);rw[hlen2]at h;exact h.mono fun e w' h=>⟨h.1,h.2.below (Nat.le_refl _) (fun _ _=>id)⟩
end Go.Proofs.YtohmcfmcbibbcaaGreatDoor
