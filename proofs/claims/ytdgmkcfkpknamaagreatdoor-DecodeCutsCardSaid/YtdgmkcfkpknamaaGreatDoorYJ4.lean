import Derived.Test.YtdgmkcfkpknamaaGreatDoorYJ1
import Derived.Test.YtdgmkcfkpknamaaGreatDoorYJ2
import Derived.Test.YtdgmkcfkpknamaaGreatDoorYI2
import Derived.Test.YtdgmkcfkpknamaaGreatDoorYJ3
import Derived.Test.YtdgmkcfkpknamaaGreatDoorYH9
import Derived.Test.YtdgmkcfkpknamaaGreatDoorYI6
import Derived.Test.YtdgmkcfkpknamaaGreatDoorYJ6
namespace Go.Proofs.YtdgmkcfkpknamaaGreatDoor
open Go.RowKit
set_option linter.unusedVariables false
set_option linter.unusedSimpArgs false
set_option maxRecDepth 100000
theorem szP_small {x:Pr} (h:x.a.size≤300∧x.b.size≤300):x.size≤609:=by
 unfold Pr.size szP
 have:=varL_le x.n
 repeat' split
 all_goals omega
theorem lenGo_small:∀ (L:List Pr) (m n:Nat),lenGo L m=some n→(∀ x∈L,x.a.size≤300∧x.b.size≤300)→n≤m+L.length * 609:=by
 intro L
 induction L with
 | nil=>intro m n h _;simp[lenGo]at h;simp;omega
 | cons p L ih =>
  intro m n h hx;simp only[lenGo]at h;have h1:=szP_small (hx p (List.mem_cons_self ..));simp only[List.length_cons]
  split at h
  ·split at h
   ·have:=ih _ _ h (fun x hx'=>hx x (List.mem_cons_of_mem _ hx'));omega
   ·cases h
  ·cases h
theorem secN_small {v:Int} {L:List Pr} (h:∀ x∈L,x.a.size≤300∧x.b.size≤300) (hl:L.length≤30):secN v L≤18280:=by
 unfold secN sizeR
 split
 ·omega
 ·split
  ·rename_i n hn
   have h1:=lenGo_small L 0 n hn h;have h4:=varL_le n;omega
  ·omega
theorem filtersN_small (k:Int):∀ (L:List Fi),(∀ f∈L,f.text.size≤300)→filtersN k L≤L.length * 303
 | [],_=>by simp[filtersN]
 | f :: L,h=>by
  have h1:=filtersN_small k L (fun g hg=>h g (List.mem_cons_of_mem _ hg));have h2:=h f (List.mem_cons_self ..);simp only[filtersN,List.length_cons]
  split<;>omega
theorem restN_small {v:Int} {p:Pk} (h:Small p):restN v p≤268435455:=by
 have h1:=secN_small (v:=v) h.tp h.np;have h2:=secN_small (v:=v) h.tw h.nw;have h3:=filtersN_small p.kind p.filters h.tf;have h4:=h.nf;have h5:=h.sum;have h6:shortN v p≤18281:=by unfold shortN;(repeat' split)<;>omega
 have h7:connectN v p≤100000:=by unfold connectN;(repeat' split)<;>omega
 unfold restN
 repeat' split
 all_goals omega
theorem Fine.small {m:Nat} {p:Pk} (h:Fine m p) (hm:m≤60):Small p:=by
 have h1:=h.client;have h2:=h.willTopic;have h3:=h.willLoad;have h4:=h.user;have h5:=h.pass;have h6:=h.topic;have h7:=h.load;have h8:=h.codes;have h9:=h.nf;have h10:=h.np;have h11:=h.nw;exact ⟨by omega,by omega,by omega,by omega,fun f hf=>by have:=(h.tf f hf).2;omega,fun x hx=>⟨by have:=(h.tp x hx).2.2.1;omega,by have:=(h.tp x hx).2.2.2;omega⟩,fun x hx=>⟨by have:=(h.tw x hx).2.2.1;omega,by have:=(h.tw x hx).2.2.2;omega⟩⟩
theorem FixQ.fineQ {v:Int} {q:Pk} (h:FixQ v q):Fine 40 q :=
 ⟨h.sc,h.wts,h.sw,h.su,h.spl,h.tops,h.sl,by have:=h.cl;omega,by have:=h.fl2;omega,h.prn,h.wprn,fun f hf=>⟨(h.fl f hf).2.1,by have:=(h.fl f hf).2.2;omega⟩,h.prs,h.wprs,by have:=h.qos;omega,h.id,h.keep,by have:=h.wq;omega,h.codel⟩
theorem Fine.bare {m:Nat} {q:Pk} (h:Fine m q):Fine m (bareP q):=by
 have e0:(0:Nat)≤m:=Nat.zero_le _;have es:∀ (b:Bool) (s:ByteArray),s.size≤m→(if b then s else ⟨#[]⟩:ByteArray).size≤m:=fun b s hs=>by cases b;exact e0;exact hs
 have ez:(⟨#[]⟩:ByteArray).size≤m:=e0;have en:∀ (b:Bool) (k n:Nat),k < n→0 < n→(if b then k else 0) < n:=fun b k n hk hn=>by cases b;exact hn;exact hk
 have ew:∀ (b:Bool),(if b then q.willProps else []).length≤10:=fun b=>by cases b;exact Nat.zero_le _;exact h.nw
 have ex:∀ (b:Bool),∀ x∈(if b then q.willProps else []),x.id < 256∧x.n < 4294967296∧x.a.size≤32∧x.b.size≤32:=fun b=>by cases b;(intro x hx;cases hx);exact h.tw
 have en2:∀ {α:Type},([]:List α).length≤10:=fun {α}=>Nat.zero_le _
 have em:∀ {α:Type},([]:List α).length≤m:=fun {α}=>Nat.zero_le _
 unfold bareP
 split
 ·exact ⟨h.client,es _ _ h.willTopic,es _ _ h.willLoad,es _ _ h.user,es _ _ h.pass,ez,ez,em,en2,h.np,ew _,(fun f hf=>by cases hf),h.tp,ex _,(show 0 < 256 by decide),(show 0 < 65536 by decide),h.keep,en _ _ _ h.wq (by decide),(show 0 < 256 by decide)⟩
 all_goals (repeat' split)
 all_goals (refine ⟨?_,?_,?_,?_,?_,?_,?_,?_,?_,?_,?_,?_,?_,?_,?_,?_,?_,?_,?_⟩<;>first|exact ez|exact h.topic|exact h.load|exact em|exact h.codes|exact en2|exact h.nf|exact h.np|exact h.tf|exact h.tp|exact h.qos|exact h.id|exact h.code|exact (by decide:0 < 256)|exact (by decide:0 < 65536)|(intro x hx;cases hx))
theorem chk_ok9:∀ (L:List Pr) {k:Int} (q:Option Nat),chkGo k q L=true→∀ x∈L,x.ok=true
 | [],_,_,_=>by simp
 | p :: t,k,q,h=>by
  unfold chkGo at h;simp only[Bool.and_eq_true]at h;intro x hx;rcases List.mem_cons.1 hx with rfl|hx
  ·have:=h.1;unfold valueB at this;simp only[Bool.and_eq_true]at this;exact this.1
  ·exact chk_ok9 t _ h.2.2.2 x hx
theorem check_ok9 {k:Int} {L:List Pr} (h:checkB k L=true):∀ p∈L,p.ok=true:=by
 unfold checkB at h;simp only[Bool.and_eq_true]at h;exact chk_ok9 L none h.2.1
theorem small_lay9:∀ (L:List Pr),(∀ p∈L,p.wf')→(∀ p∈L,p.ok=true)→(∀ x∈L,x.a.size≤300∧x.b.size≤300)→(layAll L).length≤L.length * 609
 | [],_,_,_=>by simp[layAll]
 | p :: t,hw,hk,hs=>by
  have hl:p.lay.length=p.size:=layP_len (Pr.fits (hw p (by simp)) (hk p (by simp)));have h1:=szP_small (hs p (by simp));have h2:=small_lay9 t (fun q hq=>hw q (List.mem_cons_of_mem _ hq)) (fun q hq=>hk q (List.mem_cons_of_mem _ hq)) (fun q hq=>hs q (List.mem_cons_of_mem _ hq));rw[show layAll (p :: t)=p.lay++layAll t from rfl,List.length_append,hl,List.length_cons];omega
theorem len_of9 {k:Int} {L:List Pr} (hc:checkB k L=true) (hn:L.length≤10) (hs:∀ x∈L,x.id < 256∧x.n < 4294967296∧x.a.size≤32∧x.b.size≤32):∃ n,lenGo L 0=some n:=by
 have hw:∀ p∈L,p.wf':=fun p hp=>by
  have:=hs p hp
  exact ⟨this.1,this.2.1,by omega,by omega⟩
 have hk:=check_ok9 hc;have h1:=small_lay9 L hw hk (fun x hx=>by have:=hs x hx;omega);exact ⟨_,lenGo_all L 0 hw hk (by omega)⟩
theorem bare_pr (p:Pk):((bareP p).props=p.props∨(bareP p).props=[])∧((bareP p).willProps=p.willProps∨(bareP p).willProps=[]):=by
 unfold bareP
 repeat' split
 all_goals first|exact ⟨.inl rfl,.inr rfl⟩|exact ⟨.inr rfl,.inr rfl⟩|(cases h:p.hasWill<;>simp[zk])
theorem fix_lays {v:Int} {Q:Pk} (h:FixQ v Q):Lays9 v (bareP Q)∧canon (bareP Q)=bareP Q:=by
 obtain ⟨b1,b2⟩:=bare_pr Q
 have e1:∃ n,lenGo (bareP Q).props 0=some n:=by
  rcases b1 with b|b<;>rw[b]
  ·exact len_of9 h.pr h.prn h.prs
  ·exact ⟨_,rfl⟩
 have e2:∃ n,lenGo (bareP Q).willProps 0=some n:=by
  rcases b2 with b|b<;>rw[b]
  ·exact len_of9 h.wpr h.wprn h.wprs
  ·exact ⟨_,rfl⟩
 refine ⟨⟨.inr e1,.inr e2,fun h4=>?_,fun h4=>?_⟩,?_⟩
 ·rcases b1 with b|b<;>rw[b]
  exact (h.pr4 h4).1
 ·rcases b2 with b|b<;>rw[b]
  exact (h.pr4 h4).2
 ·have c1:sortL (bareP Q).props=(bareP Q).props:=by
   rcases b1 with b|b<;>rw[b]
   ·exact sortL_of h.srt
   ·exact sortL_of List.Pairwise.nil
  have c2:sortL (bareP Q).willProps=(bareP Q).willProps:=by
   rcases b2 with b|b<;>rw[b]
   ·exact sortL_of h.wsrt
   ·exact sortL_of List.Pairwise.nil
  unfold canon;rw[c1,c2]
theorem restN_50 {v:Int} {p:Pk} (h:Small p):restN v p≤50000:=by
 have h1:=secN_small (v:=v) h.tp h.np;have h2:=secN_small (v:=v) h.tw h.nw;have h3:=filtersN_small p.kind p.filters h.tf;have h4:=h.nf;have h5:=h.sum;have h6:shortN v p≤18281:=by unfold shortN;(repeat' split)<;>omega
 have h7:connectN v p≤50000:=by unfold connectN;(repeat' split)<;>omega
 unfold restN
 repeat' split
 all_goals omega
theorem fx9_of {v:Int} {Q:Pk} (hv:v=4∨v=5) (hQ:FixQ v Q):Fx9 v (bareP Q):=by
 have hF:=hQ.fineQ.bare;obtain ⟨hL,hC⟩:=fix_lays hQ;exact ⟨hF,by rw[right_eq v _ (hF.fit (by decide)).opt (restN_small (hF.small (by decide)))];exact hQ.right hv,hL,hC⟩
theorem enc_len9 {v:Int} {q:Pk} (h:Fx9 v q):2≤(encL v q).length∧(encL v q).length≤90000:=by
 obtain ⟨_,_,_,a4⟩:=enc_hd h.right h.fit;have h1:=restN_50 (v:=v) (h.fine.small (by decide));have h2:=varL_le (restN v q);have h3:=varL_pos (n:=restN v q) (by omega);omega
set_option maxHeartbeats 8000000
section
variable {c:World}
theorem tn_to6 {a:Option Addr} {n:Nat} {L:List Pr} (hr:Row c a (PC L)) (hl:L.length≤100000):Tn Tryz.prog 51 [.slice a L.length n] c (fun x:Option Addr × Nat=>.slice x.1 L.length x.2) (fun x c'=>Own9 c' 158 x.1 L.length x.2 (PC L)) :=
 Tn.own (k:=4) Tryz.func51 fun w k=>tolist_any a n L w (hr.le k) hl
theorem tn_To7 (p:Pk) (s:Sl) (hp:p.At s c) (hF:p.few) (hs:s.ca=none→s.cc=0):Tn Tryz.prog 14 [p.val s] c (fun x:Sl=>p.val x) (fun x c'=>p.At x c'∧(x.ca=none→x.cc=0)):=by
 have h1:=hF.hf;have h2:=hF.hc;have h3:=hF.hp;have h4:=hF.hw;refine Tn.in Tryz.func14 ?_;refine go ?_;refine vA fun b1=>?_
 refine vA fun b2=>?_
 refine go ?_;refine vck (fun x:F7=>[(1,pt b1),(2,pt b2),(3,pt x.b)]) (fun x=>x.c) (fun x=>[⟨x.b,36,({ p with filters:=[] }:Pk).li x.s⟩,⟨b2,36,(zk 0).li sl0⟩,⟨b1,27,p.li s⟩]) (fun _=>[]) (fun x=>Le c x.c∧({ p with filters:=[] }:Pk).At x.s x.c∧(x.s.ca=none→x.s.cc=0)∧x.s.fa=none∧x.s.fc=0) ?_ fun ⟨xb,⟨wa,wc,fa,fc,ca,cc,pa,pc⟩,xc⟩ ⟨x1,x2,x3,x4,x5⟩=>?_
 ·refine vh [1] ?_
  refine go ?_
  repeat' first
   | refine go ?_
   | refine vqbu 0 ?_
   | refine vqp3 ?_ ?_ ?_
   | refine vqp2 ?_ ?_
   | refine vimt 5 fun a3 c3=>?_
   | refine viA fun b3=>?_
   | refine vitn (tn_to6 hp.hw h4) fun xw cw lw ow=>?_
   | refine vigr (hp.hc.le lw) hs (B8_one _) fun a4 c4=>?_
   | refine vitn (tn_to6 (hp.hp.le lw) h3) fun xp cp lp op=>?_
   | refine vqmt 5 fun a3 c3=>?_
   | refine vqA fun b3=>?_
   | refine vqtn (tn_to6 hp.hw h4) fun xw cw lw ow=>?_
   | refine vqgr (hp.hc.le lw) hs (B8_one _) fun a4 c4=>?_
   | refine vqtn (tn_to6 (hp.hp.le lw) h3) fun xp cp lp op=>?_
   | fail
  all_goals
   rw[Nat.zero_add p.codes.length,List.nil_append];refine vef9 fun c5 l5 o5=>?_
   exact vj (F7.mk b3 ⟨xw.1,xw.2,none,0,a4,c4,xp.1,xp.2⟩ c5) ⟨(lw.trans lp).trans l5,⟨ow.row.le (lp.trans l5),.nil _ _,o5.row,op.row.le l5⟩,o5.nil,rfl,rfl⟩
 ·dsimp only at x1 x2 x3 x4 x5
  subst x4 x5;refine go ?_;refine CG.nilr 105 2 ?_;refine vlo (fun y:F7f=>[(1,pt b1),(2,pt b2),(3,pt xb),(4,.int .i64 y.l.length)]) (fun _=>xc) (fun y=>[⟨xb,36,({ p with filters:=y.l }:Pk).li ⟨wa,wc,y.fa,y.fc,ca,cc,pa,pc⟩⟩,⟨b2,36,(zk 0).li sl0⟩,⟨b1,27,p.li s⟩]) (fun y=>[⟨105,2,.slice y.fa y.l.length y.fc,y.l.length,FC y.l⟩]) (fun y=>y.l=p.filters.take y.l.length∧y.l.length≤p.filters.length) (fun y=>p.filters.length - y.l.length) ⟨[],none,0⟩ ⟨rfl,Nat.zero_le _⟩ fun y ⟨g1,g2⟩=>?_
  rcases Nat.lt_or_ge y.l.length p.filters.length with h|h
  ·obtain ⟨b5,o5,hR⟩:=(hp.hf.le x1).fi h
   refine go ?_;refine vh [2] ?_;refine go ?_;refine vqy 1 ?_;refine vqy 1 ?_;refine vqy 1 ?_;refine vqy 1 ?_;refine vqy 1 ?_;refine vqy 1 ?_;refine vqy 1 ?_;refine vqy 1 ?_;refine vqy 1 ?_;refine vqy 1 ?_;refine vqy 1 ?_;refine vqy 1 ?_;refine vqbu 1 ?_;refine vq2 (i:=1) (j:=15) (vilm ?_) (viA fun b6=>?_)
   case' refine_1=>refine vqA fun b6=>?_
   case' refine_2=>refine vqlm ?_
   all_goals
    refine vqgb fun fa' fc'=>?_
    refine go ?_;refine ved ?_;have e1:y.l.length+1=(y.l++[p.filters[y.l.length]]).length:=by simp
    have e2:FC y.l++[.string p.filters[y.l.length].text,.int .u8 p.filters[y.l.length].opt]=FC (y.l++[p.filters[y.l.length]]):=by rw[FC_append,FC_one];rfl
    rw[e1,e2];refine vj (F7f.mk (y.l++[p.filters[y.l.length]]) fa' fc') ⟨?_,?_⟩ (hμ:=?_) (hL:=?_)
    ·dsimp only
     rw[← e1,List.take_add_one,← g1,List.getElem?_eq_getElem h]
     rfl
    ·dsimp only;omega
    ·dsimp only;omega
    ·refine ⟨rfl,rfl,rfl,?_,trivial⟩
     dsimp only;rw[← e1]
     rfl
  ·refine go ?_
   have e:y.l=p.filters:=by rw[g1,List.take_of_length_le h]
   obtain ⟨l,fa9,fc9⟩:=y;dsimp only at e;subst e;refine vef9 fun c5 l5 o5=>?_
   exact vrn (⟨wa,wc,fa9,fc9,ca,cc,pa,pc⟩,c5) ⟨x1.trans l5,⟨x2.hw.le l5,o5.row,x2.hc.le l5,x2.hp.le l5⟩,x3⟩
end
def dq9:Pk:={ zk 4 with id:=7 }
theorem fe1:decP 4 [64,2,0,7]=dq9∧decE 4 [64,2,0,7]=0:=by constructor<;>kernel_rfl
theorem fe2:decP 5 [64,3,0,7,0]=dq9∧decE 5 [64,3,0,7,0]=0:=by constructor<;>kernel_rfl
theorem fe3:decE 4 [64,3,0,7,0]=3:=by kernel_rfl
theorem fe4:decE 4 [64,2,0,0]=4:=by kernel_rfl
section
variable {c:World}
theorem ck_told9 (hT:Tabs c):Ck Tryz.prog 16 [] c (.bool true):=by
 refine Ck.in Tryz.func16 ?_;refine go ?_;refine vbc [64,2,0,7] fun c1 b1 l1 r1=>?_
 have d1:=tn_Decode (v:=4) (n:=4) (hT.le l1) r1 (fun h=>by cases h) (by decide) (by decide) (fun _=>(ok9_form (by decide)).fit);rw[fe1.1,fe1.2]at d1;refine vtn d1 fun x1 c2 l2 ⟨p1,n1⟩=>?_
 refine go ?_;refine vA fun b2=>?_
 refine go ?_;refine vbc [64,3,0,7,0] fun c3 b3 l3 r3=>?_
 have d3:=tn_Decode (v:=5) (n:=5) (((hT.le l1).le l2).le l3) r3 (fun h=>by cases h) (by decide) (by decide) (fun _=>(ok9_form (by decide)).fit);rw[fe2.1,fe2.2]at d3;refine vtn d3 fun x3 c4 l4 ⟨p3,n3⟩=>?_
 refine go ?_;refine vA fun b4=>?_
 refine go ?_;refine vbc [64,3,0,7,0] fun c5 b5 l5 r5=>?_
 have d5:=tn_Decode (v:=4) (n:=5) (((((hT.le l1).le l2).le l3).le l4).le l5) r5 (fun h=>by cases h) (by decide) (by decide) (fun _=>(ok9_form (by decide)).fit);rw[fe3]at d5;refine vtn d5 fun x5 c6 l6 ⟨p5,n5⟩=>?_
 refine go ?_;refine vA fun b6=>?_
 refine go ?_;refine vbc [64,2,0,0] fun c7 b7 l7 r7=>?_
 have d7:=tn_Decode (v:=4) (n:=4) (((((((hT.le l1).le l2).le l3).le l4).le l5).le l6).le l7) r7 (fun h=>by cases h) (by decide) (by decide) (fun _=>(ok9_form (by decide)).fit);rw[fe4]at d7;refine vtn d7 fun x7 c8 l8 ⟨p7,n7⟩=>?_
 refine go ?_;refine vA fun b8=>?_
 refine go ?_;exact vrb rfl
theorem ck_DecodeBack (hT:Tabs c) {v:Int} {p:Pk} {s:Sl} (hp:p.At s c) (hY:Any p):Ck Tryz.prog 3 [.int .i64 v,p.val s] c (.bool true):=by
 have hV:4+v % 18446744073709551616 % 2=4∨4+v % 18446744073709551616 % 2=5:=by omega
 refine Ck.in Tryz.func3 ?_
 try refine go ?_
 refine vA fun b3=>?_
 try refine go ?_
 generalize 4+v % 18446744073709551616 % 2=V at *;refine vtn (tn_Fix7 hV p s hp hY) fun ⟨q,sq⟩ c1 l1 ⟨g1,g2,Q,g0,gQ⟩=>?_
 dsimp only at g0 g1 g2;have g3:Fx9 V q:=g0▸fx9_of hV gQ
 try refine go ?_
 refine vA fun b6=>?_
 try refine go ?_
 refine vtn (tn_To7 q sq g1 g3.fit.few g2) fun st c2 l2 ⟨g4,g5⟩=>?_
 try refine go ?_
 have te:=tn_Encode ((hT.le l1).le l2) V q st g4 g5 g3.fit;rw[show eN V q=0 from if_pos g3.right]at te;refine vtn te fun y c3 l3 o3=>?_
 try refine go ?_
 obtain ⟨d1,d2⟩:=dec_back g3.right g3.fit g3.lays g3.can;have hl:=Nat.le_trans (enc_len9 g3).2 (show 90000≤100000 by decide);have td:=tn_Decode (v:=V) (((hT.le l1).le l2).le l3) o3.row o3.nil o3.le hl (fun _=>(ok9_form hl).fit);rw[d1,d2]at td;refine vtn td fun sx c4 l4 ⟨g6,g7⟩=>?_
 try refine go ?_
 refine vA fun b9=>?_
 try refine go ?_
 have dt:=ck_told9 ((((hT.le l1).le l2).le l3).le l4);refine vh [0,1] ?_;refine go ?_;refine vqtn (tn_From7 q sx g6 g3.fit.few g7) fun sz c5 l5 ⟨g8,g9⟩=>?_
 have cs:=ck_rSame q q sz sq g8 (g1.le (((l2.trans l3).trans l4).trans l5)) g3.fit.few g3.fit.few g9 g2;rw[decide_eq_true rfl]at cs
 repeat' first|refine go ?_|refine vqx 0 ?_|fail
 exact vrb rfl
end
section
variable {c:World}
theorem ck_DecodeCuts (hT:Tabs c) {v at_:Int} {p:Pk} {s:Sl} (hp:p.At s c) (hY:Any p):Ck Tryz.prog 5 [.int .i64 v,p.val s,.int .i64 at_] c (.bool true):=by
 have hV:4+v % 18446744073709551616 % 2=4∨4+v % 18446744073709551616 % 2=5:=by omega
 refine Ck.in Tryz.func5 ?_;refine go ?_;refine vA fun b3=>?_
 refine go ?_;generalize 4+v % 18446744073709551616 % 2=V at *;refine vtn (tn_Fix7 hV p s hp hY) fun ⟨q,sq⟩ c1 l1 ⟨g1,g2,Q,g0,gQ⟩=>?_
 dsimp only at g0 g1 g2;have g3:Fx9 V q:=g0▸fx9_of hV gQ
 try refine go ?_
 refine vtn (tn_To7 q sq g1 g3.fit.few g2) fun st c2 l2 ⟨g4,g5⟩=>?_
 try refine go ?_
 have te:=tn_Encode ((hT.le l1).le l2) V q st g4 g5 g3.fit;rw[show eN V q=0 from if_pos g3.right]at te;refine vtn te fun y c3 l3 o3=>?_
 obtain ⟨hl1,hl2⟩:=enc_len9 g3;have hT3:=((hT.le l1).le l2).le l3;have dt:=ck_told9 hT3;have t1:=Int.emod_nonneg (at_ % 18446744073709551616) (b:=((encL V q).length:Int)) (by omega);have t2:=Int.emod_lt_of_pos (at_ % 18446744073709551616) (b:=((encL V q).length:Int)) (by omega);refine go ?_;generalize at_ % 18446744073709551616 % ((encL V q).length:Int)=t at *;obtain ⟨t,rfl⟩:=Int.eq_ofNat_of_zero_le t1;have hk:t < (encL V q).length:=by omega
 have hk2:((encL V q).take t).length=t:=by rw[List.length_take];omega
 have d1:=dec_cut g3 hk;have n3:=o3.nil;have n4:=o3.le;refine vslt (hr:=o3.row) fun al h1 h2=>?_
 have hq:((t:Nat):Int).toNat=((encL V q).take t).length:=by rw[hk2];omega
 refine vle (v':=.slice al ((encL V q).take t).length y.2) (by rw[← hq]) ?_;rw[show ((t:Nat):Int).toNat=t by omega]at h1;have td:=tn_Decode (v:=V) hT3 h1 h2 (by rw[hk2];have:=o3.le;omega) (by rw[hk2];omega) (fun _=>(ok9_form (by rw[hk2];omega)).fit);rw[d1]at td;refine vtn td fun sx c4 l4 ⟨g6,g7⟩=>?_
 refine go ?_;refine vA fun b11=>?_
 refine go ?_;refine vmt 5 fun a6 n6=>?_
 refine go ?_;refine vgr (o3.row.le l4) n3 (B8_one _) (fun a7 n7=>?_);refine go ?_;refine vA fun b12=>?_
 refine vgb fun a8 n8=>?_
 have hx0:0≤at_ % 256∧at_ % 256 < 256:=by omega
 obtain ⟨k,hk9⟩:=Int.eq_ofNat_of_zero_le hx0.1;have hk8:k < 256:=by omega
 have e1:0+(encL V q).length+1=(encL V q++[UInt8.ofNat k]).length:=by simp
 have e2:[]++B8 (encL V q)++[.int .u8 (at_ % 256)]=B8 (encL V q++[UInt8.ofNat k]):=by
  rw[B8_append,hk9];unfold B8;simp only[List.nil_append,List.map_cons,List.map_nil,UInt8.toNat_ofNat_of_lt' hk8]
 rw[e1];refine vlf9 fun c5 l5 o5=>?_
 rw[e2]at o5;have d2:=dec_more g3 (UInt8.ofNat k);have hl5:(encL V q++[UInt8.ofNat k]).length≤100000:=by rw[← e1];omega
 have td2:=tn_Decode (v:=V) ((hT3.le l4).le l5) o5.row o5.nil o5.le hl5 (fun _=>(ok9_form hl5).fit);rw[d2]at td2;refine vtn td2 fun sx2 c6 l6 ⟨g8,g9⟩=>?_
 refine go ?_;refine vA fun b13=>?_
 have ch:=ck_Head (c:=c6) (o3.row.le ((l4.trans l5).trans l6)) n3 n4;obtain ⟨z1,z2,z3,z4⟩:=enc_hd g3.right g3.fit;rw[z1,z2]at ch;simp only[Hd.val]at ch;refine go ?_;refine vA fun b15=>?_
 have h0:0 < (encL V q).length:=by omega
 obtain ⟨b5,o5',hRt⟩:=(o3.row.le ((l4.trans l5).trans l6)).by8 h0;obtain ⟨x0,tl,k1,k2⟩:=enc_kind g3;have k3:(encL V q)[0]=x0:=by simp[k1]
 rw[k3]at hRt;have k4:=x0.toNat_lt;have z5:((1+(varL (restN V q)).length:Nat):Int)+(restN V q:Int)=((encL V q).length:Int):=by omega
 refine go ?_;refine vh [0] ?_
 repeat' first|refine go ?_|refine vqx 0 ?_|refine vqy 0 ?_|refine vqgT ?_|fail
 refine vrb ?_;exact decide_eq_true (by omega)
end
theorem IsPk.at {w:World} {p:Pk} {s:Sl} (h:IsPk w p s):p.At s w:=⟨h.hw.hrow,h.hf.hrow,h.hc.hrow,h.hp.hrow⟩
theorem IsPk.any {w:World} {p:Pk} {s:Sl} (h:IsPk w p s) (r:Reach p):Any p :=
 ⟨r,h.hqos,h.hid,h.hkeep,h.hwillQoS,h.hcode,fun f hf=>(h.hf.hwf f hf).2,fun x hx=>⟨(h.hp.hwf x hx).1,(h.hp.hwf x hx).2.1⟩,fun x hx=>⟨(h.hw.hwf x hx).1,(h.hw.hwf x hx).2.1⟩⟩
theorem decodeBack_full (v:Int) (p:Pk) (s:Sl) (w:World) (w0:(Lit.int .i64 v).wf=true) (w1:IsPk w p s) (r1:Reach p) (hT:Tabs w) :
  Calls Tryz.prog 3 #[.int .i64 v,p.val s] w fun e w'=>e=.returned (.bool true)∧Below w.heap.size w w' :=
 ((ck_DecodeBack (c:=w) hT (v:=v) w1.at (w1.any r1)).h w (Le.refl w)).mono fun e w' h=>⟨h.1,h.2.below (Nat.le_refl _) (fun _ _=>id)⟩
theorem decodeCuts_full (v:Int) (p:Pk) (s:Sl) (n:Int) (w:World) (w0:(Lit.int .i64 v).wf=true) (w1:IsPk w p s) (r1:Reach p) (w2:(Lit.int .i64 n).wf=true) (hT:Tabs w) :
  Calls Tryz.prog 5 #[.int .i64 v,p.val s,.int .i64 n] w fun e w'=>e=.returned (.bool true)∧Below w.heap.size w w' :=
 ((ck_DecodeCuts (c:=w) hT (v:=v) (at_:=n) w1.at (w1.any r1)).h w (Le.refl w)).mono fun e w' h=>⟨h.1,h.2.below (Nat.le_refl _) (fun _ _=>id)⟩
end Go.Proofs.YtdgmkcfkpknamaaGreatDoor
