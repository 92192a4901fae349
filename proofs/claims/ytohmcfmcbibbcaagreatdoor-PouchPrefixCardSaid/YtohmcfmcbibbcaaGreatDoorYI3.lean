import Derived.Test.YtohmcfmcbibbcaaGreatDoorYI2
import Derived.Test.YtohmcfmcbibbcaaGreatDoorYH4
namespace Go.Proofs.YtohmcfmcbibbcaaGreatDoor
open Go.RowKit
set_option linter.unusedVariables false
set_option linter.unusedSimpArgs false
set_option maxRecDepth 100000
set_option maxHeartbeats 8000000
structure RIt where
 p:Pk
 s:Sl
 b:List UInt8
abbrev RIt.pb (x:RIt):Pk × List UInt8:=(x.p,x.b)
abbrev RIt.li (x:RIt):List Value:=itL x.p x.s (.string ⟨x.b.toArray⟩)
def RC (L:List RIt):List Value:=L.flatMap RIt.li
structure RIt.At (x:RIt) (c:World):Prop where
 p:x.p.At x.s c
 n:x.s.ca=none→x.s.cc=0
theorem RIt.At.le {c c':World} {x:RIt} (h:x.At c) (k:Le c c'):x.At c':=⟨h.p.le k,h.n⟩
theorem RC_add (L:List RIt) (x:RIt):RC (L++[x])=RC L++x.li:=by unfold RC;simp
structure FrX where
 l:List RIt
 a:Option Addr
 cp:Nat
 c:World
section
variable {c:World}
theorem tn_From10 {L:List It} {a:Option Addr} {n:Nat} (hr:Row c a (IC L)) (hL:∀ y∈L,y.At c∧y.p.few) (hn:L.length≤100000):Tn Tryz.prog 15 [.slice a L.length n] c (fun x:List RIt × Option Addr × Nat=>.slice x.2.1 x.1.length x.2.2) (fun x c'=>x.1.map RIt.pb=L.map It.pb∧(∀ y∈x.1,y.At c')∧Own9 c' 56 x.2.1 x.1.length x.2.2 (RC x.1)):=by
 refine Tn.in Tryz.func15 ?_;refine go ?_;refine CG.nilr 56 26 ?_;refine vlo (fun y:FrX=>[(0,.slice a L.length n),(3,.slice y.a y.l.length y.cp),(4,.int .i64 y.l.length)]) (fun y=>y.c) (fun _=>[]) (fun y=>[⟨56,26,.slice y.a y.l.length y.cp,y.l.length,RC y.l⟩]) (fun y=>Le c y.c∧y.l.map RIt.pb=(L.take y.l.length).map It.pb∧y.l.length≤L.length∧∀ z∈y.l,z.At y.c) (fun y=>L.length - y.l.length) ⟨[],none,0,c⟩ ⟨Le.refl c,rfl,Nat.zero_le _,by simp⟩ fun y ⟨y1,y2,y3,y4⟩=>?_
 rcases Nat.lt_or_ge y.l.length L.length with h|h
 ·obtain ⟨b5,o5,hR⟩:=Row.fm (f:=It.li) (k:=26) (hr.le y1) (fun x _=>rfl) (by decide) h
  obtain ⟨g1,g2⟩:=hL _ (List.getElem_mem h);have g3:=(g1.b.le9 y1).row;have g4:=g1.b.nil;have g5:=tn_From7 (c:=y.c) _ _ (g1.p.le y1) g2 g1.n;refine go ?_;refine vh [] ?_;refine go ?_;refine vqy 0 ?_;refine go ?_;refine vqtn g5 fun x c' h1 h2=>?_
  refine vqbu 0 ?_;refine vqA fun b6=>?_
  refine vqgb fun a' cp'=>?_
  refine go ?_;refine ved ?_;have e1:y.l.length+1=(y.l++[(⟨L[y.l.length].p,x,L[y.l.length].b⟩:RIt)]).length:=by simp
  refine vj (FrX.mk (y.l++[⟨L[y.l.length].p,x,L[y.l.length].b⟩]) a' cp' c') ⟨y1.trans h1,?_,?_,?_⟩ (hμ:=?_) (hL:=?_) (hR:=?_)
  ·dsimp only
   rw[← e1,List.take_add_one,List.map_append,List.map_append,y2,List.getElem?_eq_getElem h]
   rfl
  ·dsimp only;omega
  ·intro z hz
   rcases List.mem_append.1 hz with hz|hz
   ·exact (y4 z hz).le h1
   ·rw[List.mem_singleton.1 hz]
    exact ⟨h2.1,h2.2⟩
  ·dsimp only;omega
  ·dsimp only
   rw[← e1]
   repeat' (first|exact trivial|refine ⟨rfl,?_⟩)
  ·dsimp only
   rw[← e1,RC_add]
   rfl
 ·refine go ?_
  refine vef9 fun c5 l5 o5=>?_
  exact vrn ((y.l,y.a,y.cp),c5) ⟨y1.trans l5,by rw[y2,List.take_of_length_le h],fun z hz=>(y4 z hz).le l5,o5⟩
theorem ck_rSame10 {L M:List RIt} {a b:Option Addr} {n m:Nat} (hr:Row c a (RC L)) (hr2:Row c b (RC M)) (hL:∀ y∈L,y.At c∧y.p.few) (hM:∀ y∈M,y.At c∧y.p.few) (hn:L.length≤100000) (hm:M.length≤100000):Ck Tryz.prog 25 [.slice a L.length n,.slice b M.length m] c (.bool (decide (L.map RIt.pb=M.map RIt.pb))):=by
 refine Ck.in Tryz.func25 ?_
 by_cases hl:L.length=M.length
 case neg =>
  rw[decide_eq_false (fun e=>hl (by simpa using congrArg List.length e))];refine go ?_;exact vrb rfl
 refine go ?_;refine vlo (fun j:Nat=>[(0,.slice a L.length n),(1,.slice b M.length m),(5,.int .i64 j)]) (fun _=>c) (fun _=>[]) (fun _=>[]) (fun j=>j≤L.length∧(L.take j).map RIt.pb=(M.take j).map RIt.pb) (fun j=>L.length - j) 0 ⟨Nat.zero_le _,rfl⟩ fun j hj=>?_
 rcases Nat.lt_or_ge j L.length with h|h
 ·have h':j < M.length:=by omega
  obtain ⟨b5,o5,hR⟩:=Row.fm (f:=RIt.li) (k:=26) hr (fun x _=>rfl) (by decide) h;obtain ⟨b6,o6,hR2⟩:=Row.fm (f:=RIt.li) (k:=26) hr2 (fun x _=>rfl) (by decide) h';obtain ⟨g1,g2⟩:=hL _ (List.getElem_mem h);obtain ⟨g3,g4⟩:=hM _ (List.getElem_mem h');have c1:=ck_rSame _ _ _ _ g1.p g3.p g2 g4 g1.n g3.n;have e1:=codes_ok (l:=L[j].b) (m:=M[j].b);refine go ?_;refine vh [] ?_;refine go ?_;refine vqy 0 ?_;refine go ?_;refine vqy 0 ?_
  by_cases hp:L[j].p=M[j].p
  ·rw[decide_eq_true hp]at c1
   refine go ?_;refine vc (fun k1=>?_) fun k1=>?_
   ·have k2:L[j].b≠M[j].b:=fun e=>by simp_all
    rw[decide_eq_false (fun e=>k2 (by have:=congrArg (fun l=>l[j]?) e;simp[h,h']at this;exact this.2))];refine go ?_;exact vrb rfl
   ·have k2:L[j].b=M[j].b:=by simp_all
    refine go ?_;refine vj (j+1) ⟨h,?_⟩;rw[List.take_add_one,List.take_add_one,List.map_append,List.map_append,hj.2,List.getElem?_eq_getElem h,List.getElem?_eq_getElem h'];simp[RIt.pb,hp,k2]
  ·rw[decide_eq_false hp]at c1
   refine go ?_;rw[decide_eq_false (fun e=>hp (by have:=congrArg (fun l=>l[j]?) e;simp[h,h']at this;exact this.1))];exact vrb rfl
 ·have e2:L.map RIt.pb=M.map RIt.pb:=by
   have:=hj.2
   rwa [List.take_of_length_le h,List.take_of_length_le (by omega)]at this
  rw[decide_eq_true e2];refine go ?_;exact vrb rfl
end
theorem feedG_hold (v m:Int):∀ (n:Nat) (fst:Bool) (l:List UInt8),(feedG v m n fst l).2.1.length≤l.length
 | 0,_,l=>Nat.le_refl _
 | n+1,fst,l=>by
  by_cases h:nextE v m fst l=0
  ·rw[feedG_go h]
   have:=feedG_hold v m n false (l.drop (nextN l))
   rw[List.length_drop]at this;exact Nat.le_trans this (by omega)
  ·rw[show feedG v m (n+1) fst l=_ from if_neg h]
   split<;>simp
theorem feedS_hold (v m:Int) (S:Fs) (b:List UInt8):(feedS v m S b).2.h.length≤S.h.length+b.length:=by
 unfold feedS
 split
 ·simp
 ·have:=feedG_hold v m (S.h++b).length S.fst (S.h++b)
  exact Nat.le_trans this (Nat.le_of_eq List.length_append)
theorem dec_few {v:Int} {l:List UInt8} (h:l.length≤100000):(decP v l).few:=by
 unfold decP
 split
 ·exact (ok9_form h).fit.few
 ·exact ⟨by simp[zk],by simp[zk],by simp[zk],by simp[zk]⟩
theorem feedG_few (v m:Int):∀ (n:Nat) (fst:Bool) (l:List UInt8),l.length≤100000→∀ z∈(feedG v m n fst l).1,z.1.few
 | 0,_,l,_,z,hz=>by cases hz
 | n+1,fst,l,hl,z,hz=>by
  by_cases h:nextE v m fst l=0
  ·rw[feedG_go h]at hz
   rcases List.mem_cons.1 hz with rfl|hz
   ·exact dec_few (by rw[List.length_take];omega)
   ·exact feedG_few v m n false (l.drop (nextN l)) (by rw[List.length_drop];omega) z hz
  ·rw[show feedG v m (n+1) fst l=_ from if_neg h]at hz
   split at hz<;>cases hz
theorem feedS_few {v m:Int} {S:Fs} {b:List UInt8} (h:S.h.length+b.length≤100000):∀ z∈(feedS v m S b).1,z.1.few:=by
 unfold feedS
 split
 ·intro z hz;cases hz
 ·exact feedG_few v m _ _ _ (by rw[List.length_append];exact h)
theorem feedG_len (v m:Int):∀ (n:Nat) (fst:Bool) (l:List UInt8),(feedG v m n fst l).1.length≤n
 | 0,_,l=>Nat.le_refl _
 | n+1,fst,l=>by
  by_cases h:nextE v m fst l=0
  ·rw[feedG_go h]
   exact Nat.succ_le_succ (feedG_len v m n false _)
  ·rw[show feedG v m (n+1) fst l=_ from if_neg h]
   split<;>simp
theorem feedS_len (v m:Int) (S:Fs) (b:List UInt8):(feedS v m S b).1.length≤S.h.length+b.length:=by
 unfold feedS
 split
 ·simp
 ·have:=feedG_len v m (S.h++b).length S.fst (S.h++b)
  exact Nat.le_trans this (Nat.le_of_eq List.length_append)
theorem feedS_start (v m:Int) (F:Bool) (b:List UInt8):feedS v m ⟨F,[],0⟩ b=((feedG v m b.length F b).1,⟨F&&(feedG v m b.length F b).1.isEmpty,(feedG v m b.length F b).2.1,(feedG v m b.length F b).2.2⟩):=by simp[feedS]
theorem feedS_nil0 (v m:Int) (F:Bool):feedS v m ⟨F,[],0⟩ []=([],⟨F,[],0⟩):=by simp[feedS,feedG]
theorem RC_lenF (L:List RIt):(RC L).length=L.length * 26:=fm_len (fun _ _=>rfl)
theorem RC_oneF (L:List RIt):∀ z∈RC L,z.oneCell'=true:=fun z hz=>by
 obtain ⟨x,_,hx⟩:=List.mem_flatMap.1 hz;exact List.all_eq_true.1 (show x.li.all (·.oneCell')=true from rfl) z hx
theorem feedG_bad2 (v m:Int):∀ (n:Nat) (fst:Bool) (l:List UInt8),(feedG v m n fst l).2.2≠0→(feedG v m n fst l).2.1=[]
 | 0,_,l=>fun h=>absurd rfl h
 | n+1,fst,l=>by
  unfold feedG
  split
  ·exact feedG_bad2 v m n false _
  ·split
   ·exact fun h=>absurd rfl h
   ·exact fun _=>rfl
def Wt (v m:Int) (S:Fs):Prop:=(S.e≠0→S.h=[])∧(S.e=0→nextE v m S.fst S.h=2)
theorem rv_short:∀ (f i n:Nat) (l:List UInt8),f≤l.length→(rv f i n l 0).2.2≠2
 | 0,i,n,l,_=>(by decide:(3:Int)≠2)
 | f+1,i,n,[],h=>by simp at h
 | f+1,i,n,c :: t,h=>by
  have hf:f≤t.length:=by simpa using h
  have l1:leftL 1 (c :: t) 0=t:=by unfold leftL;rw[if_pos rfl,if_pos ⟨by decide,by simp only[List.length_cons];omega⟩];rfl
  have e1:leftE 1 (c :: t) 0=0:=by unfold leftE;rw[if_pos rfl,if_pos ⟨by decide,by simp only[List.length_cons];omega⟩]
  by_cases h1:128≤num (taken 1 (c :: t) 0)
  ·rw[rv_more e1 h1,l1,e1]
   exact rv_short f _ _ t hf
  ·by_cases h2:num (taken 1 (c :: t) 0)=0∧0 < i
   ·rw[rv_zero e1 h2.1 h2.2]
    exact (by decide:(3:Int)≠2)
   ·rw[rv_done e1 (by omega) h2]
    show leftE 1 (c :: t) 0≠2;rw[e1]
    decide
theorem head_short {l:List UInt8} (h:headE l=2):l.length≤4:=by
 by_cases h5:l.length≤4
 ·exact h5
 ·obtain ⟨c,t,rfl⟩:∃ c t,l=c :: t:=by
   cases l with
   | nil=>simp at h5
   | cons c t=>exact ⟨c,t,rfl⟩
  rw[(head_full _).1]at h;have l1:leftL 1 (c :: t) 0=t:=by unfold leftL;rw[if_pos rfl,if_pos ⟨by decide,by simp only[List.length_cons];omega⟩];rfl
  have e1:leftE 1 (c :: t) 0=0:=by unfold leftE;rw[if_pos rfl,if_pos ⟨by decide,by simp only[List.length_cons];omega⟩]
  unfold headS at h;rw[l1,e1]at h;exact absurd h (rv_short 4 0 0 t (by simp at h5;omega))
theorem next_wait {v m:Int} {fst:Bool} {l:List UInt8} (h:nextE v m fst l=2):(l.length:Int)≤max m 4:=by
 unfold nextE at h
 split at h
 ·have:=head_short h;omega
 split at h
 ·cases h
 split at h
 ·cases h
 split at h
 ·omega
 ·rename_i h1 h2 h3 h4
  exfalso;revert h;unfold decE
  repeat' split
  all_goals decide
theorem wt_len {v m:Int} {S:Fs} (h:Wt v m S):(S.h.length:Int)≤max m 4:=by
 by_cases h0:S.e=0
 ·exact next_wait (h.2 h0)
 ·rw[h.1 h0];simp only[List.length_nil];omega
theorem feedG_inv (v m:Int):∀ (n:Nat) (fst:Bool) (l:List UInt8),l.length≤n→(feedG v m n fst l).2.2=0→nextE v m (fst&&(feedG v m n fst l).1.isEmpty) (feedG v m n fst l).2.1=2
 | 0,fst,l,hn=>fun _=>by
  obtain rfl:l=[]:=List.length_eq_zero_iff.1 (by omega);exact nextE_nil
 | n+1,fst,l,hn=>by
  by_cases h0:nextE v m fst l=0
  ·rw[feedG_go h0]
   have h1:=nextN_lt h0;intro h;have ih:=feedG_inv v m n false (l.drop (nextN l)) (by rw[List.length_drop];omega) h;simpa using ih
  ·by_cases h2:nextE v m fst l=2
   ·rw[feedG_wait (n+1) h2]
    intro _;simpa using h2
   ·rw[feedG_bad h0 h2 hn]
    intro h;exact absurd h h0
theorem feedS_wt {v m:Int} {S:Fs} {b:List UInt8} {I:List (Pk × List UInt8)} {S':Fs} (hfd:feedS v m S b=(I,S')) (hW:Wt v m S):Wt v m S':=by
 have e2:(feedS v m S b).2=S':=congrArg Prod.snd hfd;rw[← e2];unfold feedS
 split
 ·exact hW
 ·exact ⟨fun h=>feedG_bad2 _ _ _ _ _ h,fun h=>feedG_inv _ _ _ _ _ (Nat.le_refl _) h⟩
theorem wt_start (v m:Int) (fst:Bool):Wt v m ⟨fst,[],0⟩:=⟨fun h=>absurd rfl h,fun _=>nextE_nil⟩
end Go.Proofs.YtohmcfmcbibbcaaGreatDoor
