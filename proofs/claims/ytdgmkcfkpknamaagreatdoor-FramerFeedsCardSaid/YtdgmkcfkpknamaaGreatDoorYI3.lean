import Derived.Test.YtdgmkcfkpknamaaGreatDoorYI2
namespace Go.Proofs.YtdgmkcfkpknamaaGreatDoor
open Go.RowKit
set_option linter.unusedVariables false
set_option linter.unusedSimpArgs false
set_option maxRecDepth 100000
set_option maxHeartbeats 8000000
structure RIt where
 p:Pk
 s:Sl
 b:List UInt8
abbrev RIt.pb (x:RIt):Pk × List UInt8:=(x.p,x.b)
abbrev RIt.li (x:RIt):List Value:=itL x.p x.s (.string ⟨x.b.toArray⟩)
def RC (L:List RIt):List Value:=L.flatMap RIt.li
structure RIt.At (x:RIt) (c:World):Prop where
 p:x.p.At x.s c
 n:x.s.ca=none→x.s.cc=0
theorem RIt.At.le {c c':World} {x:RIt} (h:x.At c) (k:Le c c'):x.At c':=⟨h.p.le k,h.n⟩
theorem RC_add (L:List RIt) (x:RIt):RC (L++[x])=RC L++x.li:=by unfold RC;simp
structure FrX where
 l:List RIt
 a:Option Addr
 cp:Nat
 c:World
section
variable {c:World}
theorem tn_From10 {L:List It} {a:Option Addr} {n:Nat} (hr:Row c a (IC L)) (hL:∀ y∈L,y.At c∧y.p.few) (hn:L.length≤100000):Tn Tryz.prog 26 [.slice a L.length n] c (fun x:List RIt × Option Addr × Nat=>.slice x.2.1 x.1.length x.2.2) (fun x c'=>x.1.map RIt.pb=L.map It.pb∧(∀ y∈x.1,y.At c')∧Own9 c' 77 x.2.1 x.1.length x.2.2 (RC x.1)):=by
 refine Tn.in Tryz.func26 ?_;refine go ?_;refine CG.nilr 77 26 ?_;refine vlo (fun y:FrX=>[(0,.slice a L.length n),(3,.slice y.a y.l.length y.cp),(4,.int .i64 y.l.length)]) (fun y=>y.c) (fun _=>[]) (fun y=>[⟨77,26,.slice y.a y.l.length y.cp,y.l.length,RC y.l⟩]) (fun y=>Le c y.c∧y.l.map RIt.pb=(L.take y.l.length).map It.pb∧y.l.length≤L.length∧∀ z∈y.l,z.At y.c) (fun y=>L.length - y.l.length) ⟨[],none,0,c⟩ ⟨Le.refl c,rfl,Nat.zero_le _,by simp⟩ fun y ⟨y1,y2,y3,y4⟩=>?_
 rcases Nat.lt_or_ge y.l.length L.length with h|h
 ·obtain ⟨b5,o5,hR⟩:=Row.fm (f:=It.li) (k:=26) (hr.le y1) (fun x _=>rfl) (by decide) h
  obtain ⟨g1,g2⟩:=hL _ (List.getElem_mem h);have g3:=(g1.b.le9 y1).row;have g4:=g1.b.nil;have g5:=tn_From7 (c:=y.c) _ _ (g1.p.le y1) g2 g1.n;refine go ?_;refine vh [] ?_;refine go ?_;refine vqy 0 ?_;refine go ?_;refine vqtn g5 fun x c' h1 h2=>?_
  refine vqbu 0 ?_;refine vqA fun b6=>?_
  refine vqgb fun a' cp'=>?_
  refine go ?_;refine ved ?_;have e1:y.l.length+1=(y.l++[(⟨L[y.l.length].p,x,L[y.l.length].b⟩:RIt)]).length:=by simp
  refine vj (FrX.mk (y.l++[⟨L[y.l.length].p,x,L[y.l.length].b⟩]) a' cp' c') ⟨y1.trans h1,?_,?_,?_⟩ (hμ:=?_) (hL:=?_) (hR:=?_)
  ·dsimp only
   rw[← e1,List.take_add_one,List.map_append,List.map_append,y2,List.getElem?_eq_getElem h]
   rfl
  ·dsimp only;omega
  ·intro z hz
   rcases List.mem_append.1 hz with hz|hz
   ·exact (y4 z hz).le h1
   ·rw[List.mem_singleton.1 hz]
    exact ⟨h2.1,h2.2⟩
  ·dsimp only;omega
  ·dsimp only
   rw[← e1]
   repeat' (first|exact trivial|refine ⟨rfl,?_⟩)
  ·dsimp only
   rw[← e1,RC_add]
   rfl
 ·refine go ?_
  refine vef9 fun c5 l5 o5=>?_
  exact vrn ((y.l,y.a,y.cp),c5) ⟨y1.trans l5,by rw[y2,List.take_of_length_le h],fun z hz=>(y4 z hz).le l5,o5⟩
theorem ck_rSame10 {L M:List RIt} {a b:Option Addr} {n m:Nat} (hr:Row c a (RC L)) (hr2:Row c b (RC M)) (hL:∀ y∈L,y.At c∧y.p.few) (hM:∀ y∈M,y.At c∧y.p.few) (hn:L.length≤100000) (hm:M.length≤100000):Ck Tryz.prog 27 [.slice a L.length n,.slice b M.length m] c (.bool (decide (L.map RIt.pb=M.map RIt.pb))):=by
 refine Ck.in Tryz.func27 ?_
 by_cases hl:L.length=M.length
 case neg =>
  rw[decide_eq_false (fun e=>hl (by simpa using congrArg List.length e))];refine go ?_;exact vrb rfl
 refine go ?_;refine vlo (fun j:Nat=>[(0,.slice a L.length n),(1,.slice b M.length m),(5,.int .i64 j)]) (fun _=>c) (fun _=>[]) (fun _=>[]) (fun j=>j≤L.length∧(L.take j).map RIt.pb=(M.take j).map RIt.pb) (fun j=>L.length - j) 0 ⟨Nat.zero_le _,rfl⟩ fun j hj=>?_
 rcases Nat.lt_or_ge j L.length with h|h
 ·have h':j < M.length:=by omega
  obtain ⟨b5,o5,hR⟩:=Row.fm (f:=RIt.li) (k:=26) hr (fun x _=>rfl) (by decide) h;obtain ⟨b6,o6,hR2⟩:=Row.fm (f:=RIt.li) (k:=26) hr2 (fun x _=>rfl) (by decide) h';obtain ⟨g1,g2⟩:=hL _ (List.getElem_mem h);obtain ⟨g3,g4⟩:=hM _ (List.getElem_mem h');have c1:=ck_rSame _ _ _ _ g1.p g3.p g2 g4 g1.n g3.n;have e1:=codes_ok (l:=L[j].b) (m:=M[j].b);refine go ?_;refine vh [] ?_;refine go ?_;refine vqy 0 ?_;refine go ?_;refine vqy 0 ?_
  by_cases hp:L[j].p=M[j].p
  ·rw[decide_eq_true hp]at c1
   refine go ?_;refine vc (fun k1=>?_) fun k1=>?_
   ·have k2:L[j].b≠M[j].b:=fun e=>by simp_all
    rw[decide_eq_false (fun e=>k2 (by have:=congrArg (fun l=>l[j]?) e;simp[h,h']at this;exact this.2))];refine go ?_;exact vrb rfl
   ·have k2:L[j].b=M[j].b:=by simp_all
    refine go ?_;refine vj (j+1) ⟨h,?_⟩;rw[List.take_add_one,List.take_add_one,List.map_append,List.map_append,hj.2,List.getElem?_eq_getElem h,List.getElem?_eq_getElem h'];simp[RIt.pb,hp,k2]
  ·rw[decide_eq_false hp]at c1
   refine go ?_;rw[decide_eq_false (fun e=>hp (by have:=congrArg (fun l=>l[j]?) e;simp[h,h']at this;exact this.1))];exact vrb rfl
 ·have e2:L.map RIt.pb=M.map RIt.pb:=by
   have:=hj.2
   rwa [List.take_of_length_le h,List.take_of_length_le (by omega)]at this
  rw[decide_eq_true e2];refine go ?_;exact vrb rfl
end
def dq7:Pk:={ zk 4 with id:=7 }
theorem fd1:feedS 4 100 ⟨false,[],0⟩ [64]=([],⟨false,[64],0⟩):=by kernel_rfl
theorem fd2:feedS 4 100 ⟨false,[64],0⟩ [2,0]=([],⟨false,[64,2,0],0⟩):=by kernel_rfl
theorem fd3:feedS 4 100 ⟨false,[64,2,0],0⟩ [7,192]=([(dq7,[64,2,0,7])],⟨false,[192],0⟩):=by kernel_rfl
section
variable {c:World}
theorem ck_cFix {v m:Int} {b:Bool}:Ck Tryz.prog 21 [.agg #[.int .i64 v,.int .i64 m,.bool b]] c (.agg #[.int .i64 (4+v % 18446744073709551616 % 2),.int .i64 (2+m % 18446744073709551616 % 400),.bool b]):=by
 refine Ck.in Tryz.func21 ?_
 repeat' first|refine go ?_|refine vA fun b=>?_|refine vq ?_|refine vrv ?_|fail
 all_goals rfl
theorem ck_told10 (hT:Tabs c):Ck Tryz.prog 23 [] c (.bool true):=by
 refine Ck.in Tryz.func23 ?_;refine go ?_;refine vta (M1:=[]) (R1:=[]) (tr_New (v:=4) (m:=100) (.inl rfl) (by decide)) fun g _=>?_
 refine go ?_;refine vpz ?_;refine go ?_;refine vbc [64] fun c1 b1 l1 r1=>?_
 have f1:=tr_Feed (S:=⟨false,[],0⟩) (v:=4) (m:=100) (g:=g) (a:=none) (cp:=0) (b:=[64]) (nb:=1) (hT.le l1) r1 (by simp) (by decide);rw[fd1]at f1;refine vt11 f1 fun x1 ⟨k1,k2,k3,k4,k5⟩=>?_
 refine go ?_;refine vbc [2,0] fun c2 b2 l2 r2=>?_
 have f2:=tr_Feed (S:=⟨false,[64],0⟩) (v:=4) (m:=100) (g:=g) (a:=x1.a) (cp:=x1.cp) (b:=[2,0]) (nb:=2) (hT.le ((l1.trans k1).trans l2)) r2 (by simp) (by decide);rw[fd2]at f2;refine vt11 f2 fun x2 ⟨m1,m2,m3,m4,m5⟩=>?_
 refine go ?_;refine vbc [7,192] fun c3 b3 l3 r3=>?_
 have f3:=tr_Feed (S:=⟨false,[64,2,0],0⟩) (v:=4) (m:=100) (g:=g) (a:=x2.a) (cp:=x2.cp) (b:=[7,192]) (nb:=2) (hT.le ((((l1.trans k1).trans l2).trans m1).trans l3)) r3 (by simp) (by decide);rw[fd3]at f3;refine vt11 f3 fun x3 ⟨n1,n2,n3,n4,n5⟩=>?_
 have e1:x1.L.length=0:=by simpa using congrArg List.length k2
 have e2:x2.L.length=0:=by simpa using congrArg List.length m2
 obtain ⟨y,hy⟩:∃ y,x3.L=[y]:=by
  have:=congrArg List.length n2
  exact List.length_eq_one_iff.1 (by simpa using this)
 rw[hy]at n2 n3 n4 ⊢;rw[e1,e2];have g1:=(n3 y (List.mem_singleton_self _)).b.row;have g2:=(n3 y (List.mem_singleton_self _)).b.nil;obtain ⟨b5,o5,hR⟩:=Row.fm (f:=It.li) (k:=26) (j:=0) n4 (fun x _=>rfl) (by decide) (by simp);have p1:y.p=dq7:=by simpa using congrArg (fun l=>(l.head?).map Prod.fst) n2
 have p2:y.b=[64,2,0,7]:=by simpa using congrArg (fun l=>(l.head?).map Prod.snd) n2
 obtain ⟨yp,ys,yb,ya,yc⟩:=y;dsimp only at p1 p2;subst p1 p2;have h0:0 < [(⟨dq7,ys,[64,2,0,7],ya,yc⟩:It)].length:=by simp
 refine go ?_;refine vg (fun q1=>?_) fun q1=>?_
 case refine_2=>exact absurd rfl q1
 refine vt1a tr_Held fun _ _=>?_
 refine go ?_;exact vrb rfl
end
theorem feedG_hold (v m:Int):∀ (n:Nat) (fst:Bool) (l:List UInt8),(feedG v m n fst l).2.1.length≤l.length
 | 0,_,l=>Nat.le_refl _
 | n+1,fst,l=>by
  by_cases h:nextE v m fst l=0
  ·rw[feedG_go h]
   have:=feedG_hold v m n false (l.drop (nextN l))
   rw[List.length_drop]at this;exact Nat.le_trans this (by omega)
  ·rw[show feedG v m (n+1) fst l=_ from if_neg h]
   split<;>simp
theorem feedS_hold (v m:Int) (S:Fs) (b:List UInt8):(feedS v m S b).2.h.length≤S.h.length+b.length:=by
 unfold feedS
 split
 ·simp
 ·have:=feedG_hold v m (S.h++b).length S.fst (S.h++b)
  exact Nat.le_trans this (Nat.le_of_eq List.length_append)
theorem dec_few {v:Int} {l:List UInt8} (h:l.length≤100000):(decP v l).few:=by
 unfold decP
 split
 ·exact (ok9_form h).fit.few
 ·exact ⟨by simp[zk],by simp[zk],by simp[zk],by simp[zk]⟩
theorem feedG_few (v m:Int):∀ (n:Nat) (fst:Bool) (l:List UInt8),l.length≤100000→∀ z∈(feedG v m n fst l).1,z.1.few
 | 0,_,l,_,z,hz=>by cases hz
 | n+1,fst,l,hl,z,hz=>by
  by_cases h:nextE v m fst l=0
  ·rw[feedG_go h]at hz
   rcases List.mem_cons.1 hz with rfl|hz
   ·exact dec_few (by rw[List.length_take];omega)
   ·exact feedG_few v m n false (l.drop (nextN l)) (by rw[List.length_drop];omega) z hz
  ·rw[show feedG v m (n+1) fst l=_ from if_neg h]at hz
   split at hz<;>cases hz
theorem feedS_few {v m:Int} {S:Fs} {b:List UInt8} (h:S.h.length+b.length≤100000):∀ z∈(feedS v m S b).1,z.1.few:=by
 unfold feedS
 split
 ·intro z hz;cases hz
 ·exact feedG_few v m _ _ _ (by rw[List.length_append];exact h)
theorem feedG_len (v m:Int):∀ (n:Nat) (fst:Bool) (l:List UInt8),(feedG v m n fst l).1.length≤n
 | 0,_,l=>Nat.le_refl _
 | n+1,fst,l=>by
  by_cases h:nextE v m fst l=0
  ·rw[feedG_go h]
   exact Nat.succ_le_succ (feedG_len v m n false _)
  ·rw[show feedG v m (n+1) fst l=_ from if_neg h]
   split<;>simp
theorem feedS_len (v m:Int) (S:Fs) (b:List UInt8):(feedS v m S b).1.length≤S.h.length+b.length:=by
 unfold feedS
 split
 ·simp
 ·have:=feedG_len v m (S.h++b).length S.fst (S.h++b)
  exact Nat.le_trans this (Nat.le_of_eq List.length_append)
abbrev I64 (l:List Int):List Value:=l.flatMap fun k=>[.int .i64 k]
structure FcX where
 s:List RIt
 sa:Option Addr
 sc:Nat
 fr:Nat
 i:Nat
 S:Fs
 ga:Option Addr
 gc:Nat
 c:World
theorem feedS_nil (v m:Int) (F:Bool):feedS v m ⟨F,[],0⟩ []=([],⟨F,[],0⟩):=by simp[feedS,feedG]
theorem RC_len (L:List RIt):(RC L).length=L.length * 26:=fm_len (fun _ _=>rfl)
theorem RC_one (L:List RIt):∀ z∈RC L,z.oneCell'=true:=fun z hz=>by
 obtain ⟨x,_,hx⟩:=List.mem_flatMap.1 hz;exact List.all_eq_true.1 (show x.li.all (·.oneCell')=true from rfl) z hx
section
variable {c:World}
theorem ck_FramerCuts (hT:Tabs c) {v m:Int} {F:Bool} {ab ac:Option Addr} {nb nc:Nat} {bs:List UInt8} {ks:List Int} (hb:Row c ab (B8 bs)) (hbn:ab=none→nb=0) (hbl:bs.length≤nb) (hk:Row c ac (I64 ks)):Ck Tryz.prog 7 [.agg #[.int .i64 v,.int .i64 m,.bool F],.slice ab bs.length nb,.slice ac ks.length nc] c (.bool true):=by
 have d1:=ck_cFix (c:=c) (v:=v) (m:=m) (b:=F);have hV:4+v % 18446744073709551616 % 2=4∨4+v % 18446744073709551616 % 2=5:=by omega
 have hM:2≤2+m % 18446744073709551616 % 400:=by omega
 generalize 4+v % 18446744073709551616 % 2=V at *;generalize 2+m % 18446744073709551616 % 400=M at *;have dt:=ck_told10 hT;refine Ck.in Tryz.func7 ?_;refine go ?_;refine vA fun b3=>?_
 refine go ?_;refine vmi ?_;refine vslt fun al h1 h2=>?_
 have hq:(min (bs.length:Int) 600).toNat=(bs.take (min (bs.length:Int) 600).toNat).length:=by rw[List.length_take];omega
 have hq2:(bs.take (min (bs.length:Int) 600).toNat).length≤600:=by rw[← hq];omega
 have hq3:(bs.take (min (bs.length:Int) 600).toNat).length≤nb:=by rw[← hq];omega
 refine vle (v':=.slice al (bs.take (min (bs.length:Int) 600).toNat).length nb) (by rw[← hq]) ?_;generalize bs.take (min (bs.length:Int) 600).toNat=l at *;clear hq;refine go ?_;refine vta (M1:=[]) (R1:=[]) (tr_New (fst:=F) hV hM) fun g1 _=>?_
 refine go ?_;refine vta (M1:=[]) (R1:=[]) (tr_New (fst:=F) hV hM) fun g2 _=>?_
 refine go ?_;refine vta (M1:=[]) (R1:=[]) (tr_New (fst:=F) hV hM) fun g3 _=>?_
 refine go ?_;refine vpz ?_;refine go ?_;refine vpz ?_;refine go ?_;refine vpz ?_;refine go ?_;refine vt11c (tr_Feed (S:=⟨F,[],0⟩) hT h1 h2 (by dsimp only [List.length_nil];omega)) fun x1 ⟨k1,k2,k3,k4,k5⟩=>?_
 refine gob ?_;refine CG.nilr 77 26 ?_;refine CG.permr ?_ ((List.perm_append_comm (l₁:=[_,_]) (l₂:=[_,_])).trans (.cons _ (List.perm_append_comm (l₁:=[_]) (l₂:=[_,_]))))
 have hc1:=k1;have q1:=feedS_len V M ⟨F,[],0⟩ l;have q2:=feedS_hold V M ⟨F,[],0⟩ l;have w0:=feedS_few (v:=V) (m:=M) (S:=⟨F,[],0⟩) (b:=l) (by dsimp only [List.length_nil];omega);generalize hS1:feedS V M ⟨F,[],0⟩ l=S1 at *;dsimp only [List.length_nil]at q1 q2;refine vck (fun y:FcX=>[(1,.slice al l.length nb),(7,pt g1),(9,pt g2),(11,pt g3),(13,.slice x1.ia x1.L.length x1.ic),(14,.int .i64 S1.2.e),(15,.slice y.sa y.s.length y.sc),(16,.slice none 0 0),(17,.int .i64 y.S.e),(18,.int .i64 0),(19,.int .i64 y.fr)]) (fun y=>y.c) (fun y=>[frB g3 V M F (.slice none 0 0) 0,frB g2 V M y.S.fst (.slice y.ga y.S.h.length y.gc) y.S.e,frB g1 V M S1.2.fst (.slice x1.a S1.2.h.length x1.cp) S1.2.e,⟨b3,53,[.int .i64 V,.int .i64 M,.bool F]⟩]) (fun y=>[byR y.ga y.gc y.S.h,⟨77,26,.slice y.sa y.s.length y.sc,y.s.length,RC y.s⟩,byR x1.a x1.cp S1.2.h,byR none 0 []]) (fun y=>Le x1.c y.c∧feedS V M ⟨F,[],0⟩ (l.take y.fr)=(y.s.map RIt.pb,y.S)∧y.fr≤l.length∧(∀ z∈y.s,z.At y.c∧z.p.few)) ?_ fun y ⟨y1,y2,y3,y5⟩=>?_
 ·refine go ?_
  refine vlo (fun y:FcX=>[(1,.slice al l.length nb),(7,pt g1),(9,pt g2),(11,pt g3),(13,.slice x1.ia x1.L.length x1.ic),(14,.int .i64 S1.2.e),(15,.slice y.sa y.s.length y.sc),(16,.slice none 0 0),(17,.int .i64 y.S.e),(18,.int .i64 0),(19,.int .i64 y.fr),(2,.slice ac ks.length nc),(20,.int .i64 y.i)]) (fun y=>y.c) (fun y=>[frB g3 V M F (.slice none 0 0) 0,frB g2 V M y.S.fst (.slice y.ga y.S.h.length y.gc) y.S.e,frB g1 V M S1.2.fst (.slice x1.a S1.2.h.length x1.cp) S1.2.e,⟨b3,53,[.int .i64 V,.int .i64 M,.bool F]⟩]) (fun y=>[byR y.ga y.gc y.S.h,⟨77,26,.slice y.sa y.s.length y.sc,y.s.length,RC y.s⟩,byR x1.a x1.cp S1.2.h,byR none 0 []]) (fun y=>Le x1.c y.c∧feedS V M ⟨F,[],0⟩ (l.take y.fr)=(y.s.map RIt.pb,y.S)∧y.fr≤l.length∧(∀ z∈y.s,z.At y.c∧z.p.few)∧y.i≤40) (fun y=>40 - y.i) ⟨[],none,0,0,0,⟨F,[],0⟩,none,0,x1.c⟩ ⟨Le.refl _,feedS_nil V M F,Nat.zero_le _,by simp,Nat.zero_le _⟩ fun y ⟨y1,y2,y3,y5,y4⟩=>?_
  have p1:=feedS_len V M ⟨F,[],0⟩ (l.take y.fr);have p2:=feedS_hold V M ⟨F,[],0⟩ (l.take y.fr);rw[y2,List.length_take,List.length_map]at p1;rw[y2,List.length_take]at p2;dsimp only [List.length_nil]at p1 p2;have hy:=hc1.trans y1
  by_cases hi:y.i < ks.length∧y.i < 40
  ·obtain ⟨i1,i2⟩:=hi
   obtain ⟨b5,o5,hR⟩:=Row.fm (f:=fun k=>[Value.int .i64 k]) (k:=1) (hk.le hy) (fun x _=>rfl) (by decide) i1;refine go ?_;have t1:0≤ks[y.i] % 18446744073709551616 % ((l.length:Int) - (y.fr:Int)+1):=Int.emod_nonneg _ (by omega);have t2:ks[y.i] % 18446744073709551616 % ((l.length:Int) - (y.fr:Int)+1) < (l.length:Int) - (y.fr:Int)+1:=Int.emod_lt_of_pos _ (by omega);generalize ks[y.i] % 18446744073709551616 % ((l.length:Int) - (y.fr:Int)+1)=t at *;obtain ⟨t,rfl⟩:=Int.eq_ofNat_of_zero_le t1;refine go ?_;refine vsl (hr:=h1.le hy) fun a2 e1 e2=>?_
   have r1:((y.fr:Int)+(t:Int)).toNat - ((y.fr:Int)).toNat=t:=by omega
   have r2:((y.fr:Int)).toNat=y.fr:=by omega
   rw[r1,r2]at e1;rw[r2]at e2;have r3:t=((l.drop y.fr).take t).length:=by rw[List.length_take,List.length_drop];omega
   refine vle (v':=.slice a2 ((l.drop y.fr).take t).length (nb - y.fr)) (by rw[← r3,r1,r2]) ?_;have f1:=tr_Feed (S:=y.S) (v:=V) (m:=M) (g:=g2) (a:=y.ga) (cp:=y.gc) (hT.le hy) e1 e2 (by rw[← r3];omega);have z1:=feedS_app V M ⟨F,[],0⟩ (l.take y.fr) ((l.drop y.fr).take t);rw[y2]at z1;dsimp only at z1;have z2:l.take y.fr++(l.drop y.fr).take t=l.take (y.fr+t):=by rw[List.take_add]
   rw[z2]at z1;have w1:=feedS_few (v:=V) (m:=M) (S:=y.S) (b:=(l.drop y.fr).take t) (by rw[← r3];omega);have w2:=feedS_len V M y.S ((l.drop y.fr).take t);generalize hS2:feedS V M y.S ((l.drop y.fr).take t)=S2 at *;refine vt11b f1 fun x2 ⟨m1,m2,m3,m4,m5⟩=>?_
   refine go ?_;have w3:x2.L.length=S2.1.length:=by rw[← m2,List.length_map]
   refine vtn (tn_From10 m4 (fun z hz=>⟨m3 z hz,w1 _ (by rw[← m2];exact List.mem_map_of_mem hz)⟩) (by omega)) fun x3 c3 n1 ⟨n2,n3,n4⟩=>?_
   refine LG.permr ?_ (.swap _ _ _)
   have w4:x3.1.length=S2.1.length:=by rw[← w3];simpa using congrArg List.length n2
   refine vgr n4.row n4.nil (RC_one _) (fun a' cp'=>?_) (hl:=RC_len _) (hb:=by omega);refine go ?_;have r4:y.s.length+x3.1.length=(y.s++x3.1).length:=by rw[List.length_append]
   have r5:RC y.s++RC x3.1=RC (y.s++x3.1):=by unfold RC;rw[List.flatMap_append]
   rw[r4,r5];refine EG.permr ?_ (.swap _ _ _)
   have r6:((y.fr:Int)+(t:Int))=((y.fr+t:Nat):Int):=by omega
   rw[r6];refine vj (FcX.mk (y.s++x3.1) a' cp' (y.fr+t) (y.i+1) S2.2 x2.a x2.cp c3) ⟨(y1.trans m1).trans n1,?_,?_,?_,i2⟩ (hμ:=by dsimp only;omega)
   ·dsimp only
    rw[z1,List.map_append,n2,m2]
   ·dsimp only;omega
   ·intro z hz
    rcases List.mem_append.1 hz with hz|hz
    ·exact ⟨(y5 z hz).1.le (m1.trans n1),(y5 z hz).2⟩
    ·refine ⟨n3 z hz,?_⟩
     have:z.pb∈S2.1:=by rw[← m2,← n2];exact List.mem_map_of_mem hz
     exact w1 _ this
  ·rcases Nat.lt_or_ge y.i ks.length with i1|i1
   ·have i2:¬ y.i < 40:=fun q=>hi ⟨i1,q⟩
    refine go ?_;exact vj y ⟨y1,y2,y3,y5⟩
   ·refine go ?_
    exact vj y ⟨y1,y2,y3,y5⟩
 have p1:=feedS_len V M ⟨F,[],0⟩ (l.take y.fr);have p2:=feedS_hold V M ⟨F,[],0⟩ (l.take y.fr);rw[y2,List.length_take,List.length_map]at p1;rw[y2,List.length_take]at p2;dsimp only [List.length_nil]at p1 p2;have hy:=hc1.trans y1;refine go ?_;refine vslf (hr:=h1.le hy) fun a2 e1 e2=>?_
 have r2:((y.fr:Int)).toNat=y.fr:=by omega
 rw[r2,List.take_of_length_le (by rw[List.length_drop];exact Nat.le_refl _)]at e1;rw[r2]at e2;have r3:(l.drop y.fr).length=l.length - y.fr:=List.length_drop;refine vle (v':=.slice a2 (l.drop y.fr).length (nb - y.fr)) (by rw[r3,r2]) ?_;have f1:=tr_Feed (S:=y.S) (v:=V) (m:=M) (g:=g2) (a:=y.ga) (cp:=y.gc) (hT.le hy) e1 e2 (by rw[r3];omega);have z1:=feedS_app V M ⟨F,[],0⟩ (l.take y.fr) (l.drop y.fr);rw[y2,List.take_append_drop,hS1]at z1;dsimp only at z1;have w1:=feedS_few (v:=V) (m:=M) (S:=y.S) (b:=l.drop y.fr) (by rw[r3];omega);have w2:=feedS_len V M y.S (l.drop y.fr);generalize hS2:feedS V M y.S (l.drop y.fr)=S2 at *;have z3:S2.2=S1.2:=by rw[z1]
 rw[z3]at f1;refine vt11b f1 fun x2 ⟨m1,m2,m3,m4,m5⟩=>?_
 refine go ?_;have w3:x2.L.length=S2.1.length:=by rw[← m2,List.length_map]
 refine vtn (tn_From10 m4 (fun z hz=>⟨m3 z hz,w1 _ (by rw[← m2];exact List.mem_map_of_mem hz)⟩) (by omega)) fun x3 c3 n1 ⟨n2,n3,n4⟩=>?_
 refine LG.permr ?_ (.swap _ _ _)
 have w4:x3.1.length=S2.1.length:=by rw[← w3];simpa using congrArg List.length n2
 refine vgr n4.row n4.nil (RC_one _) (fun a' cp'=>?_) (hl:=RC_len _) (hb:=by omega);have r4:y.s.length+x3.1.length=(y.s++x3.1).length:=by rw[List.length_append]
 have r5:RC y.s++RC x3.1=RC (y.s++x3.1):=by unfold RC;rw[List.flatMap_append]
 rw[r4,r5];refine vlf9 fun c4 l4 o4=>?_
 have u1:(y.s++x3.1).map RIt.pb=S1.1:=by rw[z1,List.map_append,n2,m2]
 have u2:∀ z∈y.s++x3.1,z.At c4∧z.p.few:=by
  intro z hz;rcases List.mem_append.1 hz with hz|hz
  ·exact ⟨(y5 z hz).1.le ((m1.trans n1).trans l4),(y5 z hz).2⟩
  ·refine ⟨(n3 z hz).le l4,?_⟩
   have:z.pb∈S2.1:=by rw[← m2,← n2];exact List.mem_map_of_mem hz
   exact w1 _ this
 have u3:(y.s++x3.1).length≤600:=by
  have:=congrArg List.length u1
  rw[List.length_map]at this;omega
 have hc4:=(((hy.trans m1).trans n1).trans l4)
 have hk4:=((m1.trans n1).trans l4)
 generalize y.s++x3.1=sm at *;refine go ?_;refine CG.nilr 77 26 ?_;refine CG.permr ?_ (List.perm_append_comm (l₁:=[_,_,_]) (l₂:=[_]))
 clear p1 p2 f1 z1 w1 w2 w3 w4 e1 e2;refine vlo (fun y:FcX=>[(1,.slice al l.length nb),(7,pt g1),(9,pt g2),(11,pt g3),(13,.slice x1.ia x1.L.length x1.ic),(14,.int .i64 S1.2.e),(15,.slice a' sm.length cp'),(16,.slice y.sa y.s.length y.sc),(17,.int .i64 S1.2.e),(18,.int .i64 y.S.e),(26,.int .i64 y.fr)]) (fun y=>y.c) (fun y=>[frB g3 V M y.S.fst (.slice y.ga y.S.h.length y.gc) y.S.e,frB g2 V M S1.2.fst (.slice x2.a S1.2.h.length x2.cp) S1.2.e,frB g1 V M S1.2.fst (.slice x1.a S1.2.h.length x1.cp) S1.2.e,⟨b3,53,[.int .i64 V,.int .i64 M,.bool F]⟩]) (fun y=>[byR y.ga y.gc y.S.h,⟨77,26,.slice y.sa y.s.length y.sc,y.s.length,RC y.s⟩,byR x2.a x2.cp S1.2.h,byR x1.a x1.cp S1.2.h]) (fun y=>Le c4 y.c∧feedS V M ⟨F,[],0⟩ (l.take y.fr)=(y.s.map RIt.pb,y.S)∧y.fr≤l.length∧(∀ z∈y.s,z.At y.c∧z.p.few)) (fun y=>l.length - y.fr) ⟨[],none,0,0,0,⟨F,[],0⟩,none,0,c4⟩ ⟨Le.refl _,feedS_nil V M F,Nat.zero_le _,by simp⟩ fun t ⟨t1,t2,t3,t5⟩=>?_
 have p1:=feedS_len V M ⟨F,[],0⟩ (l.take t.fr);have p2:=feedS_hold V M ⟨F,[],0⟩ (l.take t.fr);rw[t2,List.length_take,List.length_map]at p1;rw[t2,List.length_take]at p2;dsimp only [List.length_nil]at p1 p2;have ht:=hc4.trans t1;rcases Nat.lt_or_ge t.fr l.length with hi|hi
 ·refine go ?_
  refine vsl (hr:=h1.le ht) fun a2 e1 e2=>?_
  have r1:((t.fr:Int)+1).toNat - ((t.fr:Int)).toNat=1:=by omega
  have r2:((t.fr:Int)).toNat=t.fr:=by omega
  rw[r1,r2]at e1;rw[r2]at e2;have r3:((l.drop t.fr).take 1).length=1:=by rw[List.length_take,List.length_drop];omega
  refine vle (v':=.slice a2 ((l.drop t.fr).take 1).length (nb - t.fr)) (by rw[r3,r1,r2]) ?_;have f1:=tr_Feed (S:=t.S) (v:=V) (m:=M) (g:=g3) (a:=t.ga) (cp:=t.gc) (hT.le ht) e1 e2 (by rw[r3];omega);have z1:=feedS_app V M ⟨F,[],0⟩ (l.take t.fr) ((l.drop t.fr).take 1);rw[t2]at z1;dsimp only at z1;have z2:l.take t.fr++(l.drop t.fr).take 1=l.take (t.fr+1):=by rw[List.take_add]
  rw[z2]at z1;have w1:=feedS_few (v:=V) (m:=M) (S:=t.S) (b:=(l.drop t.fr).take 1) (by rw[r3];omega);have w2:=feedS_len V M t.S ((l.drop t.fr).take 1);generalize hS3:feedS V M t.S ((l.drop t.fr).take 1)=S3 at *;refine vt11 f1 fun x4 ⟨m1,m2,m3,m4,m5⟩=>?_
  refine go ?_;have w3:x4.L.length=S3.1.length:=by rw[← m2,List.length_map]
  refine vtn (tn_From10 m4 (fun z hz=>⟨m3 z hz,w1 _ (by rw[← m2];exact List.mem_map_of_mem hz)⟩) (by omega)) fun x5 c5 n1 ⟨n2,n3,n4⟩=>?_
  refine LG.permr ?_ (.swap _ _ _)
  have w4:x5.1.length=S3.1.length:=by rw[← w3];simpa using congrArg List.length n2
  refine vgr n4.row n4.nil (RC_one _) (fun a'' cp''=>?_) (hl:=RC_len _) (hb:=by omega);refine go ?_;have r4:t.s.length+x5.1.length=(t.s++x5.1).length:=by rw[List.length_append]
  have r5:RC t.s++RC x5.1=RC (t.s++x5.1):=by unfold RC;rw[List.flatMap_append]
  rw[r4,r5];refine EG.permr ?_ (.swap _ _ _)
  have r6:((t.fr:Int)+1)=((t.fr+1:Nat):Int):=by omega
  rw[r6];refine vj (FcX.mk (t.s++x5.1) a'' cp'' (t.fr+1) 0 S3.2 x4.a x4.cp c5) ⟨(t1.trans m1).trans n1,?_,?_,?_⟩ (hμ:=by dsimp only;omega)
  ·dsimp only
   rw[z1,List.map_append,n2,m2]
  ·exact hi
  ·intro z hz
   rcases List.mem_append.1 hz with hz|hz
   ·exact ⟨(t5 z hz).1.le (m1.trans n1),(t5 z hz).2⟩
   ·refine ⟨n3 z hz,?_⟩
    have:z.pb∈S3.1:=by rw[← m2,← n2];exact List.mem_map_of_mem hz
    exact w1 _ this
 ·rw[List.take_of_length_le hi,hS1]at t2
  have v1:t.s.map RIt.pb=S1.1:=by rw[t2]
  have v2:t.S=S1.2:=by rw[t2]
  rw[v2]
  have v3:t.s.length≤600:=by
   have:=congrArg List.length v1
   rw[List.length_map]at this;omega
  have v4:x1.L.length≤600:=by
   have:=congrArg List.length k2
   rw[List.length_map]at this;omega
  refine go ?_;refine LG.permr ?_ (.swap _ _ _)
  refine vlf9 fun c6 l6 o6=>?_
  have hc6:=((y1.trans hk4).trans t1).trans l6;refine vtn (tn_From10 (k4.le hc6) (fun z hz=>⟨(k3 z hz).le hc6,w0 _ (by rw[← k2];exact List.mem_map_of_mem hz)⟩) (by omega)) fun x6 c7 a1 ⟨b1,b2,b4⟩=>?_
  have v5:x6.1.length=x1.L.length:=by simpa using congrArg List.length b1
  have d5:=ck_rSame10 (n:=x6.2.2) (m:=cp') b4.row (o4.row.le ((t1.trans l6).trans a1)) (fun z hz=>⟨b2 z hz,w0 z.pb (by rw[← k2,← b1];exact List.mem_map_of_mem hz)⟩) (fun z hz=>⟨(u2 z hz).1.le ((t1.trans l6).trans a1),(u2 z hz).2⟩) (by omega) (by omega);have d6:=ck_rSame10 (n:=cp') (m:=t.sc) (o4.row.le ((t1.trans l6).trans a1)) (o6.row.le a1) (fun z hz=>⟨(u2 z hz).1.le ((t1.trans l6).trans a1),(u2 z hz).2⟩) (fun z hz=>⟨(t5 z hz).1.le (l6.trans a1),(t5 z hz).2⟩) (by omega) (by omega);rw[decide_eq_true (show x6.1.map RIt.pb=sm.map RIt.pb by rw[b1,k2,u1])]at d5;rw[decide_eq_true (show sm.map RIt.pb=t.s.map RIt.pb by rw[u1,v1])]at d6;refine go ?_;refine vt1c tr_Held fun _ _=>?_
  refine go ?_;refine vt1b tr_Held fun _ _=>?_
  refine go ?_;refine vt1b tr_Held fun _ _=>?_
  refine go ?_;refine vt1a tr_Held fun _ _=>?_
  refine go ?_;refine vrb ?_;simp
end
theorem framerCuts_full (v m:Int) (b:Bool) (a1:Option Addr) (len1 cap1:Nat) (z1:List Int) (a2:Option Addr) (len2 cap2:Nat) (z2:List Int) (w:World) (w00:(Lit.int .i64 v).wf=true) (w01:(Lit.int .i64 m).wf=true) (w1:IsRow .u8 w a1 len1 cap1 z1) (w2:IsRow .i64 w a2 len2 cap2 z2) (hT:Tabs w) :
  Calls Tryz.prog 7 #[.agg #[(.int .i64 v),(.int .i64 m),(.bool b)],.slice a1 len1 cap1,.slice a2 len2 cap2] w fun e w'=>e=.returned (.bool true)∧Below w.heap.size w w':=by
 obtain ⟨hrow,hlen,hlc,hcm,hn,hwf⟩:=w1.row;rw[ints_bytes hwf]at hrow;have hlen':((z1.take len1).map byteOf).length=len1:=by simpa using hlen
 obtain ⟨hrow2,hlen2,_,_,_,_⟩:=w2.row
 have e2:ints .i64 (z2.take len2)=I64 (z2.take len2):=by
  unfold ints I64
  induction z2.take len2 with
  | nil=>rfl
  | cons x l ih=>rw[List.map_cons,List.flatMap_cons,ih];rfl
 rw[e2]at hrow2;have h:=(ck_FramerCuts (c:=w) hT (v:=v) (m:=m) (F:=b) (nc:=cap2) hrow hn (by rw[hlen'];exact hlc) hrow2).h w (Le.refl w);rw[hlen',hlen2]at h;exact h.mono fun e w' h=>⟨h.1,h.2.below (Nat.le_refl _) (fun _ _=>id)⟩
end Go.Proofs.YtdgmkcfkpknamaaGreatDoor
