import Derived.Test.YtohmcfmcbibbcaaGreatDoorYI2
import Derived.Test.YtohmcfmcbibbcaaGreatDoorYH4
namespace Go.Proofs.YtohmcfmcbibbcaaGreatDoor
open Go.RowKit
set_option linter.unusedVariables false
set_option linter.unusedSimpArgs false
set_option maxRecDepth 100000
set_option maxHeartbeats 8000000
structure RIt where
 p:Pk
 s:Sl
 b:List UInt8
abbrev RIt.pb (x:RIt):Pk × List UInt8:=(x.p,x.b)
abbrev RIt.li (x:RIt):List Value:=itL x.p x.s (.string ⟨x.b.toArray⟩)
def RC (L:List RIt):List Value:=L.flatMap RIt.li
structure RIt.At (x:RIt) (c:World):Prop where
 p:x.p.At x.s c
 n:x.s.ca=none→x.s.cc=0
theorem RIt.At.le {c c':World} {x:RIt} (h:x.At c) (k:Le c c'):x.At c':=⟨h.p.le k,h.n⟩
theorem RC_add (L:List RIt) (x:RIt):RC (L++[x])=RC L++x.li:=by unfold RC;simp
structure FrX where
 l:List RIt
 a:Option Addr
 cp:Nat
 c:World
section
variable {c:World}
theorem tn_From10 {L:List It} {a:Option Addr} {n:Nat} (hr:Row c a (IC L)) (hL:∀ y∈L,y.At c∧y.p.few) (hn:L.length≤100000):Tn Tryz.prog 15 [.slice a L.length n] c (fun x:List RIt × Option Addr × Nat=>.slice x.2.1 x.1.length x.2.2) (fun x c'=>x.1.map RIt.pb=L.map It.pb∧(∀ y∈x.1,y.At c')∧Own9 c' 56 x.2.1 x.1.length x.2.2 (RC x.1)):=by
 refine Tn.in Tryz.func15 ?_;refine go ?_;refine CG.nilr 56 26 ?_;refine vlo (fun y:FrX=>[(0,.slice a L.length n),(3,.slice y.a y.l.length y.cp),(4,.int .i64 y.l.length)]) (fun y=>y.c) (fun _=>[]) (fun y=>[⟨56,26,.slice y.a y.l.length y.cp,y.l.length,RC y.l⟩]) (fun y=>Le c y.c∧y.l.map RIt.pb=(L.take y.l.length).map It.pb∧y.l.length≤L.length∧∀ z∈y.l,z.At y.c) (fun y=>L.length - y.l.length) ⟨[],none,0,c⟩ ⟨Le.refl c,rfl,Nat.zero_le _,by simp⟩ fun y ⟨y1,y2,y3,y4⟩=>?_
 rcases Nat.lt_or_ge y.l.length L.length with h|h
 ·obtain ⟨b5,o5,hR⟩:=Row.fm (f:=It.li) (k:=26) (hr.le y1) (fun x _=>rfl) (by decide) h
  obtain ⟨g1,g2⟩:=hL _ (List.getElem_mem h);have g3:=(g1.b.le9 y1).row;have g4:=g1.b.nil;have g5:=tn_From7 (c:=y.c) _ _ (g1.p.le y1) g2 g1.n;refine go ?_;refine vh [] ?_;refine go ?_;refine vqy 0 ?_;refine go ?_;refine vqtn g5 fun x c' h1 h2=>?_
  refine vqbu 0 ?_;refine vqA fun b6=>?_
  refine vqgb fun a' cp'=>?_
  refine go ?_;refine ved ?_;have e1:y.l.length+1=(y.l++[(⟨L[y.l.length].p,x,L[y.l.length].b⟩:RIt)]).length:=by simp
  refine vj (FrX.mk (y.l++[⟨L[y.l.length].p,x,L[y.l.length].b⟩]) a' cp' c') ⟨y1.trans h1,?_,?_,?_⟩ (hμ:=?_) (hL:=?_) (hR:=?_)
  ·dsimp only
   rw[← e1,List.take_add_one,List.map_append,List.map_append,y2,List.getElem?_eq_getElem h]
   rfl
  ·dsimp only;omega
  ·intro z hz
   rcases List.mem_append.1 hz with hz|hz
   ·exact (y4 z hz).le h1
   ·rw[List.mem_singleton.1 hz]
    exact ⟨h2.1,h2.2⟩
  ·dsimp only;omega
  ·dsimp only
   rw[← e1]
   repeat' (first|exact trivial|refine ⟨rfl,?_⟩)
  ·dsimp only
   rw[← e1,RC_add]
   rfl
 ·refine go ?_
  refine vef9 fun c5 l5 o5=>?_
  exact vrn ((y.l,y.a,y.cp),c5) ⟨y1.trans l5,by rw[y2,List.take_of_length_le h],fun z hz=>(y4 z hz).le l5,o5⟩
end
theorem feedG_hold (v m:Int):∀ (n:Nat) (fst:Bool) (l:List UInt8),(feedG v m n fst l).2.1.length≤l.length
 | 0,_,l=>Nat.le_refl _
 | n+1,fst,l=>by
  by_cases h:nextE v m fst l=0
  ·rw[feedG_go h]
   have:=feedG_hold v m n false (l.drop (nextN l))
   rw[List.length_drop]at this;exact Nat.le_trans this (by omega)
  ·rw[show feedG v m (n+1) fst l=_ from if_neg h]
   split<;>simp
theorem feedS_hold (v m:Int) (S:Fs) (b:List UInt8):(feedS v m S b).2.h.length≤S.h.length+b.length:=by
 unfold feedS
 split
 ·simp
 ·have:=feedG_hold v m (S.h++b).length S.fst (S.h++b)
  exact Nat.le_trans this (Nat.le_of_eq List.length_append)
theorem dec_few {v:Int} {l:List UInt8} (h:l.length≤100000):(decP v l).few:=by
 unfold decP
 split
 ·exact (ok9_form h).fit.few
 ·exact ⟨by simp[zk],by simp[zk],by simp[zk],by simp[zk]⟩
theorem feedG_few (v m:Int):∀ (n:Nat) (fst:Bool) (l:List UInt8),l.length≤100000→∀ z∈(feedG v m n fst l).1,z.1.few
 | 0,_,l,_,z,hz=>by cases hz
 | n+1,fst,l,hl,z,hz=>by
  by_cases h:nextE v m fst l=0
  ·rw[feedG_go h]at hz
   rcases List.mem_cons.1 hz with rfl|hz
   ·exact dec_few (by rw[List.length_take];omega)
   ·exact feedG_few v m n false (l.drop (nextN l)) (by rw[List.length_drop];omega) z hz
  ·rw[show feedG v m (n+1) fst l=_ from if_neg h]at hz
   split at hz<;>cases hz
theorem feedS_few {v m:Int} {S:Fs} {b:List UInt8} (h:S.h.length+b.length≤100000):∀ z∈(feedS v m S b).1,z.1.few:=by
 unfold feedS
 split
 ·intro z hz;cases hz
 ·exact feedG_few v m _ _ _ (by rw[List.length_append];exact h)
theorem feedG_len (v m:Int):∀ (n:Nat) (fst:Bool) (l:List UInt8),(feedG v m n fst l).1.length≤n
 | 0,_,l=>Nat.le_refl _
 | n+1,fst,l=>by
  by_cases h:nextE v m fst l=0
  ·rw[feedG_go h]
   exact Nat.succ_le_succ (feedG_len v m n false _)
  ·rw[show feedG v m (n+1) fst l=_ from if_neg h]
   split<;>simp
theorem feedS_len (v m:Int) (S:Fs) (b:List UInt8):(feedS v m S b).1.length≤S.h.length+b.length:=by
 unfold feedS
 split
 ·simp
 ·have:=feedG_len v m (S.h++b).length S.fst (S.h++b)
  exact Nat.le_trans this (Nat.le_of_eq List.length_append)
abbrev I64 (l:List Int):List Value:=l.flatMap fun k=>[.int .i64 k]
theorem feedS_nil0 (v m:Int) (F:Bool):feedS v m ⟨F,[],0⟩ []=([],⟨F,[],0⟩):=by simp[feedS,feedG]
theorem RC_lenF (L:List RIt):(RC L).length=L.length * 26:=fm_len (fun _ _=>rfl)
theorem RC_oneF (L:List RIt):∀ z∈RC L,z.oneCell'=true:=fun z hz=>by
 obtain ⟨x,_,hx⟩:=List.mem_flatMap.1 hz;exact List.all_eq_true.1 (show x.li.all (·.oneCell')=true from rfl) z hx
end Go.Proofs.YtohmcfmcbibbcaaGreatDoor
