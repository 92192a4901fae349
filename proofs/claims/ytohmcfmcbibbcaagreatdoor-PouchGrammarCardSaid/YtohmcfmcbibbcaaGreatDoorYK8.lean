import Derived.Test.YtohmcfmcbibbcaaGreatDoorYK4
import Derived.Test.YtohmcfmcbibbcaaGreatDoorYK6
import Derived.Test.YtohmcfmcbibbcaaGreatDoorYI3
namespace Go.Proofs.YtohmcfmcbibbcaaGreatDoor
open Go.RowKit
set_option linter.unusedVariables false
set_option linter.unusedSimpArgs false
set_option maxRecDepth 100000
set_option maxHeartbeats 8000000
theorem dec_cases {v:Int} {l:List UInt8} (hv:v=4∨v=5):(decE v l=0∧rightP v (decP v l)=true)∨decE v l=3∨decE v l=4:=by
 by_cases hO:formOk v l=true
 ·by_cases hR:rightP v (formP v l)=true
  ·have e:decE v l=0:=(if_pos hv).trans ((if_pos hO).trans (if_pos hR))
   exact .inl ⟨e,by rw[show decP v l=formP v l from if_pos e];exact hR⟩
  ·exact .inr (.inr ((if_pos hv).trans ((if_pos hO).trans (if_neg hR))))
 ·exact .inr (.inl ((if_pos hv).trans (if_neg hO)))
section
variable {c:World}
theorem ck_PouchGrammar (hT:Tabs c) {v:Int} {ab:Option Addr} {nb:Nat} {bs:List UInt8} (hb:Row c ab (B8 bs)) (hbn:ab=none→nb=0) (hbl:bs.length≤nb):Ck Tryz.prog 5 [.int .i64 v,.slice ab bs.length nb] c (.bool true):=by
 have hV:4+v % 18446744073709551616 % 2=4∨4+v % 18446744073709551616 % 2=5:=by omega
 have cv:=ck_version (c:=c) v;generalize 4+v % 18446744073709551616 % 2=V at *;refine Ck.in Tryz.func5 ?_;refine go ?_;refine vmi ?_;refine vslt fun al h1 h2=>?_
 have hq:(min (bs.length:Int) 400).toNat=(bs.take (min (bs.length:Int) 400).toNat).length:=by rw[List.length_take];omega
 have hq2:(bs.take (min (bs.length:Int) 400).toNat).length≤400:=by rw[← hq];omega
 have hq3:(bs.take (min (bs.length:Int) 400).toNat).length≤nb:=by rw[← hq];omega
 refine vle (v':=.slice al (bs.take (min (bs.length:Int) 400).toNat).length nb) (by rw[← hq]) ?_;generalize bs.take (min (bs.length:Int) 400).toNat=l at *;clear hq;refine go ?_;refine vtn (tn_Decode (v:=V) hT h1 h2 hq3 (by omega) (fun _=>(ok9_form (by omega)).fit)) fun s1 c1 l1 ⟨p1,p2⟩=>?_
 refine go ?_;refine vA fun b1=>?_
 refine go ?_;refine vtn (tn_rDecode (v:=V) (hT.le l1) (h1.le l1) h2 hq3 (by omega)) fun s2 c2 l2 ⟨p3,p4,p5⟩=>?_
 refine go ?_;refine vA fun b2=>?_
 refine go ?_;refine vh [0,1] ?_;refine vqtn (tn_alive ((hT.le l1).le l2)) fun _ c3 l3 _=>?_
 have f2:(decP V l).few:=dec_few (by omega);have q1:=p1.le (l2.trans l3);have q3:=p3.le l3
 repeat' first|refine go ?_|refine vqx 0 ?_|refine vqgF (b:=!true) ?_ (hp:=rfl)|fail
 refine vqgF (b:=!decide (decE V l=decE V l)) ?_ (hp:=by simp)
 repeat' first|refine go ?_|refine vqx 0 ?_|fail
 refine vqtn (tn_From7 _ _ q1 f2 p2) fun s4 c4 l4 ⟨g1,g2⟩=>?_
 have cs:=ck_rSame _ _ _ _ g1 (q3.le l4) f2 f2 g2 p4;rw[decide_eq_true rfl]at cs
 repeat' first|refine vqx 0 ?_|refine vqkk cs ?_|fail
 refine go ?_;rcases dec_cases (l:=l) hV with ⟨e1,e2⟩|e1|e1
 ·have hF:Fit (decP V l):=by
   have:decP V l=formP V l:=if_pos e1
   rw[this];exact (ok9_form (by omega)).fit
  have cr:=ck_Right (((hT.le (l1.trans l2)).le l3).le l4) V _ s1 (q1.le l4) hF;rw[e2]at cr;rw[e1]
  repeat' first|refine go ?_|fail
  exact vrb rfl
 all_goals
  rw[e1]
  repeat' first|refine go ?_|fail
  exact vrb rfl
end
theorem pouchGrammar_full (v:Int) (a1:Option Addr) (len1 cap1:Nat) (z1:List Int) (w:World) (w0:(Lit.int .i64 v).wf=true) (w1:IsRow .u8 w a1 len1 cap1 z1) (hT:Tabs w) :
  Calls Tryz.prog 5 #[.int .i64 v,.slice a1 len1 cap1] w fun e w'=>e=.returned (.bool true)∧Below w.heap.size w w':=by
 obtain ⟨bs,hl,hr,hn,hc⟩:=row_u8 w1;subst hl;exact ((ck_PouchGrammar (c:=w) hT (v:=v) hr hn hc).h w (Le.refl w)).mono fun e w' h=>⟨h.1,h.2.below (Nat.le_refl _) (fun _ _=>id)⟩
end Go.Proofs.YtohmcfmcbibbcaaGreatDoor
