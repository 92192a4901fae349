import Derived.Test.YtohmcfmcbibbcaaGreatDoorYK4
import Derived.Test.YtohmcfmcbibbcaaGreatDoorYH9
import Derived.Test.YtohmcfmcbibbcaaGreatDoorYH6
import Derived.Test.YtohmcfmcbibbcaaGreatDoorYI3
namespace Go.Proofs.YtohmcfmcbibbcaaGreatDoor
open Go.RowKit
set_option linter.unusedVariables false
set_option linter.unusedSimpArgs false
set_option maxRecDepth 100000
set_option maxHeartbeats 8000000
theorem dec0_form {v:Int} {l:List UInt8} (h:decE v l=0):formOk v l=true:=by
 unfold decE at h
 split at h
 ·split at h
  ·assumption
  ·exact absurd h (by decide)
 ·exact absurd h (by decide)
theorem pre_eq {v:Int} {l:List UInt8} {k:Nat} (hk:k≤l.length) (h1:decE v (l.take k)=0) (h2:decE v l=0):k=l.length:=by
 obtain ⟨a1,a2⟩:=form_len (dec0_form h1);obtain ⟨b1,b2⟩:=form_len (dec0_form h2);obtain ⟨c1,c2⟩:=head_app (l:=l.take k) (m:=l.drop k) (by rw[a1];decide);have c3:=c2 a1;rw[List.take_append_drop]at c3;rw[c3]at b2;rw[List.length_take]at a2;omega
section
variable {c:World}
theorem ck_PouchPrefix (hT:Tabs c) {v at_:Int} {ab:Option Addr} {nb:Nat} {bs:List UInt8} (hb:Row c ab (B8 bs)) (hbn:ab=none→nb=0) (hbl:bs.length≤nb):Ck Tryz.prog 4 [.int .i64 v,.slice ab bs.length nb,.int .i64 at_] c (.bool true):=by
 have hV:4+v % 18446744073709551616 % 2=4∨4+v % 18446744073709551616 % 2=5:=by omega
 have cv:=ck_version (c:=c) v;generalize 4+v % 18446744073709551616 % 2=V at *;refine Ck.in Tryz.func4 ?_;refine go ?_;refine vmi ?_;refine vslt fun al h1 h2=>?_
 have hq:(min (bs.length:Int) 300).toNat=(bs.take (min (bs.length:Int) 300).toNat).length:=by rw[List.length_take];omega
 have hq2:(bs.take (min (bs.length:Int) 300).toNat).length≤300:=by rw[← hq];omega
 have hq3:(bs.take (min (bs.length:Int) 300).toNat).length≤nb:=by rw[← hq];omega
 refine vle (v':=.slice al (bs.take (min (bs.length:Int) 300).toNat).length nb) (by rw[← hq]) ?_;generalize bs.take (min (bs.length:Int) 300).toNat=l at *;clear hq;have t1:=Int.emod_nonneg (at_ % 18446744073709551616) (b:=(l.length:Int)+1) (by omega);have t2:=Int.emod_lt_of_pos (at_ % 18446744073709551616) (b:=(l.length:Int)+1) (by omega);refine go ?_;generalize at_ % 18446744073709551616 % ((l.length:Int)+1)=t at *;obtain ⟨t,rfl⟩:=Int.eq_ofNat_of_zero_le t1;have hk:t≤l.length:=by omega
 have hk2:(l.take t).length=t:=by rw[List.length_take];omega
 refine vslt (hr:=h1) fun a2 h3 h4=>?_
 have hq:((t:Nat):Int).toNat=(l.take t).length:=by rw[hk2];omega
 refine vle (v':=.slice a2 (l.take t).length nb) (by rw[← hq]) ?_;rw[show ((t:Nat):Int).toNat=t by omega]at h3;refine vtn (tn_Decode (v:=V) hT h3 h4 (by rw[hk2];omega) (by rw[hk2];omega) (fun _=>(ok9_form (by rw[hk2];omega)).fit)) fun s1 c1 l1 ⟨p1,p2⟩=>?_
 refine go ?_;refine vA fun b1=>?_
 refine go ?_;refine vtn (tn_Decode (v:=V) (hT.le l1) (h1.le l1) h2 hq3 (by omega) (fun _=>(ok9_form (by omega)).fit)) fun s2 c2 l2 ⟨p3,p4⟩=>?_
 refine go ?_;refine vA fun b2=>?_
 refine go ?_;refine vtn (tn_alive ((hT.le l1).le l2)) fun _ c3 l3 _=>?_
 have q1:=p1.le (l2.trans l3);have q3:=p3.le l3;have hA:=tn_alive (((hT.le l1).le l2).le l3);have f1:(decP V (l.take t)).few:=dec_few (by rw[hk2];omega);have f2:(decP V l).few:=dec_few (by omega)
 by_cases e1:decE V (l.take t)=0
 ·by_cases e2:decE V l=0
  ·have e3:=pre_eq hk e1 e2
   have e4:l.take t=l:=by rw[e3,List.take_length]
   rw[e4]at q1 f1 ⊢;rw[e2];have cs:=ck_Same _ _ _ _ q1 f1 q3 f2;rw[decide_eq_true rfl]at cs
   repeat' first|refine go ?_|fail
   exact vrb rfl
  ·rw[e1]
   repeat' first|refine go ?_|fail
   refine vtn hA fun _ c4 l4 _=>?_
   repeat' first|refine go ?_|fail
   exact vrb rfl
 ·repeat' first|refine go ?_|fail
  refine vtn hA fun _ c4 l4 _=>?_
  repeat' first|refine go ?_|fail
  exact vrb rfl
end
theorem pouchPrefix_full (v:Int) (a1:Option Addr) (len1 cap1:Nat) (z1:List Int) (n:Int) (w:World) (w0:(Lit.int .i64 v).wf=true) (w1:IsRow .u8 w a1 len1 cap1 z1) (w2:(Lit.int .i64 n).wf=true) (hT:Tabs w) :
  Calls Tryz.prog 4 #[.int .i64 v,.slice a1 len1 cap1,.int .i64 n] w fun e w'=>e=.returned (.bool true)∧Below w.heap.size w w':=by
 obtain ⟨bs,hl,hr,hn,hc⟩:=row_u8 w1;subst hl;exact ((ck_PouchPrefix (c:=w) hT (v:=v) (at_:=n) hr hn hc).h w (Le.refl w)).mono fun e w' h=>⟨h.1,h.2.below (Nat.le_refl _) (fun _ _=>id)⟩
end Go.Proofs.YtohmcfmcbibbcaaGreatDoor
