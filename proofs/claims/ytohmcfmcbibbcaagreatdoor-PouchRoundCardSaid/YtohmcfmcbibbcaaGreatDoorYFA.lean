import Derived.Test.YtohmcfmcbibbcaaGreatDoorUtf
import Derived.Test.YtohmcfmcbibbcaaGreatDoorYF2
import Derived.Laws.IdiomStrings
import Derived.Lib.BufferRead
import Derived.Test.YtohmcfmcbibbcaaGreatDoorText
import Derived.Test.YtohmcfmcbibbcaaGreatDoorPrp
namespace Go.Proofs.YtohmcfmcbibbcaaGreatDoor
open Go.Lib
set_option linter.unusedVariables false
set_option linter.unusedSimpArgs false
def cnt (l:List UInt8):Option Nat:=if isText l then some (runeCountL l) else none
theorem cnt_nil:cnt []=some 0:=by
 have:=cntL_eq 0 [] (by simp)
 unfold cnt;rw[← this];rfl
theorem cnt_bad (l:List UInt8) (hne:l≠[]) (h:sgL l=0):cnt l=none:=by
 have:=cntL_eq (l.length+1) l (by omega)
 unfold cnt;rw[← this,cntL,if_neg hne,if_pos h]
theorem cnt_good (l:List UInt8) (hne:l≠[]) (h:sgL l≠0):cnt l=(cnt (l.drop (sgL l))).map (·+1):=by
  have h1:=cntL_eq (l.length+1) l (by omega);have h2:=cntL_eq l.length (l.drop (sgL l)) (by simp);unfold cnt;rw[← h1,← h2,cntL,if_neg hne,if_neg h]
def Sg (p:List UInt8):Prop:=p=[97]∨p=[98]∨p=[195,164]∨p=[226,130,172]∨p=[240,159,153,130]∨p=[49]∨p=[99]
theorem sg_len {p:List UInt8} (h:Sg p) (r:List UInt8):sgL (p++r)=p.length∧p≠[]:=by
 rcases h with rfl|rfl|rfl|rfl|rfl|rfl|rfl
 all_goals
  refine ⟨?_,by simp⟩;rw[sgL_N _ (by simp)];simp[sgN]
  try omega
theorem cnt_cons {p:List UInt8} (h:Sg p) (r:List UInt8):cnt (p++r)=(cnt r).map (·+1):=by
  obtain ⟨h1,h2⟩:=sg_len h r;rw[cnt_good _ (by simp[h2]) (by rw[h1];exact fun e=>h2 (List.length_eq_zero_iff.1 e)),h1,List.drop_left]
theorem cnt_flat:∀ (ps:List (List UInt8)) (r:List UInt8),(∀ p∈ps,Sg p)→cnt (ps.flatten++r)=(cnt r).map (·+ps.length)
  | [],r,_=>by simp
  | p :: ps,r,h=>by
    rw[List.flatten_cons,List.append_assoc,cnt_cons (h p (by simp)),cnt_flat ps r (fun q hq=>h q (by simp[hq]))];cases cnt r<;>simp
    omega
theorem cnt_all (ps:List (List UInt8)) (h:∀ p∈ps,Sg p):cnt ps.flatten=some ps.length:=by
 have:=cnt_flat ps [] h
 rw[List.append_nil,cnt_nil]at this;simpa using this
def startB (c:UInt8):Bool:=decide (c.toNat < 128)||decide (192≤c.toNat)
theorem cut_sg {p:List UInt8} (h:Sg p) (r:List UInt8) (k:Nat) (hk:k < p.length) :
  (k=0∧startB ((p++r).getD k 0)=true)∨(0 < k∧startB ((p++r).getD k 0)=false∧cnt ((p++r).take k)=none∧cnt ((p++r).drop k)=none):=by
 by_cases h0:k=0
 ·refine .inl ⟨h0,?_⟩
  subst h0;rcases h with rfl|rfl|rfl|rfl|rfl|rfl|rfl<;>rfl
 ·refine .inr ⟨by omega,?_⟩
  have e1:(p++r).take k=p.take k:=by rw[List.take_append_of_le_length (by omega)]
  have e2:(p++r).drop k=p.drop k++r:=by rw[List.drop_append_of_le_length (by omega)]
  have e3:(p++r).getD k 0=p.getD k 0:=by
   rw[List.getD_eq_getElem?_getD,List.getD_eq_getElem?_getD,List.getElem?_append_left hk]
  rw[e1,e2,e3];rcases h with rfl|rfl|rfl|rfl|rfl|rfl|rfl
  all_goals
   simp at hk
   try omega
  ·obtain rfl:k=1:=by omega
   exact ⟨rfl,cnt_bad _ (by simp) (by rw[sgL_N _ (by simp)];simp[sgN]),cnt_bad _ (by simp) (by rw[sgL_N _ (by simp)];simp[sgN])⟩
  ·rcases (show k=1∨k=2 from by omega) with rfl|rfl
   all_goals exact ⟨rfl,cnt_bad _ (by simp) (by rw[sgL_N _ (by simp)];simp[sgN]),cnt_bad _ (by simp) (by rw[sgL_N _ (by simp)];simp[sgN])⟩
  ·rcases (show k=1∨k=2∨k=3 from by omega) with rfl|rfl|rfl
   all_goals exact ⟨rfl,cnt_bad _ (by simp) (by rw[sgL_N _ (by simp)];simp[sgN]),cnt_bad _ (by simp) (by rw[sgL_N _ (by simp)];simp[sgN])⟩
theorem cut_flat:∀ (ps:List (List UInt8)) (k:Nat),(∀ p∈ps,Sg p)→k < ps.flatten.length →
  (cnt (ps.flatten.take k)).isSome=startB (ps.flatten.getD k 0)∧(cnt (ps.flatten.drop k)).isSome=startB (ps.flatten.getD k 0)
 | [],k,_,hk=>by simp at hk
 | p :: ps,k,h,hk=>by
  have hp:=h p (by simp);have hps:∀ q∈ps,Sg q:=fun q hq=>h q (by simp[hq])
  rw[List.flatten_cons]at hk ⊢
  by_cases hlt:k < p.length
  ·rcases cut_sg hp ps.flatten k hlt with ⟨rfl,h1⟩|⟨h0,h1,h2,h3⟩
   ·rw[h1,List.take_zero,cnt_nil,List.drop_zero,cnt_cons hp,cnt_all ps hps]
    exact ⟨rfl,rfl⟩
   ·rw[h1,h2,h3];exact ⟨rfl,rfl⟩
  ·rw[List.length_append]at hk
   obtain ⟨i1,i2⟩:=cut_flat ps (k - p.length) hps (by omega);have e1:(p++ps.flatten).take k=p++ps.flatten.take (k - p.length):=by rw[List.take_append,List.take_of_length_le (by omega)]
   have e2:(p++ps.flatten).drop k=ps.flatten.drop (k - p.length):=by rw[List.drop_append,List.drop_of_length_le (by omega)];rfl
   have e3:(p++ps.flatten).getD k 0=ps.flatten.getD (k - p.length) 0:=by
    rw[List.getD_eq_getElem?_getD,List.getD_eq_getElem?_getD,List.getElem?_append_right (by omega)]
   rw[e1,e2,e3,cnt_cons hp];refine ⟨?_,i2⟩;rw[← i1];cases cnt (ps.flatten.take (k - p.length))<;>rfl
def sg8:Nat→List UInt8
 | 0=>[97]
 | 1=>[98]
 | 2=>[97,98]
 | 3=>[195,164]
 | 4=>[226,130,172]
 | 5=>[240,159,153,130]
 | 6=>[49]
 | _=>[99]
def pcs:Nat→List (List UInt8)
 | 2=>[[97],[98]]
 | k=>[sg8 k]
theorem pcs_flat (k:Nat):(pcs k).flatten=sg8 k:=by unfold pcs;split<;>simp[sg8]
theorem pcs_sg (k:Nat):∀ p∈pcs k,Sg p:=by
 unfold pcs
 split
 ·intro p hp;simp at hp;rcases hp with rfl|rfl<;>simp[Sg]
 ·intro p hp
  simp at hp;subst hp;unfold sg8
  split<;>simp_all [Sg]
theorem sg8_len (k:Nat):(sg8 k).length≤4:=by unfold sg8;split<;>simp
def fixL (l:List UInt8):List UInt8:=(l.take 8).flatMap fun c=>sg8 (c.toNat % 8)
theorem fixL_flat (l:List UInt8):∃ ps:List (List UInt8),(∀ p∈ps,Sg p)∧fixL l=ps.flatten:=by
 refine ⟨(l.take 8).flatMap fun c=>pcs (c.toNat % 8),?_,?_⟩
 ·intro p hp
  obtain ⟨c,_,hc⟩:=List.mem_flatMap.1 hp;exact pcs_sg _ p hc
 ·unfold fixL
  generalize l.take 8=m
  induction m with
  | nil=>rfl
  | cons c t ih=>simp only[List.flatMap_cons,List.flatten_append,pcs_flat,ih]
theorem flat8_len (m:List UInt8):(m.flatMap fun c=>sg8 (c.toNat % 8)).length≤4 * m.length:=by
 induction m with
 | nil=>simp
 | cons c t ih=>have:=sg8_len (c.toNat % 8);simp only[List.flatMap_cons,List.length_append,List.length_cons];omega
theorem fixL_len (l:List UInt8):(fixL l).length≤32:=by
 have:=flat8_len (l.take 8)
 unfold fixL;have h2:(l.take 8).length≤8:=List.length_take_le _ _;omega
theorem joins (a b:List UInt8):cnt (fixL a)≠none∧cnt (fixL a++fixL b)=some ((cnt (fixL a)).getD 0+(cnt (fixL b)).getD 0)∧cnt (fixL b)≠none ∧
  ∀ k,k < (fixL a++fixL b).length→(cnt ((fixL a++fixL b).take k)).isSome=startB ((fixL a++fixL b).getD k 0)∧(cnt ((fixL a++fixL b).drop k)).isSome=startB ((fixL a++fixL b).getD k 0):=by
 obtain ⟨ps,h1,e1⟩:=fixL_flat a;obtain ⟨qs,h2,e2⟩:=fixL_flat b;have h3:∀ p∈ps++qs,Sg p:=fun p hp=>(List.mem_append.1 hp).elim (h1 p) (h2 p)
 have e3:ps.flatten++qs.flatten=(ps++qs).flatten:=by simp
 rw[e1,e2,e3,cnt_all ps h1,cnt_all qs h2,cnt_all _ h3];exact ⟨by simp,by simp,by simp,fun k hk=>cut_flat (ps++qs) k h3 hk⟩
theorem isText_cnt (l:List UInt8):isText l=(cnt l).isSome:=by unfold cnt;cases isText l<;>rfl
end Go.Proofs.YtohmcfmcbibbcaaGreatDoor
namespace Go.Proofs.YtohmcfmcbibbcaaGreatDoor
open Go.Lib
set_option linter.unusedVariables false
set_option linter.unusedSimpArgs false
def Sg2 (p:List UInt8):Prop:=(∃ c:UInt8,p=[c]∧0 < c.toNat∧c.toNat < 128)∨p=[195,164]
theorem sg2_len {p:List UInt8} (h:Sg2 p) (r:List UInt8):sgL (p++r)=p.length∧p≠[]:=by
 rcases h with ⟨c,rfl,h1,h2⟩|rfl
 ·refine ⟨?_,by simp⟩
  rw[sgL_N _ (by simp)];have e:(([c]++r).getD 0 0)=c:=rfl;rw[e];unfold sgN;rw[if_pos h2,if_neg (by omega)]
  rfl
 ·refine ⟨?_,by simp⟩
  rw[sgL_N _ (by simp)];simp[sgN]
  try omega
theorem cnt2_cons {p:List UInt8} (h:Sg2 p) (r:List UInt8):cnt (p++r)=(cnt r).map (·+1):=by
  obtain ⟨h1,h2⟩:=sg2_len h r;rw[cnt_good _ (by simp[h2]) (by rw[h1];exact fun e=>h2 (List.length_eq_zero_iff.1 e)),h1,List.drop_left]
theorem cnt2_flat:∀ (ps:List (List UInt8)),(∀ p∈ps,Sg2 p)→cnt ps.flatten=some ps.length
 | [],_=>cnt_nil
 | p :: ps,h=>by
  rw[List.flatten_cons,cnt2_cons (h p (by simp)),cnt2_flat ps (fun q hq=>h q (by simp[hq]))]
  rfl
def Vt (l:List UInt8):Prop:=∃ ps:List (List UInt8),(∀ p∈ps,Sg2 p)∧l=ps.flatten
theorem Vt.nil:Vt []:=⟨[],by simp,rfl⟩
theorem Vt.append {l m:List UInt8} (h:Vt l) (k:Vt m):Vt (l++m):=by
 obtain ⟨ps,h1,rfl⟩:=h;obtain ⟨qs,k1,rfl⟩:=k;refine ⟨ps++qs,fun p hp=>?_,by simp⟩;rcases List.mem_append.1 hp with h|h
 ·exact h1 p h
 ·exact k1 p h
theorem Vt.one {c:UInt8} (h1:0 < c.toNat) (h2:c.toNat < 128):Vt [c]:=⟨[[c]],by simp;exact .inl ⟨c,rfl,h1,h2⟩,rfl⟩
theorem Vt.cons {c:UInt8} {l:List UInt8} (h1:0 < c.toNat) (h2:c.toNat < 128) (h:Vt l):Vt (c :: l):=(Vt.one h1 h2).append h
theorem Vt.text {l:List UInt8} (h:Vt l):isText l=true:=by
 obtain ⟨ps,h1,rfl⟩:=h;rw[isText_cnt,cnt2_flat ps h1]
 rfl
theorem Vt.ok {s:ByteArray} (h:Vt s.data.toList) (hs:s.size≤65535):okText s=true:=by
 unfold okText;rw[decide_eq_true hs,h.text]
 rfl
theorem wild_no {x:List UInt8} (h1:43 ∉ x) (h2:35 ∉ x):wildL x=false:=by
 unfold wildL;simp[h1,h2]
end Go.Proofs.YtohmcfmcbibbcaaGreatDoor
namespace Go.Proofs.YtohmcfmcbibbcaaGreatDoor
open Go.RowKit
set_option linter.unusedVariables false
set_option linter.unusedSimpArgs false
def tsg:Nat→List UInt8
 | 0=>[97]
 | 1=>[98]
 | 2=>[47]
 | 3=>[99]
 | 4=>[100]
 | 5=>[47]
 | 6=>[195,164]
 | _=>[101]
theorem tsg_len (k:Nat):(tsg k).length≤2:=by unfold tsg;split<;>simp
theorem tsg_vt (k:Nat):Vt (tsg k):=by
 unfold tsg
 split
 all_goals first|exact Vt.one (by decide) (by decide)|exact ⟨[[195,164]],by simp;exact .inr rfl,rfl⟩
theorem tsg_in (k:Nat):∀ c∈tsg k,c∈([97,98,47,99,100,195,164,101]:List UInt8):=by
 unfold tsg
 split<;>decide
def tfixR (l:List UInt8):List UInt8:=(l.take 8).flatMap fun c=>tsg (c.toNat % 8)
def tfixL (l:List UInt8):List UInt8:=if (tfixR l).isEmpty then [97] else tfixR l
theorem tflat_len (m:List UInt8):(m.flatMap fun c=>tsg (c.toNat % 8)).length≤2 * m.length:=by
 induction m with
 | nil=>simp
 | cons c t ih=>have:=tsg_len (c.toNat % 8);simp only[List.flatMap_cons,List.length_append,List.length_cons];omega
theorem tfix_len (l:List UInt8):(tfixL l).length≤16:=by
 have:=tflat_len (l.take 8)
 have h2:(l.take 8).length≤8:=List.length_take_le _ _;unfold tfixL tfixR
 split
 ·simp
 ·omega
theorem tfix_ne (l:List UInt8):tfixL l≠[]:=by
 unfold tfixL
 split
 ·simp
 ·rename_i h;intro e;rw[e]at h;simp at h
theorem tfix_vt (l:List UInt8):Vt (tfixL l):=by
 unfold tfixL
 split
 ·exact Vt.one (by decide) (by decide)
 ·unfold tfixR
  generalize l.take 8=m
  induction m with
  | nil=>exact Vt.nil
  | cons c t ih=>rw[List.flatMap_cons];exact (tsg_vt _).append ih
theorem tfix_in (l:List UInt8):∀ c∈tfixL l,c∈([97,98,47,99,100,195,164,101]:List UInt8):=by
 unfold tfixL
 split
 ·decide
 ·intro c hc
  obtain ⟨d,_,hd⟩:=List.mem_flatMap.1 hc;exact tsg_in _ c hd
def tfixB (s:ByteArray) (k:Nat):ByteArray:=⟨((s.data.toList.take k).flatMap fun c=>tsg (c.toNat % 8)).toArray⟩
def tsgB (k:Nat):ByteArray:=⟨(tsg k).toArray⟩
def tfixS (s:ByteArray):ByteArray:=⟨(tfixL s.data.toList).toArray⟩
theorem tfixB_succ (s:ByteArray) (k:Nat) (h:k < s.size):tfixB s k++tsgB (s[k].toNat % 8)=tfixB s (k+1):=by
 have h1:s.data.toList.take (k+1)=s.data.toList.take k++[s[k]]:=by
  rw[List.take_succ_eq_append_getElem (by rw[sz_list];exact h)];rfl
 unfold tfixB tsgB;rw[h1,List.flatMap_append];apply ByteArray.ext;simp
theorem tfixB_end (s:ByteArray) (k:Nat) (h:k=8∨k=s.size) (h8:k≤8):tfixB s k=⟨(tfixR s.data.toList).toArray⟩:=by
 unfold tfixB tfixR;rcases h with rfl|rfl
 ·rfl
 ·have h1:s.data.toList.take s.size=s.data.toList.take 8:=by rw[List.take_of_length_le (by rw[sz_list];omega),List.take_of_length_le (by rw[sz_list];omega)]
  rw[h1]
theorem tfixB_len (s:ByteArray) (k:Nat):(tfixB s k).size≤2 * k:=by
 have:=tflat_len (s.data.toList.take k)
 have h2:(s.data.toList.take k).length≤k:=List.length_take_le _ _;show ((s.data.toList.take k).flatMap fun c=>tsg (c.toNat % 8)).toArray.size≤2 * k;simp only[List.size_toArray];omega
theorem tsgB_len (k:Nat):(tsgB k).size≤2:=by
 have:=tsg_len k
 show (tsg k).toArray.size≤2;simp only[List.size_toArray];omega
set_option maxRecDepth 100000 in
set_option maxHeartbeats 1000000 in
theorem tfix_any (s:ByteArray) (w:World) (hs:s.size≤9223372036854775807) :
  Calls Tryz.prog 58 #[.string s] w fun e w'=>e=.returned (.string (tfixS s))∧Kept No w w':=by
 go_enter Tryz.func58,Tryz.ntmps58
 go_wp2
 have hk1:Kept No w (w.alloc (.cells #[.string ⟨#[97]⟩,.string ⟨#[98]⟩,.string ⟨#[47]⟩,.string ⟨#[99]⟩,.string ⟨#[100]⟩,.string ⟨#[47]⟩,.string ⟨#[195,164]⟩,.string ⟨#[101]⟩] 9)):=(Kept.refl No w).alloc _
 have hcl:∀ j,j < 8→(w.alloc (.cells #[.string ⟨#[97]⟩,.string ⟨#[98]⟩,.string ⟨#[47]⟩,.string ⟨#[99]⟩,.string ⟨#[100]⟩,.string ⟨#[47]⟩,.string ⟨#[195,164]⟩,.string ⟨#[101]⟩] 9)).cell? ⟨w.heap.size,j,none⟩=some (.string (tsgB j)):=by
  intro j hj;rw[(Blk.new w _ _).cell];rcases (show j=0∨j=1∨j=2∨j=3∨j=4∨j=5∨j=6∨j=7 from by omega) with rfl|rfl|rfl|rfl|rfl|rfl|rfl|rfl<;>rfl
 have HCL:=Lib.hid hcl;clear hcl
 go_loop [4,5] (fun o i=>∃ k:Nat,i=.int .i64 k∧k≤s.size∧k≤8∧o=.string (tfixB s k)) (fun _ i=>8 - (intOf i).toNat)
 case atStart=>exact ⟨0,rfl,by omega,by omega,rfl⟩
 case round =>
  obtain ⟨k,rfl,hks,hk8,rfl⟩:=hrel
  by_cases hlt:k < s.size∧k < 8
  ·obtain ⟨hl1,hl2⟩:=hlt
   have hl1I:(k:Int) < s.size:=by omega
   have hl2I:(k:Int) < 8:=by omega
   have hc:=HCL.out (s[k].toNat % 8) (by omega);have hb:=byte_lt s[k];have hN:((s[k].toNat:Int) % 8).toNat=s[k].toNat % 8:=by omega
   have hB0:(0:Int)≤(s[k].toNat:Int) % 8:=by omega
   have hB1:(s[k].toNat:Int) % 8 < 8:=by omega
   have hlen:=tfixB_len s k;have hlen2:=tsgB_len (s[k].toNat % 8);have HS:=Lib.hid (tfixB_succ s k hl1)
   go_wp2
   go_round
   case rel=>exact ⟨k+1,by go_num,by omega,by omega,by rw[HS.out]⟩
   case measure=>simp[intOf];omega
  ·have hend:k=8∨k=s.size:=by omega
   have HE:=Lib.hid (tfixB_end s k hend hk8);have HF:Hid (tfixS s=if (tfixR s.data.toList).isEmpty then ⟨#[97]⟩ else ⟨(tfixR s.data.toList).toArray⟩):=Lib.hid (by unfold tfixS tfixL;split<;>rfl);rw[HE.out];generalize tfixR s.data.toList=R at *;clear hend HE;cases R with
   | nil =>
    have HT:Hid (tfixS s=⟨#[97]⟩):=Lib.hid (by rw[HF.out];rfl);clear HF
    by_cases hl1:k < s.size
    ·have hl1I:(k:Int) < s.size:=by omega
     have hl2I:(8:Int)≤k:=by omega
     clear hlt
     go_wp2
     go_ret
     exact ⟨by rw[HT.out];rfl,hk1⟩
    ·have hl1I:(s.size:Int)≤k:=by omega
     clear hlt
     go_wp2
     go_ret
     exact ⟨by rw[HT.out];rfl,hk1⟩
   | cons c t =>
    have HT:Hid (tfixS s=⟨(c :: t).toArray⟩):=Lib.hid (by rw[HF.out];rfl);clear HF
    by_cases hl1:k < s.size
    ·have hl1I:(k:Int) < s.size:=by omega
     have hl2I:(8:Int)≤k:=by omega
     clear hlt
     go_wp2
     go_ret
     exact ⟨by rw[HT.out];rfl,hk1⟩
    ·have hl1I:(s.size:Int)≤k:=by omega
     clear hlt
     go_wp2
     go_ret
     exact ⟨by rw[HT.out];rfl,hk1⟩
theorem name_of {n:ByteArray} (hv:Vt n.data.toList) (hs:n.size≤65535) (h0:0 < n.size) (hw:wildL n.data.toList=false):nameB n=true:=by
 unfold nameB;rw[hv.ok hs,hw,decide_eq_true h0]
 rfl
def okChars:List UInt8:=[97,98,47,99,100,195,164,101]
structure Made (T:ByteArray):Prop where
 vt:Vt T.data.toList
 ne:T.data.toList≠[]
 chars:∀ c∈T.data.toList,c∈okChars
 len:T.data.toList.length≤16
theorem made_fix (s:ByteArray):Made (tfixS s):=⟨tfix_vt _,tfix_ne _,tfix_in _,tfix_len _⟩
section
variable {T:ByteArray}
theorem Made.size (h:Made T):0 < T.size∧T.size≤16:=by
 have h1:=h.len;have h2:=List.length_pos_iff.2 h.ne;rw[sz_list]at h1 h2;exact ⟨h2,h1⟩
theorem Made.not_in (h:Made T) {c:UInt8} (hc:c ∉ okChars):c ∉ T.data.toList:=fun hm=>hc (h.chars c hm)
theorem Made.wild (h:Made T):wildL T.data.toList=false:=wild_no (h.not_in (by decide)) (h.not_in (by decide))
theorem Made.name (h:Made T):nameB T=true:=name_of h.vt (by have:=h.size;omega) h.size.1 h.wild
end
def fixB (s:ByteArray) (k:Nat):ByteArray:=⟨((s.data.toList.take k).flatMap fun c=>sg8 (c.toNat % 8)).toArray⟩
def sgB (k:Nat):ByteArray:=⟨(sg8 k).toArray⟩
def fixS (s:ByteArray):ByteArray:=⟨(fixL s.data.toList).toArray⟩
theorem fixB_zero (s:ByteArray):fixB s 0=⟨#[]⟩:=rfl
theorem fixB_succ (s:ByteArray) (k:Nat) (h:k < s.size):fixB s k++sgB (s[k].toNat % 8)=fixB s (k+1):=by
 have h1:s.data.toList.take (k+1)=s.data.toList.take k++[s[k]]:=by
  rw[List.take_succ_eq_append_getElem (by rw[sz_list];exact h)];rfl
 unfold fixB sgB;rw[h1,List.flatMap_append];apply ByteArray.ext;simp
theorem fixB_end (s:ByteArray) (k:Nat) (h:k=8∨k=s.size) (h8:k≤8):fixB s k=fixS s:=by
 unfold fixB fixS fixL;rcases h with rfl|rfl
 ·rfl
 ·have h1:s.data.toList.take s.size=s.data.toList.take 8:=by rw[List.take_of_length_le (by rw[sz_list];omega),List.take_of_length_le (by rw[sz_list];omega)]
  rw[h1]
theorem fixB_len (s:ByteArray) (k:Nat):(fixB s k).size≤4 * k:=by
 have:=flat8_len (s.data.toList.take k)
 have h2:(s.data.toList.take k).length≤k:=List.length_take_le _ _;show ((s.data.toList.take k).flatMap fun c=>sg8 (c.toNat % 8)).toArray.size≤4 * k;simp only[List.size_toArray];omega
theorem sgB_len (k:Nat):(sgB k).size≤4:=by
 have:=sg8_len k
 show (sg8 k).toArray.size≤4;simp only[List.size_toArray];omega
theorem fixS_len (s:ByteArray):(fixS s).size≤32:=by
 have:=fixL_len s.data.toList
 show (fixL s.data.toList).toArray.size≤32;simp only[List.size_toArray];omega
set_option maxRecDepth 100000 in
set_option maxHeartbeats 1000000 in
theorem fix_any (s:ByteArray) (w:World) (hs:s.size≤9223372036854775807) :
  Calls Tryz.prog 57 #[.string s] w fun e w'=>e=.returned (.string (fixS s))∧Kept No w w':=by
 go_enter Tryz.func57,Tryz.ntmps57
 go_wp2
 have hk1:Kept No w (w.alloc (.cells #[.string ⟨#[97]⟩,.string ⟨#[98]⟩,.string ⟨#[97,98]⟩,.string ⟨#[195,164]⟩,.string ⟨#[226,130,172]⟩,.string ⟨#[240,159,153,130]⟩,.string ⟨#[49]⟩,.string ⟨#[99]⟩] 9)):=(Kept.refl No w).alloc _
 have hcl:∀ j,j < 8→(w.alloc (.cells #[.string ⟨#[97]⟩,.string ⟨#[98]⟩,.string ⟨#[97,98]⟩,.string ⟨#[195,164]⟩,.string ⟨#[226,130,172]⟩,.string ⟨#[240,159,153,130]⟩,.string ⟨#[49]⟩,.string ⟨#[99]⟩] 9)).cell? ⟨w.heap.size,j,none⟩=some (.string (sgB j)):=by
  intro j hj;rw[(Blk.new w _ _).cell];rcases (show j=0∨j=1∨j=2∨j=3∨j=4∨j=5∨j=6∨j=7 from by omega) with rfl|rfl|rfl|rfl|rfl|rfl|rfl|rfl<;>rfl
 have HCL:=Lib.hid hcl;clear hcl
 go_loop [4,5] (fun o i=>∃ k:Nat,i=.int .i64 k∧k≤s.size∧k≤8∧o=.string (fixB s k)) (fun _ i=>8 - (intOf i).toNat)
 case atStart=>exact ⟨0,rfl,by omega,by omega,by rw[fixB_zero]⟩
 case round =>
  obtain ⟨k,rfl,hks,hk8,rfl⟩:=hrel
  by_cases hlt:k < s.size∧k < 8
  ·obtain ⟨hl1,hl2⟩:=hlt
   have hl1I:(k:Int) < s.size:=by omega
   have hl2I:(k:Int) < 8:=by omega
   have hc:=HCL.out (s[k].toNat % 8) (by omega);have hb:=byte_lt s[k];have hN:((s[k].toNat:Int) % 8).toNat=s[k].toNat % 8:=by omega
   have hB0:(0:Int)≤(s[k].toNat:Int) % 8:=by omega
   have hB1:(s[k].toNat:Int) % 8 < 8:=by omega
   have hlen:=fixB_len s k;have hlen2:=sgB_len (s[k].toNat % 8);have HS:=Lib.hid (fixB_succ s k hl1)
   go_wp2
   go_round
   case rel=>exact ⟨k+1,by go_num,by omega,by omega,by rw[HS.out]⟩
   case measure=>simp[intOf];omega
  ·have hend:k=8∨k=s.size:=by omega
   have HE:=Lib.hid (fixB_end s k hend hk8);clear hend
   by_cases hl1:k < s.size
   ·have hl1I:(k:Int) < s.size:=by omega
    have hl2I:(8:Int)≤k:=by omega
    clear hlt
    go_wp2
    go_ret
    exact ⟨by rw[HE.out];rfl,hk1⟩
   ·have hl1I:(s.size:Int)≤k:=by omega
    clear hlt
    go_wp2
    go_ret
    exact ⟨by rw[HE.out];rfl,hk1⟩
def idsC:List Nat:=[1,2,3,8,9,11,17,18,19,21,22,23,24,25,26,28,31,33,34,35,36,37,38,39,40,41,42]
def bl (l:List Nat):List UInt8:=l.map UInt8.ofNat
theorem bl_append (l m:List Nat):bl (l++m)=bl l++bl m:=by simp[bl]
theorem bl_one (c:Nat) (h:c < 256):B8 (bl [c])=[.int .u8 c]:=by
 simp[bl,B8,UInt8.toNat_ofNat_of_lt' (show c < UInt8.size from h)]
def idsT (k:Int) (j:Nat):List Nat:=(idsC.take j).filter fun i=>forB i k
def idsL (k:Int):List Nat:=idsC.filter fun i=>forB i k
theorem idsT_yes (k:Int) (j:Nat) (h:j < idsC.length) (hY:forB idsC[j] k=true):idsT k (j+1)=idsT k j++[idsC[j]]:=by
 unfold idsT;rw[List.take_succ_eq_append_getElem h,List.filter_append];simp[hY]
theorem idsT_no (k:Int) (j:Nat) (h:j < idsC.length) (hN:forB idsC[j] k=false):idsT k (j+1)=idsT k j:=by
 unfold idsT;rw[List.take_succ_eq_append_getElem h,List.filter_append];simp[hN]
theorem idsT_all (k:Int):idsT k 27=idsL k:=rfl
theorem idsT_len (k:Int) (j:Nat):(idsT k j).length≤j:=Nat.le_trans (List.length_filter_le _ _) (List.length_take_le _ _)
theorem idsC_fin:∀ i∈idsC,0 < i∧i < 256∧1≤typL i∧typL i≤7:=by decide +kernel
theorem idsL_mem {k:Int} {i:Nat} (h:i∈idsL k):0 < i∧i < 256∧1≤typL i∧typL i≤7∧forB i k=true:=by
 obtain ⟨h1,h2⟩:=List.mem_filter.1 h
 have:=idsC_fin i h1
 exact ⟨this.1,this.2.1,this.2.2.1,this.2.2.2,h2⟩
def fxN (q n:Nat):Nat :=
 if typL q=1 then n % 2 else if typL q=2 then 1+n % 65535 else if typL q=3 then (if q=39∧n=0 then 7 else n) else if typL q=4 then 1+n % 268435455 else 0
def cut9 (a:ByteArray):ByteArray:=a.extract 0 (min a.size 9)
def fxA (q:Nat) (a:ByteArray):ByteArray :=
 if typL q=5 then (if q=8 then tfixS a else fixS a) else if typL q=6 then cut9 a else if typL q=7 then fixS a else ⟨#[]⟩
def fxB (q:Nat) (b:ByteArray):ByteArray:=if typL q=7 then fixS b else ⟨#[]⟩
def fxId (id:Nat) (k:Int):Nat:=(idsL k).getD (id % (idsL k).length) 0
def fxV (q n:Nat) (a b:ByteArray):Value:=.agg #[.int .u8 q,.int .u32 (fxN q n),.string (fxA q a),.string (fxB q b)]
theorem fxV_zero (n:Nat) (a b:ByteArray):fxV 0 n a b=.agg #[.int .u8 0,.int .u32 0,.string ⟨#[]⟩,.string ⟨#[]⟩]:=rfl
def IdsAre (w:World) (e:Ending) (w':World):Prop:=∃ a,e=.returned (.slice a 27 27)∧Row w' a (nats idsC)∧Kept No w w'
theorem ids_new (w:World) (t:TypeId) {cs:List Value} (hc:cs=nats idsC):IdsAre w (.returned (.slice (some ⟨w.heap.size,0,none⟩) 27 27)) (w.alloc (.cells cs.toArray t)):=by
 subst hc;exact ⟨_,rfl,.of_cells (new_cells w t _ _ rfl),(Kept.refl No w).alloc _⟩
set_option maxRecDepth 100000 in
theorem ids_any (w:World):Calls Tryz.prog 169 #[] w (IdsAre w):=by
 go_enter Tryz.func169,Tryz.ntmps169
 go_wp2
 go_ret
 exact ids_new w _ rfl
theorem info_u8p:(Tryz.prog.info? 5).map (fun i=>(i.zero,i.size,i.bytes))=some (some (.int .u8 0),1,1):=by kernel_rfl
def IdRow (w:World) (v:Value) (l:List Nat):Prop:=∃ a cap,v=.slice a l.length cap∧∀ j (h:j < l.length),∃ g,a=some ⟨g,0,none⟩∧g < w.heap.size∧w.cell? ⟨g,j,none⟩=some (.int .u8 (l[j]:Nat))
theorem bl_get (l:List Nat) (hl:∀ i∈l,i < 256) (j:Nat) (h:j < l.length):(B8 (bl l))[j]?=some (.int .u8 (l[j]:Nat)):=by
 have h1:=hl _ (List.getElem_mem h);simp[B8,bl,List.getElem?_eq_getElem h,UInt8.toNat_ofNat_of_lt' (show l[j] < UInt8.size from h1)]
theorem idRow_of {w:World} {B n:Nat} {e:TypeId} {v:Value} {xs:List Value} {l:List Nat} (h:w.ownsRow B e 1 v n xs) (hn:n=l.length) (hx:xs=B8 (bl l)) (hl:∀ i∈l,i < 256):IdRow w v l:=by
 subst hn hx;rcases h.2 with ⟨rfl,h0⟩|⟨g,cap,cur,rfl,hb,hg,hrest⟩
 ·refine ⟨none,0,?_,fun j hj=>absurd hj (by omega)⟩
  rw[h0]
 ·refine ⟨some ⟨g,0,none⟩,cap,rfl,fun j hj=>⟨g,rfl,(Array.getElem?_eq_some_iff.1 hg).1,?_⟩⟩
  rw[World.ownsRow.cellAt h j (by omega)];exact bl_get l hl j hj
theorem idsL_lt (k:Int):∀ i∈idsL k,i < 256:=fun i h=>(idsL_mem h).2.1
theorem typ3 (q:Nat) (h:q < 256) (ht:typL q=3):q=2∨q=17∨q=24∨q=39:=by
 have key:∀ q:Fin 256,typL q.1=3→q.1=2∨q.1=17∨q.1=24∨q.1=39:=by decide +kernel
 exact key ⟨q,h⟩ ht
end Go.Proofs.YtohmcfmcbibbcaaGreatDoor
