import Derived.Test.YtkochkhfbhjicaaGreatDoorUtf
import Derived.Test.YtkochkhfbhjicaaGreatDoorYF2
import Derived.Laws.IdiomStrings
import Derived.Lib.BufferRead
import Derived.Test.YtkochkhfbhjicaaGreatDoorText
import Derived.Test.YtkochkhfbhjicaaGreatDoorPrp
namespace Go.Proofs.YtkochkhfbhjicaaGreatDoor
set_option maxHeartbeats 1000000
open Go.Lib
set_option linter.unusedVariables false
set_option linter.unusedSimpArgs false
def cnt (l:List UInt8):Option Nat:=if xh l then some (runeCountL l) else none
theorem j8g:cnt []=some 0:=by
 have:=j2i 0 [] (by simp)
 unfold cnt;rw[← this];rfl
theorem j1r (l:List UInt8) (hne:l≠[]) (h:sgL l=0):cnt l=none:=by
 have:=j2i (l.length+1) l (by omega)
 unfold cnt;rw[← this,j5a,if_neg hne,if_pos h]
theorem j9q (l:List UInt8) (hne:l≠[]) (h:sgL l≠0):cnt l=(cnt (l.drop (sgL l))).map (·+1):=by
  have h1:=j2i (l.length+1) l (by omega);have h2:=j2i l.length (l.drop (sgL l)) (by simp);unfold cnt;rw[← h1,← h2,j5a,if_neg hne,if_neg h]
def Sg (p:List UInt8):Prop:=p=[97]∨p=[98]∨p=[195,164]∨p=[226,130,172]∨p=[240,159,153,130]∨p=[49]∨p=[99]
theorem jMk {p:List UInt8} (h:Sg p) (r:List UInt8):sgL (p++r)=p.length∧p≠[]:=by
 rcases h with rfl|rfl|rfl|rfl|rfl|rfl|rfl
 all_goals
  refine ⟨?_,by simp⟩;rw[j24 _ (by simp)];simp[sgN]
  try omega
theorem j5b {p:List UInt8} (h:Sg p) (r:List UInt8):cnt (p++r)=(cnt r).map (·+1):=by
  obtain ⟨h1,h2⟩:=jMk h r;rw[j9q _ (by simp[h2]) (by rw[h1];exact λe=>h2 (List.length_eq_zero_iff.1 e)),h1,List.drop_left]
theorem j9p:∀ (ps:List (List UInt8)) (r:List UInt8),(∀ p∈ps,Sg p)→cnt (ps.flatten++r)=(cnt r).map (·+ps.length)
  | [],r,_=>by simp
  | p :: ps,r,h=>by
    rw[List.flatten_cons,List.append_assoc,j5b (h p (by simp)),j9p ps r (λq hq=>h q (by simp[hq]))];cases cnt r<;>simp
    omega
theorem j4m (ps:List (List UInt8)) (h:∀ p∈ps,Sg p):cnt ps.flatten=some ps.length:=by
 have:=j9p ps [] h
 rw[List.append_nil,j8g]at this;simpa using this
def j3s (c:UInt8):Bool:=decide (c.toNat<128)||decide (192≤c.toNat)
theorem jLg {p:List UInt8} (h:Sg p) (r:List UInt8) (k:Nat) (hk:k<p.length) :
  (k=0∧j3s ((p++r).getD k 0)=true)∨(0<k∧j3s ((p++r).getD k 0)=false∧cnt ((p++r).take k)=none∧cnt ((p++r).drop k)=none):=by
 by_cases h0:k=0
 ·refine .inl ⟨h0,?_⟩
  subst h0;rcases h with rfl|rfl|rfl|rfl|rfl|rfl|rfl<;>rfl
 ·refine .inr ⟨by omega,?_⟩
  have e1:(p++r).take k=p.take k:=by rw[List.take_append_of_le_length (by omega)]
  have e2:(p++r).drop k=p.drop k++r:=by rw[List.drop_append_of_le_length (by omega)]
  have e3:(p++r).getD k 0=p.getD k 0:=by
   rw[List.getD_eq_getElem?_getD,List.getD_eq_getElem?_getD,List.getElem?_append_left hk]
  rw[e1,e2,e3];rcases h with rfl|rfl|rfl|rfl|rfl|rfl|rfl
  all_goals
   simp at hk
   try omega
  ·obtain rfl:k=1:=by omega
   exact ⟨rfl,j1r _ (by simp) (by rw[j24 _ (by simp)];simp[sgN]),j1r _ (by simp) (by rw[j24 _ (by simp)];simp[sgN])⟩
  ·rcases (show k=1∨k=2 from by omega) with rfl|rfl
   all_goals exact ⟨rfl,j1r _ (by simp) (by rw[j24 _ (by simp)];simp[sgN]),j1r _ (by simp) (by rw[j24 _ (by simp)];simp[sgN])⟩
  ·rcases (show k=1∨k=2∨k=3 from by omega) with rfl|rfl|rfl
   all_goals exact ⟨rfl,j1r _ (by simp) (by rw[j24 _ (by simp)];simp[sgN]),j1r _ (by simp) (by rw[j24 _ (by simp)];simp[sgN])⟩
theorem j9u:∀ (ps:List (List UInt8)) (k:Nat),(∀ p∈ps,Sg p)→k<ps.flatten.length →
  (cnt (ps.flatten.take k)).isSome=j3s (ps.flatten.getD k 0)∧(cnt (ps.flatten.drop k)).isSome=j3s (ps.flatten.getD k 0)
 | [],k,_,hk=>by simp at hk
 | p :: ps,k,h,hk=>by
  have hp:=h p (by simp);have hps:∀ q∈ps,Sg q:=λq hq=>h q (by simp[hq])
  rw[List.flatten_cons]at hk ⊢
  by_cases hlt:k<p.length
  ·rcases jLg hp ps.flatten k hlt with ⟨rfl,h1⟩|⟨h0,h1,h2,h3⟩
   ·rw[h1,List.take_zero,j8g,List.drop_zero,j5b hp,j4m ps hps]
    exact ⟨rfl,rfl⟩
   ·rw[h1,h2,h3];exact ⟨rfl,rfl⟩
  ·rw[List.length_append]at hk
   obtain ⟨i1,i2⟩:=j9u ps (k - p.length) hps (by omega);have e1:(p++ps.flatten).take k=p++ps.flatten.take (k - p.length):=by rw[List.take_append,List.take_of_length_le (by omega)]
   have e2:(p++ps.flatten).drop k=ps.flatten.drop (k - p.length):=by rw[List.drop_append,List.drop_of_length_le (by omega)];rfl
   have e3:(p++ps.flatten).getD k 0=ps.flatten.getD (k - p.length) 0:=by
    rw[List.getD_eq_getElem?_getD,List.getD_eq_getElem?_getD,List.getElem?_append_right (by omega)]
   rw[e1,e2,e3,j5b hp];refine ⟨?_,i2⟩;rw[← i1];cases cnt (ps.flatten.take (k - p.length))<;>rfl
def sg8:Nat→List UInt8
 | 0=>[97]
 | 1=>[98]
 | 2=>[97,98]
 | 3=>[195,164]
 | 4=>[226,130,172]
 | 5=>[240,159,153,130]
 | 6=>[49]
 | _=>[99]
def pcs:Nat→List (List UInt8)
 | 2=>[[97],[98]]
 | k=>[sg8 k]
theorem jH4 (k:Nat):(pcs k).flatten=sg8 k:=by unfold pcs;split<;>simp[sg8]
theorem jM9 (k:Nat):∀ p∈pcs k,Sg p:=by
 unfold pcs
 split
 ·intro p hp;simp at hp;rcases hp with rfl|rfl<;>simp[Sg]
 ·intro p hp
  simp at hp;subst hp;unfold sg8
  split<;>simp_all [Sg]
theorem jDc (k:Nat):(sg8 k).length≤4:=by unfold sg8;split<;>simp
def zV (l:List UInt8):List UInt8:=(l.take 8).flatMap λc=>sg8 (c.toNat % 8)
theorem j7h (l:List UInt8):∃ ps:List (List UInt8),(∀ p∈ps,Sg p)∧zV l=ps.flatten:=by
 refine ⟨(l.take 8).flatMap λc=>pcs (c.toNat % 8),?_,?_⟩
 ·intro p hp
  obtain ⟨c,_,hc⟩:=List.mem_flatMap.1 hp;exact jM9 _ p hc
 ·unfold zV
  generalize l.take 8=m
  induction m with
  | nil=>rfl
  | cons c t ih=>simp only[List.flatMap_cons,List.flatten_append,jH4,ih]
theorem j7j (m:List UInt8):(m.flatMap λc=>sg8 (c.toNat % 8)).length≤4*m.length:=by
 induction m with
 | nil=>simp
 | cons c t ih=>have:=jDc (c.toNat % 8);simp only[List.flatMap_cons,List.length_append,List.length_cons];omega
theorem jGg (l:List UInt8):(zV l).length≤32:=by
 have:=j7j (l.take 8)
 unfold zV;have h2:(l.take 8).length≤8:=List.length_take_le _ _;omega
theorem jOs (a b:List UInt8):cnt (zV a)≠none∧cnt (zV a++zV b)=some ((cnt (zV a)).getD 0+(cnt (zV b)).getD 0)∧cnt (zV b)≠none ∧
  ∀ k,k<(zV a++zV b).length→(cnt ((zV a++zV b).take k)).isSome=j3s ((zV a++zV b).getD k 0)∧(cnt ((zV a++zV b).drop k)).isSome=j3s ((zV a++zV b).getD k 0):=by
 obtain ⟨ps,h1,e1⟩:=j7h a;obtain ⟨qs,h2,e2⟩:=j7h b;have h3:∀ p∈ps++qs,Sg p:=λp hp=>(List.mem_append.1 hp).elim (h1 p) (h2 p)
 have e3:ps.flatten++qs.flatten=(ps++qs).flatten:=by simp
 rw[e1,e2,e3,j4m ps h1,j4m qs h2,j4m _ h3];exact ⟨by simp,by simp,by simp,λk hk=>j9u (ps++qs) k h3 hk⟩
theorem j61 (l:List UInt8):xh l=(cnt l).isSome:=by unfold cnt;cases xh l<;>rfl
end Go.Proofs.YtkochkhfbhjicaaGreatDoor
namespace Go.Proofs.YtkochkhfbhjicaaGreatDoor
open Go.Lib
set_option linter.unusedVariables false
set_option linter.unusedSimpArgs false
def Sg2 (p:List UInt8):Prop:=(∃ c:UInt8,p=[c]∧0<c.toNat∧c.toNat<128)∨p=[195,164]
theorem jJy {p:List UInt8} (h:Sg2 p) (r:List UInt8):sgL (p++r)=p.length∧p≠[]:=by
 rcases h with ⟨c,rfl,h1,h2⟩|rfl
 ·refine ⟨?_,by simp⟩
  rw[j24 _ (by simp)];have e:(([c]++r).getD 0 0)=c:=rfl;rw[e];unfold sgN;rw[if_pos h2,if_neg (by omega)]
  rfl
 ·refine ⟨?_,by simp⟩
  rw[j24 _ (by simp)];simp[sgN]
  try omega
theorem jDq {p:List UInt8} (h:Sg2 p) (r:List UInt8):cnt (p++r)=(cnt r).map (·+1):=by
  obtain ⟨h1,h2⟩:=jJy h r;rw[j9q _ (by simp[h2]) (by rw[h1];exact λe=>h2 (List.length_eq_zero_iff.1 e)),h1,List.drop_left]
theorem j7c:∀ (ps:List (List UInt8)),(∀ p∈ps,Sg2 p)→cnt ps.flatten=some ps.length
 | [],_=>j8g
 | p :: ps,h=>by
  rw[List.flatten_cons,jDq (h p (by simp)),j7c ps (λq hq=>h q (by simp[hq]))]
  rfl
def Vt (l:List UInt8):Prop:=∃ ps:List (List UInt8),(∀ p∈ps,Sg2 p)∧l=ps.flatten
theorem Vt.nil:Vt []:=⟨[],by simp,rfl⟩
theorem Vt.append {l m:List UInt8} (h:Vt l) (k:Vt m):Vt (l++m):=by
 obtain ⟨ps,h1,rfl⟩:=h;obtain ⟨qs,k1,rfl⟩:=k;refine ⟨ps++qs,λp hp=>?_,by simp⟩;rcases List.mem_append.1 hp with h|h
 ·exact h1 p h
 ·exact k1 p h
theorem Vt.one {c:UInt8} (h1:0<c.toNat) (h2:c.toNat<128):Vt [c]:=⟨[[c]],by simp;exact .inl ⟨c,rfl,h1,h2⟩,rfl⟩
theorem Vt.cons {c:UInt8} {l:List UInt8} (h1:0<c.toNat) (h2:c.toNat<128) (h:Vt l):Vt (c :: l):=(Vt.one h1 h2).append h
theorem Vt.text {l:List UInt8} (h:Vt l):xh l=true:=by
 obtain ⟨ps,h1,rfl⟩:=h;rw[j61,j7c ps h1]
 rfl
theorem Vt.ok {s:ByteArray} (h:Vt s.data.toList) (hs:s.size≤65535):jb s=true:=by
 unfold jb;rw[decide_eq_true hs,h.text]
 rfl
theorem jKc {x:List UInt8} (h1:43 ∉ x) (h2:35 ∉ x):vF x=false:=by
 unfold vF;simp[h1,h2]
end Go.Proofs.YtkochkhfbhjicaaGreatDoor
namespace Go.Proofs.YtkochkhfbhjicaaGreatDoor
open Go.RowKit
set_option linter.unusedVariables false
set_option linter.unusedSimpArgs false
def tsg:Nat→List UInt8
 | 0=>[97]
 | 1=>[98]
 | 2=>[47]
 | 3=>[99]
 | 4=>[100]
 | 5=>[47]
 | 6=>[195,164]
 | _=>[101]
theorem jDe (k:Nat):(tsg k).length≤2:=by unfold tsg;split<;>simp
theorem jMn (k:Nat):Vt (tsg k):=by
 unfold tsg
 split
 all_goals first|exact Vt.one (by decide) (by decide)|exact ⟨[[195,164]],by simp;exact .inr rfl,rfl⟩
theorem jMm (k:Nat):∀ c∈tsg k,c∈([97,98,47,99,100,195,164,101]:List UInt8):=by
 unfold tsg
 split<;>decide
def j39 (l:List UInt8):List UInt8:=(l.take 8).flatMap λc=>tsg (c.toNat % 8)
def j25 (l:List UInt8):List UInt8:=if (j39 l).isEmpty then [97] else j39 l
theorem j84 (m:List UInt8):(m.flatMap λc=>tsg (c.toNat % 8)).length≤2*m.length:=by
 induction m with
 | nil=>simp
 | cons c t ih=>have:=jDe (c.toNat % 8);simp only[List.flatMap_cons,List.length_append,List.length_cons];omega
theorem jHm (l:List UInt8):(j25 l).length≤16:=by
 have:=j84 (l.take 8)
 have h2:(l.take 8).length≤8:=List.length_take_le _ _;unfold j25 j39
 split
 ·simp
 ·omega
theorem jK5 (l:List UInt8):j25 l≠[]:=by
 unfold j25
 split
 ·simp
 ·rename_i h;intro e;rw[e]at h;simp at h
theorem jK6 (l:List UInt8):Vt (j25 l):=by
 unfold j25
 split
 ·exact Vt.one (by decide) (by decide)
 ·unfold j39
  generalize l.take 8=m
  induction m with
  | nil=>exact Vt.nil
  | cons c t ih=>rw[List.flatMap_cons];exact (jMn _).append ih
theorem jK4 (l:List UInt8):∀ c∈j25 l,c∈([97,98,47,99,100,195,164,101]:List UInt8):=by
 unfold j25
 split
 ·decide
 ·intro c hc
  obtain ⟨d,_,hd⟩:=List.mem_flatMap.1 hc;exact jMm _ c hd
def j6t (s:ByteArray) (k:Nat):ByteArray:=⟨((s.data.toList.take k).flatMap λc=>tsg (c.toNat % 8)).toArray⟩
def jK8 (k:Nat):ByteArray:=⟨(tsg k).toArray⟩
def zN (s:ByteArray):ByteArray:=⟨(j25 s.data.toList).toArray⟩
theorem jCa (s:ByteArray) (k:Nat) (h:k<s.size):j6t s k++jK8 (s[k].toNat % 8)=j6t s (k+1):=by
 have h1:s.data.toList.take (k+1)=s.data.toList.take k++[s[k]]:=by
  rw[List.take_succ_eq_append_getElem (by rw[qF];exact h)];rfl
 unfold j6t jK8;rw[h1,List.flatMap_append];apply ByteArray.ext;simp
theorem jEy (s:ByteArray) (k:Nat) (h:k=8∨k=s.size) (h8:k≤8):j6t s k=⟨(j39 s.data.toList).toArray⟩:=by
 unfold j6t j39;rcases h with rfl|rfl
 ·rfl
 ·have h1:s.data.toList.take s.size=s.data.toList.take 8:=by rw[List.take_of_length_le (by rw[qF];omega),List.take_of_length_le (by rw[qF];omega)]
  rw[h1]
theorem jEz (s:ByteArray) (k:Nat):(j6t s k).size≤2*k:=by
 have:=j84 (s.data.toList.take k)
 have h2:(s.data.toList.take k).length≤k:=List.length_take_le _ _;show ((s.data.toList.take k).flatMap λc=>tsg (c.toNat % 8)).toArray.size≤2*k;simp only[List.size_toArray];omega
theorem jHp (k:Nat):(jK8 k).size≤2:=by
 have:=jDe k
 show (tsg k).toArray.size≤2;simp only[List.size_toArray];omega
set_option maxRecDepth 100000 in
theorem j1l (s:ByteArray) (w:World) (hs:s.size≤9223372036854775807) :
  Calls Tryz.prog 10 #[.string s] w λe w'=>e=.returned (.string (zN s))∧Kept No w w':=by
 go_enter Tryz.func10,Tryz.ntmps10
 go_wp2
 have hk1:Kept No w (w.alloc (.cells #[.string ⟨#[97]⟩,.string ⟨#[98]⟩,.string ⟨#[47]⟩,.string ⟨#[99]⟩,.string ⟨#[100]⟩,.string ⟨#[47]⟩,.string ⟨#[195,164]⟩,.string ⟨#[101]⟩] 9)):=(Kept.refl No w).alloc _
 have hcl:∀ j,j<8→(w.alloc (.cells #[.string ⟨#[97]⟩,.string ⟨#[98]⟩,.string ⟨#[47]⟩,.string ⟨#[99]⟩,.string ⟨#[100]⟩,.string ⟨#[47]⟩,.string ⟨#[195,164]⟩,.string ⟨#[101]⟩] 9)).cell? ⟨w.heap.size,j,none⟩=some (.string (jK8 j)):=by
  intro j hj;rw[(Blk.new w _ _).cell];rcases (show j=0∨j=1∨j=2∨j=3∨j=4∨j=5∨j=6∨j=7 from by omega) with rfl|rfl|rfl|rfl|rfl|rfl|rfl|rfl<;>rfl
 have HCL:=Lib.hid hcl;clear hcl
 go_loop [4,5] (λo i=>∃ k:Nat,i=.int .i64 k∧k≤s.size∧k≤8∧o=.string (j6t s k)) (λ_ i=>8 - (intOf i).toNat)
 case atStart=>exact ⟨0,rfl,by omega,by omega,rfl⟩
 case round =>
  obtain ⟨k,rfl,hks,hk8,rfl⟩:=hrel
  by_cases hlt:k<s.size∧k<8
  ·obtain ⟨hl1,hl2⟩:=hlt
   have hl1I:(k:Int)<s.size:=by omega
   have hl2I:(k:Int)<8:=by omega
   have hc:=HCL.out (s[k].toNat % 8) (by omega);have hb:=xM s[k];have hN:((s[k].toNat:Int) % 8).toNat=s[k].toNat % 8:=by omega
   have hB0:(0:Int)≤(s[k].toNat:Int) % 8:=by omega
   have hB1:(s[k].toNat:Int) % 8<8:=by omega
   have hlen:=jEz s k;have hlen2:=jHp (s[k].toNat % 8);have HS:=Lib.hid (jCa s k hl1)
   go_wp2
   go_round
   case rel=>exact ⟨k+1,by go_num,by omega,by omega,by rw[HS.out]⟩
   case measure=>simp[intOf];omega
  ·have hend:k=8∨k=s.size:=by omega
   have HE:=Lib.hid (jEy s k hend hk8);have HF:Hid (zN s=if (j39 s.data.toList).isEmpty then ⟨#[97]⟩ else ⟨(j39 s.data.toList).toArray⟩):=Lib.hid (by unfold zN j25;split<;>rfl);rw[HE.out];generalize j39 s.data.toList=R at *;clear hend HE;cases R with
   | nil =>
    have HT:Hid (zN s=⟨#[97]⟩):=Lib.hid (by rw[HF.out];rfl);clear HF
    by_cases hl1:k<s.size
    ·have hl1I:(k:Int)<s.size:=by omega
     have hl2I:(8:Int)≤k:=by omega
     clear hlt
     go_wp2
     go_ret
     exact ⟨by rw[HT.out];rfl,hk1⟩
    ·have hl1I:(s.size:Int)≤k:=by omega
     clear hlt
     go_wp2
     go_ret
     exact ⟨by rw[HT.out];rfl,hk1⟩
   | cons c t =>
    have HT:Hid (zN s=⟨(c :: t).toArray⟩):=Lib.hid (by rw[HF.out];rfl);clear HF
    by_cases hl1:k<s.size
    ·have hl1I:(k:Int)<s.size:=by omega
     have hl2I:(8:Int)≤k:=by omega
     clear hlt
     go_wp2
     go_ret
     exact ⟨by rw[HT.out];rfl,hk1⟩
    ·have hl1I:(s.size:Int)≤k:=by omega
     clear hlt
     go_wp2
     go_ret
     exact ⟨by rw[HT.out];rfl,hk1⟩
theorem jJd {n:ByteArray} (hv:Vt n.data.toList) (hs:n.size≤65535) (h0:0<n.size) (hw:vF n.data.toList=false):xD n=true:=by
 unfold xD;rw[hv.ok hs,hw,decide_eq_true h0]
 rfl
def jD5:List UInt8:=[97,98,47,99,100,195,164,101]
structure Made (T:ByteArray):Prop where
 vt:Vt T.data.toList
 ne:T.data.toList≠[]
 chars:∀ c∈T.data.toList,c∈jD5
 len:T.data.toList.length≤16
theorem vg (s:ByteArray):Made (zN s):=⟨jK6 _,jK5 _,jK4 _,jHm _⟩
section
variable {T:ByteArray}
theorem Made.size (h:Made T):0<T.size∧T.size≤16:=by
 have h1:=h.len;have h2:=List.length_pos_iff.2 h.ne;rw[qF]at h1 h2;exact ⟨h2,h1⟩
theorem Made.not_in (h:Made T) {c:UInt8} (hc:c ∉ jD5):c ∉ T.data.toList:=λhm=>hc (h.chars c hm)
theorem Made.wild (h:Made T):vF T.data.toList=false:=jKc (h.not_in (by decide)) (h.not_in (by decide))
theorem Made.name (h:Made T):xD T=true:=jJd h.vt (by have:=h.size;omega) h.size.1 h.wild
end
def j9z (s:ByteArray) (k:Nat):ByteArray:=⟨((s.data.toList.take k).flatMap λc=>sg8 (c.toNat % 8)).toArray⟩
def sgB (k:Nat):ByteArray:=⟨(sg8 k).toArray⟩
def vX (s:ByteArray):ByteArray:=⟨(zV s.data.toList).toArray⟩
theorem jDv (s:ByteArray):j9z s 0=⟨#[]⟩:=rfl
theorem jDu (s:ByteArray) (k:Nat) (h:k<s.size):j9z s k++sgB (s[k].toNat % 8)=j9z s (k+1):=by
 have h1:s.data.toList.take (k+1)=s.data.toList.take k++[s[k]]:=by
  rw[List.take_succ_eq_append_getElem (by rw[qF];exact h)];rfl
 unfold j9z sgB;rw[h1,List.flatMap_append];apply ByteArray.ext;simp
theorem jGe (s:ByteArray) (k:Nat) (h:k=8∨k=s.size) (h8:k≤8):j9z s k=vX s:=by
 unfold j9z vX zV;rcases h with rfl|rfl
 ·rfl
 ·have h1:s.data.toList.take s.size=s.data.toList.take 8:=by rw[List.take_of_length_le (by rw[qF];omega),List.take_of_length_le (by rw[qF];omega)]
  rw[h1]
theorem jGf (s:ByteArray) (k:Nat):(j9z s k).size≤4*k:=by
 have:=j7j (s.data.toList.take k)
 have h2:(s.data.toList.take k).length≤k:=List.length_take_le _ _;show ((s.data.toList.take k).flatMap λc=>sg8 (c.toNat % 8)).toArray.size≤4*k;simp only[List.size_toArray];omega
theorem jJz (k:Nat):(sgB k).size≤4:=by
 have:=jDc k
 show (sg8 k).toArray.size≤4;simp only[List.size_toArray];omega
theorem zE (s:ByteArray):(vX s).size≤32:=by
 have:=jGg s.data.toList
 show (zV s.data.toList).toArray.size≤32;simp only[List.size_toArray];omega
set_option maxRecDepth 100000 in
theorem z7 (s:ByteArray) (w:World) (hs:s.size≤9223372036854775807) :
  Calls Tryz.prog 9 #[.string s] w λe w'=>e=.returned (.string (vX s))∧Kept No w w':=by
 go_enter Tryz.func9,Tryz.ntmps9
 go_wp2
 have hk1:Kept No w (w.alloc (.cells #[.string ⟨#[97]⟩,.string ⟨#[98]⟩,.string ⟨#[97,98]⟩,.string ⟨#[195,164]⟩,.string ⟨#[226,130,172]⟩,.string ⟨#[240,159,153,130]⟩,.string ⟨#[49]⟩,.string ⟨#[99]⟩] 9)):=(Kept.refl No w).alloc _
 have hcl:∀ j,j<8→(w.alloc (.cells #[.string ⟨#[97]⟩,.string ⟨#[98]⟩,.string ⟨#[97,98]⟩,.string ⟨#[195,164]⟩,.string ⟨#[226,130,172]⟩,.string ⟨#[240,159,153,130]⟩,.string ⟨#[49]⟩,.string ⟨#[99]⟩] 9)).cell? ⟨w.heap.size,j,none⟩=some (.string (sgB j)):=by
  intro j hj;rw[(Blk.new w _ _).cell];rcases (show j=0∨j=1∨j=2∨j=3∨j=4∨j=5∨j=6∨j=7 from by omega) with rfl|rfl|rfl|rfl|rfl|rfl|rfl|rfl<;>rfl
 have HCL:=Lib.hid hcl;clear hcl
 go_loop [4,5] (λo i=>∃ k:Nat,i=.int .i64 k∧k≤s.size∧k≤8∧o=.string (j9z s k)) (λ_ i=>8 - (intOf i).toNat)
 case atStart=>exact ⟨0,rfl,by omega,by omega,by rw[jDv]⟩
 case round =>
  obtain ⟨k,rfl,hks,hk8,rfl⟩:=hrel
  by_cases hlt:k<s.size∧k<8
  ·obtain ⟨hl1,hl2⟩:=hlt
   have hl1I:(k:Int)<s.size:=by omega
   have hl2I:(k:Int)<8:=by omega
   have hc:=HCL.out (s[k].toNat % 8) (by omega);have hb:=xM s[k];have hN:((s[k].toNat:Int) % 8).toNat=s[k].toNat % 8:=by omega
   have hB0:(0:Int)≤(s[k].toNat:Int) % 8:=by omega
   have hB1:(s[k].toNat:Int) % 8<8:=by omega
   have hlen:=jGf s k;have hlen2:=jJz (s[k].toNat % 8);have HS:=Lib.hid (jDu s k hl1)
   go_wp2
   go_round
   case rel=>exact ⟨k+1,by go_num,by omega,by omega,by rw[HS.out]⟩
   case measure=>simp[intOf];omega
  ·have hend:k=8∨k=s.size:=by omega
   have HE:=Lib.hid (jGe s k hend hk8);clear hend
   by_cases hl1:k<s.size
   ·have hl1I:(k:Int)<s.size:=by omega
    have hl2I:(8:Int)≤k:=by omega
    clear hlt
    go_wp2
    go_ret
    exact ⟨by rw[HE.out];rfl,hk1⟩
   ·have hl1I:(s.size:Int)≤k:=by omega
    clear hlt
    go_wp2
    go_ret
    exact ⟨by rw[HE.out];rfl,hk1⟩
def qG:List Nat:=[1,2,3,8,9,11,17,18,19,21,22,23,24,25,26,28,31,33,34,35,36,37,38,39,40,41,42]
def bl (l:List Nat):List UInt8:=l.map UInt8.ofNat
theorem xR (l m:List Nat):bl (l++m)=bl l++bl m:=by simp[bl]
theorem xF (c:Nat) (h:c<256):B8 (bl [c])=[.int .u8 c]:=by
 simp[bl,B8,UInt8.toNat_ofNat_of_lt' (show c<UInt8.size from h)]
def j1x (k:Int) (j:Nat):List Nat:=(qG.take j).filter λi=>xP i k
def vA (k:Int):List Nat:=qG.filter λi=>xP i k
theorem zI (k:Int) (j:Nat) (h:j<qG.length) (hY:xP qG[j] k=true):j1x k (j+1)=j1x k j++[qG[j]]:=by
 unfold j1x;rw[List.take_succ_eq_append_getElem h,List.filter_append];simp[hY]
theorem j0c (k:Int) (j:Nat) (h:j<qG.length) (hN:xP qG[j] k=false):j1x k (j+1)=j1x k j:=by
 unfold j1x;rw[List.take_succ_eq_append_getElem h,List.filter_append];simp[hN]
theorem qy (k:Int):j1x k 27=vA k:=rfl
theorem zH (k:Int) (j:Nat):(j1x k j).length≤j:=Nat.le_trans (List.length_filter_le _ _) (List.length_take_le _ _)
theorem xg:∀ i∈qG,0<i∧i<256∧1≤jl i∧jl i≤7:=by decide +kernel
theorem xJ {k:Int} {i:Nat} (h:i∈vA k):0<i∧i<256∧1≤jl i∧jl i≤7∧xP i k=true:=by
 obtain ⟨h1,h2⟩:=List.mem_filter.1 h
 have:=xg i h1
 exact ⟨this.1,this.2.1,this.2.2.1,this.2.2.2,h2⟩
def fxN (q n:Nat):Nat :=
 if jl q=1 then n % 2 else if jl q=2 then 1+n % 65535 else if jl q=3 then (if q=39∧n=0 then 7 else n) else if jl q=4 then 1+n % 268435455 else 0
def jI3 (a:ByteArray):ByteArray:=a.extract 0 (min a.size 9)
def fxA (q:Nat) (a:ByteArray):ByteArray :=
 if jl q=5 then (if q=8 then zN a else vX a) else if jl q=6 then jI3 a else if jl q=7 then vX a else ⟨#[]⟩
def fxB (q:Nat) (b:ByteArray):ByteArray:=if jl q=7 then vX b else ⟨#[]⟩
def qc (id:Nat) (k:Int):Nat:=(vA k).getD (id % (vA k).length) 0
def fxV (q n:Nat) (a b:ByteArray):Value:=.agg #[.int .u8 q,.int .u32 (fxN q n),.string (fxA q a),.string (fxB q b)]
theorem jGl (n:Nat) (a b:ByteArray):fxV 0 n a b=.agg #[.int .u8 0,.int .u32 0,.string ⟨#[]⟩,.string ⟨#[]⟩]:=rfl
def jF7 (w:World) (e:Ending) (w':World):Prop:=∃ a,e=.returned (.slice a 27 27)∧Row w' a (qV qG)∧Kept No w w'
theorem jJa (w:World) (t:TypeId) {cs:List Value} (hc:cs=qV qG):jF7 w (.returned (.slice (some ⟨w.heap.size,0,none⟩) 27 27)) (w.alloc (.cells cs.toArray t)):=by
 subst hc;exact ⟨_,rfl,.of_cells (qa w t _ _ rfl),(Kept.refl No w).alloc _⟩
set_option maxRecDepth 100000 in
theorem j0d (w:World):Calls Tryz.prog 51 #[] w (jF7 w):=by
 go_enter Tryz.func51,Tryz.ntmps51
 go_wp2
 go_ret
 exact jJa w _ rfl
theorem zJ:(Tryz.prog.info? 5).map (λi=>(i.zero,i.size,i.bytes))=some (some (.int .u8 0),1,1):=by kernel_rfl
def jMt (w:World) (v:Value) (l:List Nat):Prop:=∃ a cap,v=.slice a l.length cap∧∀ j (h:j<l.length),∃ g,a=some ⟨g,0,none⟩∧g<w.heap.size∧w.cell? ⟨g,j,none⟩=some (.int .u8 (l[j]:Nat))
theorem jLd (l:List Nat) (hl:∀ i∈l,i<256) (j:Nat) (h:j<l.length):(B8 (bl l))[j]?=some (.int .u8 (l[j]:Nat)):=by
 have h1:=hl _ (List.getElem_mem h);simp[B8,bl,List.getElem?_eq_getElem h,UInt8.toNat_ofNat_of_lt' (show l[j]<UInt8.size from h1)]
theorem zG {w:World} {B n:Nat} {e:TypeId} {v:Value} {xs:List Value} {l:List Nat} (h:w.ownsRow B e 1 v n xs) (hn:n=l.length) (hx:xs=B8 (bl l)) (hl:∀ i∈l,i<256):jMt w v l:=by
 subst hn hx;rcases h.2 with ⟨rfl,h0⟩|⟨g,cap,cur,rfl,hb,hg,hrest⟩
 ·refine ⟨none,0,?_,λj hj=>absurd hj (by omega)⟩
  rw[h0]
 ·refine ⟨some ⟨g,0,none⟩,cap,rfl,λj hj=>⟨g,rfl,(Array.getElem?_eq_some_iff.1 hg).1,?_⟩⟩
  rw[World.ownsRow.cellAt h j (by omega)];exact jLd l hl j hj
theorem j0b (k:Int):∀ i∈vA k,i<256:=λi h=>(xJ h).2.1
theorem jP9 (q:Nat) (h:q<256) (ht:jl q=3):q=2∨q=17∨q=24∨q=39:=by
 have key:∀ q:Fin 256,jl q.1=3→q.1=2∨q.1=17∨q.1=24∨q.1=39:=by decide +kernel
 exact key ⟨q,h⟩ ht
end Go.Proofs.YtkochkhfbhjicaaGreatDoor
