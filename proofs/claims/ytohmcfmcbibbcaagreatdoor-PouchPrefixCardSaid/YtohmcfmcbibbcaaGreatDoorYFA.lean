import Derived.Test.YtohmcfmcbibbcaaGreatDoorUtf
import Derived.Test.YtohmcfmcbibbcaaGreatDoorYF2
import Derived.Laws.IdiomStrings
import Derived.Lib.BufferRead
import Derived.Test.YtohmcfmcbibbcaaGreatDoorText
import Derived.Test.YtohmcfmcbibbcaaGreatDoorPrp
namespace Go.Proofs.YtohmcfmcbibbcaaGreatDoor
open Go.Lib
set_option linter.unusedVariables false
set_option linter.unusedSimpArgs false
def cnt (l:List UInt8):Option Nat:=if isText l then some (runeCountL l) else none
theorem cnt_nil:cnt []=some 0:=by
 have:=cntL_eq 0 [] (by simp)
 unfold cnt;rw[← this];rfl
theorem cnt_good (l:List UInt8) (hne:l≠[]) (h:sgL l≠0):cnt l=(cnt (l.drop (sgL l))).map (·+1):=by
  have h1:=cntL_eq (l.length+1) l (by omega);have h2:=cntL_eq l.length (l.drop (sgL l)) (by simp);unfold cnt;rw[← h1,← h2,cntL,if_neg hne,if_neg h]
theorem isText_cnt (l:List UInt8):isText l=(cnt l).isSome:=by unfold cnt;cases isText l<;>rfl
end Go.Proofs.YtohmcfmcbibbcaaGreatDoor
namespace Go.Proofs.YtohmcfmcbibbcaaGreatDoor
open Go.Lib
set_option linter.unusedVariables false
set_option linter.unusedSimpArgs false
def Sg2 (p:List UInt8):Prop:=(∃ c:UInt8,p=[c]∧0 < c.toNat∧c.toNat < 128)∨p=[195,164]
theorem sg2_len {p:List UInt8} (h:Sg2 p) (r:List UInt8):sgL (p++r)=p.length∧p≠[]:=by
 rcases h with ⟨c,rfl,h1,h2⟩|rfl
 ·refine ⟨?_,by simp⟩
  rw[sgL_N _ (by simp)];have e:(([c]++r).getD 0 0)=c:=rfl;rw[e];unfold sgN;rw[if_pos h2,if_neg (by omega)]
  rfl
 ·refine ⟨?_,by simp⟩
  rw[sgL_N _ (by simp)];simp[sgN]
  try omega
theorem cnt2_cons {p:List UInt8} (h:Sg2 p) (r:List UInt8):cnt (p++r)=(cnt r).map (·+1):=by
  obtain ⟨h1,h2⟩:=sg2_len h r;rw[cnt_good _ (by simp[h2]) (by rw[h1];exact fun e=>h2 (List.length_eq_zero_iff.1 e)),h1,List.drop_left]
theorem cnt2_flat:∀ (ps:List (List UInt8)),(∀ p∈ps,Sg2 p)→cnt ps.flatten=some ps.length
 | [],_=>cnt_nil
 | p :: ps,h=>by
  rw[List.flatten_cons,cnt2_cons (h p (by simp)),cnt2_flat ps (fun q hq=>h q (by simp[hq]))]
  rfl
def Vt (l:List UInt8):Prop:=∃ ps:List (List UInt8),(∀ p∈ps,Sg2 p)∧l=ps.flatten
theorem Vt.nil:Vt []:=⟨[],by simp,rfl⟩
theorem Vt.append {l m:List UInt8} (h:Vt l) (k:Vt m):Vt (l++m):=by
 obtain ⟨ps,h1,rfl⟩:=h;obtain ⟨qs,k1,rfl⟩:=k;refine ⟨ps++qs,fun p hp=>?_,by simp⟩;rcases List.mem_append.1 hp with h|h
 ·exact h1 p h
 ·exact k1 p h
theorem Vt.one {c:UInt8} (h1:0 < c.toNat) (h2:c.toNat < 128):Vt [c]:=⟨[[c]],by simp;exact .inl ⟨c,rfl,h1,h2⟩,rfl⟩
theorem Vt.cons {c:UInt8} {l:List UInt8} (h1:0 < c.toNat) (h2:c.toNat < 128) (h:Vt l):Vt (c :: l):=(Vt.one h1 h2).append h
theorem Vt.text {l:List UInt8} (h:Vt l):isText l=true:=by
 obtain ⟨ps,h1,rfl⟩:=h;rw[isText_cnt,cnt2_flat ps h1]
 rfl
theorem Vt.ok {s:ByteArray} (h:Vt s.data.toList) (hs:s.size≤65535):okText s=true:=by
 unfold okText;rw[decide_eq_true hs,h.text]
 rfl
theorem wild_no {x:List UInt8} (h1:43 ∉ x) (h2:35 ∉ x):wildL x=false:=by
 unfold wildL;simp[h1,h2]
end Go.Proofs.YtohmcfmcbibbcaaGreatDoor
namespace Go.Proofs.YtohmcfmcbibbcaaGreatDoor
open Go.RowKit
set_option linter.unusedVariables false
set_option linter.unusedSimpArgs false
theorem name_of {n:ByteArray} (hv:Vt n.data.toList) (hs:n.size≤65535) (h0:0 < n.size) (hw:wildL n.data.toList=false):nameB n=true:=by
 unfold nameB;rw[hv.ok hs,hw,decide_eq_true h0]
 rfl
def okChars:List UInt8:=[97,98,47,99,100,195,164,101]
structure Made (T:ByteArray):Prop where
 vt:Vt T.data.toList
 ne:T.data.toList≠[]
 chars:∀ c∈T.data.toList,c∈okChars
 len:T.data.toList.length≤16
section
variable {T:ByteArray}
theorem Made.size (h:Made T):0 < T.size∧T.size≤16:=by
 have h1:=h.len;have h2:=List.length_pos_iff.2 h.ne;rw[sz_list]at h1 h2;exact ⟨h2,h1⟩
theorem Made.not_in (h:Made T) {c:UInt8} (hc:c ∉ okChars):c ∉ T.data.toList:=fun hm=>hc (h.chars c hm)
theorem Made.wild (h:Made T):wildL T.data.toList=false:=wild_no (h.not_in (by decide)) (h.not_in (by decide))
theorem Made.name (h:Made T):nameB T=true:=name_of h.vt (by have:=h.size;omega) h.size.1 h.wild
end
def bl (l:List Nat):List UInt8:=l.map UInt8.ofNat
end Go.Proofs.YtohmcfmcbibbcaaGreatDoor
