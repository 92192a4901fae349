import Derived.Lib.ValidLaws
import Derived.Lib.RuneCountTail
import Derived.Lib.Strings
import Derived.Lib.Index
namespace Go.Proofs.YtohmcfmcbibbcaaGreatDoor
open Go.Lib
set_option linter.unusedVariables false
set_option linter.unusedSimpArgs false
def sgL (l:List UInt8):Nat:=if ((decodeL l).1=65533∧(decodeL l).2=1)∨l.getD 0 0=0 then 0 else (decodeL l).2
def cntL:Nat→List UInt8→Option Nat
  | 0,_=>some 0
  | f+1,l=>if l=[] then some 0 else if sgL l=0 then none else (cntL f (l.drop (sgL l))).map (·+1)
theorem decodeL_N (l:List UInt8):decodeL l=decodeN l.length (l.getD 0 0).toNat (l.getD 1 0).toNat (l.getD 2 0).toNat (l.getD 3 0).toNat:=by
 unfold decodeL;rw[decode_at];have e:∀ i,(⟨l.toArray⟩:ByteArray).get! i=l.getD i 0:=fun i=>by rw[← getD_get!']
 simp only[e,Nat.zero_add,Nat.sub_zero]
 rfl
theorem decodeN_facts (n b0 b1 b2 b3:Nat) (h:¬ ((decodeN n b0 b1 b2 b3).1=65533∧(decodeN n b0 b1 b2 b3).2=1)) :
  ((decodeN n b0 b1 b2 b3).2=1∧b0 < 128)∨((decodeN n b0 b1 b2 b3).2=2∧1 < n∧b1 / 64=2∧128≤b0) ∨
  ((decodeN n b0 b1 b2 b3).2=3∧2 < n∧b1 / 64=2∧b2 / 64=2∧128≤b0)∨((decodeN n b0 b1 b2 b3).2=4∧3 < n∧b1 / 64=2∧b2 / 64=2∧b3 / 64=2∧128≤b0):=by
 unfold decodeN at h ⊢
 split
 ·exact .inl ⟨rfl,by assumption⟩
 ·rename_i h0
  rw[if_neg h0]at h
  split
  ·rename_i h1
   rw[if_pos h1]at h
   split
   ·exact .inr (.inl ⟨rfl,h1.2.1,h1.2.2,by omega⟩)
   ·rename_i h2;rw[if_neg h2]at h;exact absurd ⟨rfl,rfl⟩ h
  ·rename_i h1
   rw[if_neg h1]at h
   split
   ·rename_i h2
    rw[if_pos h2]at h
    split
    ·exact .inr (.inr (.inl ⟨rfl,h2.2.2.1,h2.2.1.2,h2.2.2.2,by omega⟩))
    ·rename_i h3;rw[if_neg h3]at h;exact absurd ⟨rfl,rfl⟩ h
   ·rename_i h2
    rw[if_neg h2]at h
    split
    ·rename_i h3
     rw[if_pos h3]at h
     split
     ·exact .inr (.inr (.inr ⟨rfl,h3.2.2.2.1,h3.2.1.2,h3.2.2.1.2,h3.2.2.2.2,by omega⟩))
     ·rename_i h4;rw[if_neg h4]at h;exact absurd ⟨rfl,rfl⟩ h
    ·rename_i h3;rw[if_neg h3]at h;exact absurd ⟨rfl,rfl⟩ h
theorem zero_iff (b:UInt8):b=0↔b.toNat=0:=⟨fun h=>by rw[h];rfl,fun h=>by rw[← UInt8.toNat_inj];exact h⟩
theorem sgL_facts (l:List UInt8) (hne:l≠[]) (h:sgL l≠0):sgL l=(decodeL l).2∧1≤sgL l∧sgL l≤4∧sgL l≤l.length∧∀ b∈l.take (sgL l),b≠0:=by
 unfold sgL at h
 split at h
 ·exact absurd rfl h
 ·rename_i h1
  have e:sgL l=(decodeL l).2:=by unfold sgL;rw[if_neg h1]
  rw[e];have hl:0 < l.length:=List.length_pos_iff.2 hne;have hb:¬ ((decodeL l).1=65533∧(decodeL l).2=1):=fun q=>h1 (.inl q)
  have h00:l.getD 0 0≠0:=fun q=>h1 (.inr q)
  rw[decodeL_N]at hb ⊢;have hf:=decodeN_facts _ _ _ _ _ hb;have hz:∀ i,i < l.length→(l.getD i 0).toNat≠0→l.getD i 0≠0:=fun i _ q w=>q (by rw[w];rfl)
  have key:∀ k,k≤l.length→(∀ i,i < k→l.getD i 0≠0)→∀ b∈l.take k,b≠0:=by
   intro k hk hall b hbm;obtain ⟨i,hi,rfl⟩:=List.getElem_of_mem hbm;simp at hi
   have:=hall i (by omega)
   rw[List.getD_eq_getElem?_getD,List.getElem?_eq_getElem (by omega)]at this;simpa using this
  rcases hf with ⟨h2,h3⟩|⟨h2,h3,h4,h5⟩|⟨h2,h3,h4,h5,h6⟩|⟨h2,h3,h4,h5,h6,h7⟩
  ·rw[h2]
   exact ⟨rfl,by omega,by omega,by omega,key 1 (by omega) fun i hi=>by
    have hi0:i=0:=by omega
    rw[hi0];exact h00⟩
  ·rw[h2]
   exact ⟨rfl,by omega,by omega,by omega,key 2 (by omega) fun i hi=>by
    rcases (show i=0∨i=1 from by omega) with rfl|rfl
    ·exact h00
    ·exact hz 1 (by omega) (by omega)⟩
  ·rw[h2]
   exact ⟨rfl,by omega,by omega,by omega,key 3 (by omega) fun i hi=>by
    rcases (show i=0∨i=1∨i=2 from by omega) with rfl|rfl|rfl
    ·exact h00
    ·exact hz 1 (by omega) (by omega)
    ·exact hz 2 (by omega) (by omega)⟩
  ·rw[h2]
   exact ⟨rfl,by omega,by omega,by omega,key 4 (by omega) fun i hi=>by
    rcases (show i=0∨i=1∨i=2∨i=3 from by omega) with rfl|rfl|rfl|rfl
    ·exact h00
    ·exact hz 1 (by omega) (by omega)
    ·exact hz 2 (by omega) (by omega)
    ·exact hz 3 (by omega) (by omega)⟩
def isText (l:List UInt8):Bool:=validD l&&!(l.contains 0)
theorem runeCountL_step (l:List UInt8) (hne:l≠[]) (h1:1≤(decodeL l).2):runeCountL l=1+runeCountL (l.drop (decodeL l).2):=by
 unfold runeCountL runeCount;have hs:(⟨l.toArray⟩:ByteArray).size=l.length:=by simp[ByteArray.size]
 have hl:0 < l.length:=List.length_pos_iff.2 hne;obtain ⟨m,hm⟩:∃ m,l.length=m+1:=⟨l.length - 1,by omega⟩
 rw[hs,hm];show (if 0 < (⟨l.toArray⟩:ByteArray).size then _ else _)=_;rw[hs,if_pos hl]
 congr 1
 have hd:Utf8.decode ⟨l.toArray⟩ 0=decodeL l:=rfl;rw[hd,Nat.zero_add]
 have hx:(⟨(l.drop (decodeL l).2).toArray⟩:ByteArray)=(⟨l.toArray⟩:ByteArray).extract (decodeL l).2 (⟨l.toArray⟩:ByteArray).size:=by
  rw[extract_eq,hs,List.take_of_length_le (by simp)]
 rw[hx,tail_count,Nat.add_zero,tail_size,hs];exact fuel_enough _ _ _ _ (by rw[hs];omega) (by rw[hs];omega)
theorem cntL_eq:∀ (f:Nat) (l:List UInt8),l.length≤f→cntL f l=if isText l then some (runeCountL l) else none:=by
 intro f
 induction f with
 | zero =>
  intro l h;have hl:l=[]:=List.eq_nil_of_length_eq_zero (by omega);rw[hl];rfl
 | succ f ih =>
  intro l h
  by_cases hne:l=[]
  ·subst hne;rfl
  ·rw[cntL,if_neg hne]
   by_cases hs:sgL l=0
   ·rw[if_pos hs]
    have:isText l=false:=by
     unfold sgL at hs
     split at hs
     ·rename_i h1
      rcases h1 with h1|h1
      ·unfold isText;rw[validD_step l hne,if_pos h1];rfl
      ·unfold isText
       have:l.contains 0=true:=by
        rw[List.contains_iff_mem];obtain ⟨b,t,rfl⟩:=List.exists_cons_of_ne_nil hne;simp at h1;simp[h1]
       rw[this];simp
     ·rename_i h1
      exfalso;have hb:¬ ((decodeL l).1=65533∧(decodeL l).2=1):=fun q=>h1 (.inl q)
      rw[decodeL_N]at hb hs
      have:=decodeN_facts _ _ _ _ _ hb
      omega
    rw[this];rfl
   ·obtain ⟨e1,e2,e3,e4,e5⟩:=sgL_facts l hne hs
    rw[if_neg hs,ih _ (by rw[List.length_drop];omega),e1]
    have hv:validD l=validD (l.drop (decodeL l).2):=by
     rw[validD_step l hne,if_neg];intro q;exact hs (by unfold sgL;rw[if_pos (.inl q)])
    have hc:l.contains 0=(l.drop (decodeL l).2).contains 0:=by
     have hsp:l=l.take (decodeL l).2++l.drop (decodeL l).2:=(List.take_append_drop _ _).symm
     have h0:(l.take (decodeL l).2).contains 0=false:=by
      rw[← e1,← Bool.not_eq_true,List.contains_iff_mem];intro hm;exact e5 0 hm rfl
     rw[Bool.eq_iff_iff,List.contains_iff_mem,List.contains_iff_mem];constructor
     ·intro hm
      rw[hsp,List.mem_append]at hm;rcases hm with hm|hm
      ·rw[← Bool.not_eq_true,List.contains_iff_mem]at h0;exact absurd hm h0
      ·exact hm
     ·exact fun hm=>List.mem_of_mem_drop hm
    have ht:isText l=isText (l.drop (decodeL l).2):=by unfold isText;rw[hv,hc]
    rw[ht,runeCountL_step l hne (by omega)]
    split<;>simp[Nat.add_comm]
def sgN (n b0 b1 b2 b3:Nat):Nat :=
 if b0 < 128 then (if b0=0 then 0 else 1)
 else if b0 < 192 then 0
 else if b0 < 224 then (if n < 2∨¬ (128≤b1∧b1 < 192) then 0 else if (b0 - 192) * 64+(b1 - 128) < 128 then 0 else 2)
 else if b0 < 240 then (if n < 3∨¬ (128≤b1∧b1 < 192)∨¬ (128≤b2∧b2 < 192) then 0
  else if ((b0 - 224) * 64+(b1 - 128)) * 64+(b2 - 128) < 2048∨(55296≤((b0 - 224) * 64+(b1 - 128)) * 64+(b2 - 128)∧((b0 - 224) * 64+(b1 - 128)) * 64+(b2 - 128)≤57343) then 0 else 3)
 else if b0 < 248 then (if n < 4∨¬ (128≤b1∧b1 < 192)∨¬ (128≤b2∧b2 < 192)∨¬ (128≤b3∧b3 < 192) then 0
  else if (((b0 - 240) * 64+(b1 - 128)) * 64+(b2 - 128)) * 64+(b3 - 128) < 65536∨1114111 < (((b0 - 240) * 64+(b1 - 128)) * 64+(b2 - 128)) * 64+(b3 - 128) then 0 else 4)
 else 0
theorem sg_bad (n b0 b1 b2 b3 x:Nat) (hD:decodeN n b0 b1 b2 b3=(65533,1)) (hx:x=0) :
  (if ((decodeN n b0 b1 b2 b3).1=65533∧(decodeN n b0 b1 b2 b3).2=1)∨b0=0 then 0 else (decodeN n b0 b1 b2 b3).2)=x:=by
 rw[hD,hx,if_pos (.inl ⟨rfl,rfl⟩)]
theorem sg_good (n b0 b1 b2 b3 x v:Nat) (hD:decodeN n b0 b1 b2 b3=(v,x)) (hx:¬ (v=65533∧x=1)) (h0:b0≠0) :
  (if ((decodeN n b0 b1 b2 b3).1=65533∧(decodeN n b0 b1 b2 b3).2=1)∨b0=0 then 0 else (decodeN n b0 b1 b2 b3).2)=x:=by
 rw[hD,if_neg];rintro (h|h)
 ·exact hx h
 ·exact h0 h
set_option maxHeartbeats 4000000 in
theorem sgN_eq (n b0 b1 b2 b3:Nat) (h0:b0 < 256) (h1:b1 < 256) (h2:b2 < 256) (h3:b3 < 256) (hn:1≤n) :
  (if ((decodeN n b0 b1 b2 b3).1=65533∧(decodeN n b0 b1 b2 b3).2=1)∨b0=0 then 0 else (decodeN n b0 b1 b2 b3).2)=sgN n b0 b1 b2 b3:=by
 rcases (show b0 < 128∨(128≤b0∧b0 < 192)∨(192≤b0∧b0 < 224)∨(224≤b0∧b0 < 240)∨(240≤b0∧b0 < 248)∨248≤b0 from by omega) with c|c|c|c|c|c
 ·unfold sgN
  rw[if_pos c]
  by_cases hz:b0=0
  ·rw[if_pos (.inr hz),if_pos hz]
  ·rw[if_neg hz]
   exact sg_good n b0 b1 b2 b3 1 b0 (by unfold decodeN;rw[if_pos c]) (by omega) hz
 ·unfold sgN
  rw[if_neg (show ¬ b0 < 128 by omega),if_pos (show b0 < 192 by omega)];exact sg_bad n b0 b1 b2 b3 _ (by unfold decodeN;(repeat' split)<;>first|(exfalso;omega)|rfl) rfl
 ·unfold sgN
  rw[if_neg (show ¬ b0 < 128 by omega),if_neg (show ¬ b0 < 192 by omega),if_pos (show b0 < 224 by omega)]
  by_cases hs:n < 2∨¬ (128≤b1∧b1 < 192)
  ·rw[if_pos hs]
   exact sg_bad n b0 b1 b2 b3 _ (by unfold decodeN;(repeat' split)<;>first|(exfalso;omega)|rfl) rfl
  ·rw[if_neg hs]
   by_cases hv:(b0 - 192) * 64+(b1 - 128) < 128
   ·rw[if_pos hv]
    exact sg_bad n b0 b1 b2 b3 _ (by unfold decodeN;(repeat' split)<;>first|(exfalso;omega)|rfl) rfl
   ·rw[if_neg hv]
    exact sg_good n b0 b1 b2 b3 _ (b0 % 32 * 64+b1 % 64) (by unfold decodeN;(repeat' split)<;>first|(exfalso;omega)|rfl) (by omega) (by omega)
 ·unfold sgN
  rw[if_neg (show ¬ b0 < 128 by omega),if_neg (show ¬ b0 < 192 by omega),if_neg (show ¬ b0 < 224 by omega),if_pos (show b0 < 240 by omega)]
  by_cases hs:n < 3∨¬ (128≤b1∧b1 < 192)∨¬ (128≤b2∧b2 < 192)
  ·rw[if_pos hs]
   exact sg_bad n b0 b1 b2 b3 _ (by unfold decodeN;(repeat' split)<;>first|(exfalso;omega)|rfl) rfl
  ·rw[if_neg hs]
   by_cases hv:((b0 - 224) * 64+(b1 - 128)) * 64+(b2 - 128) < 2048∨(55296≤((b0 - 224) * 64+(b1 - 128)) * 64+(b2 - 128)∧((b0 - 224) * 64+(b1 - 128)) * 64+(b2 - 128)≤57343)
   ·rw[if_pos hv]
    exact sg_bad n b0 b1 b2 b3 _ (by unfold decodeN;(repeat' split)<;>first|(exfalso;omega)|rfl) rfl
   ·rw[if_neg hv]
    exact sg_good n b0 b1 b2 b3 _ (b0 % 16 * 4096+b1 % 64 * 64+b2 % 64) (by unfold decodeN;(repeat' split)<;>first|(exfalso;omega)|rfl) (by omega) (by omega)
 ·unfold sgN
  rw[if_neg (show ¬ b0 < 128 by omega),if_neg (show ¬ b0 < 192 by omega),if_neg (show ¬ b0 < 224 by omega),if_neg (show ¬ b0 < 240 by omega),if_pos (show b0 < 248 by omega)]
  by_cases hs:n < 4∨¬ (128≤b1∧b1 < 192)∨¬ (128≤b2∧b2 < 192)∨¬ (128≤b3∧b3 < 192)
  ·rw[if_pos hs]
   exact sg_bad n b0 b1 b2 b3 _ (by unfold decodeN;(repeat' split)<;>first|(exfalso;omega)|rfl) rfl
  ·rw[if_neg hs]
   by_cases hv:(((b0 - 240) * 64+(b1 - 128)) * 64+(b2 - 128)) * 64+(b3 - 128) < 65536∨1114111 < (((b0 - 240) * 64+(b1 - 128)) * 64+(b2 - 128)) * 64+(b3 - 128)
   ·rw[if_pos hv]
    exact sg_bad n b0 b1 b2 b3 _ (by unfold decodeN;(repeat' split)<;>first|(exfalso;omega)|rfl) rfl
   ·rw[if_neg hv]
    exact sg_good n b0 b1 b2 b3 _ (b0 % 8 * 262144+b1 % 64 * 4096+b2 % 64 * 64+b3 % 64) (by unfold decodeN;(repeat' split)<;>first|(exfalso;omega)|rfl) (by omega) (by omega)
 ·unfold sgN
  rw[if_neg (show ¬ b0 < 128 by omega),if_neg (show ¬ b0 < 192 by omega),if_neg (show ¬ b0 < 224 by omega),if_neg (show ¬ b0 < 240 by omega),if_neg (show ¬ b0 < 248 by omega)];exact sg_bad n b0 b1 b2 b3 _ (by unfold decodeN;(repeat' split)<;>first|(exfalso;omega)|rfl) rfl
theorem sgL_N (l:List UInt8) (hne:l≠[]):sgL l=sgN l.length (l.getD 0 0).toNat (l.getD 1 0).toNat (l.getD 2 0).toNat (l.getD 3 0).toNat:=by
 have hl:0 < l.length:=List.length_pos_iff.2 hne;rw[← sgN_eq _ _ _ _ _ (UInt8.toNat_lt _) (UInt8.toNat_lt _) (UInt8.toNat_lt _) (UInt8.toNat_lt _) (by omega),← decodeL_N];unfold sgL;simp only[zero_iff]
end Go.Proofs.YtohmcfmcbibbcaaGreatDoor
