import Derived.Test.YtkochkhfbhjicaaGreatDoorYFA
import Derived.Test.YtkochkhfbhjicaaGreatDoorYFJ
import Derived.Laws.IdiomStrings
import Derived.Lib.BufferRead
namespace Go.Proofs.YtkochkhfbhjicaaGreatDoor
open Go.RowKit
set_option linter.unusedVariables false
set_option linter.unusedSimpArgs false
set_option maxRecDepth 100000
def qS:List (List UInt8)→List UInt8
 | []=>[]
 | [x]=>x
 | x :: y :: r=>x++47 :: qS (y :: r)
theorem jAc:∀ (M:List (List UInt8)),M≠[]→(∀ x∈M,47 ∉ x)→lev (qS M)=M
 | [],h,_=>absurd rfl h
 | [x],_,h=>by rw[qS,j2y x (h x (by simp))]
 | x :: y :: r,_,h=>by
  rw[qS,j8x x _ (h x (by simp)),jAc (y :: r) (by simp) (λz hz=>h z (List.mem_cons_of_mem _ hz))]
theorem jDi:∀ (M:List (List UInt8)),(∀ x∈M,Vt x)→Vt (qS M)
 | [],_=>Vt.nil
 | [x],h=>h x (by simp)
 | x :: y :: r,h=>by
  rw[qS];exact (h x (by simp)).append (Vt.cons (by decide) (by decide) (jDi (y :: r) (λz hz=>h z (List.mem_cons_of_mem _ hz))))
theorem j3k:∀ (M:List (List UInt8)) (x:List UInt8),M≠[]→qS (M++[x])=qS M++47 :: x
 | [],_,h=>absurd rfl h
 | [y],x,_=>rfl
 | y :: z :: r,x,_=>by
  rw[List.cons_append,List.cons_append,qS,← List.cons_append,j3k (z :: r) x (by simp),qS];simp
def j1k (M:List (List UInt8)):List UInt8:=M.flatMap λx=>x++[47]
theorem j7r:∀ (M:List (List UInt8)),(∀ x∈M,vF x=false∨x=[43])→qz M=true
 | [],_=>rfl
 | x :: r,h=>by
  rw[okLev_cons',j7r r (λy hy=>h y (List.mem_cons_of_mem _ hy))];rcases h x (by simp) with h|h
  ·rw[h];rfl
  ·rw[h];rfl
where okLev_cons' {x:List UInt8} {r:List (List UInt8)}:qz (x :: r)=((!vF x||(x == [43]||(x == [35]&&r.isEmpty)))&&qz r):=rfl
theorem j6b:∀ (M:List (List UInt8)),(∀ x∈M,vF x=false∨x=[43])→qz (M++[[35]])=true
 | [],_=>rfl
 | x :: r,h=>by
  have ih:=j6b r (λy hy=>h y (List.mem_cons_of_mem _ hy));rw[List.cons_append];show ((!vF x||(x == [43]||(x == [35]&&(r++[[35]]).isEmpty)))&&qz (r++[[35]]))=true;rw[ih];rcases h x (by simp) with h|h
  ·rw[h];rfl
  ·rw[h];rfl
theorem jAq {c:UInt8} {l:List UInt8} (h:c≠36):qn (c :: l)=false:=by
 unfold qn j3q;simp[List.isPrefixOf];exact λe=>absurd e.symm h
theorem xr (a b:ByteArray):(a++b).data.toList=a.data.toList++b.data.toList:=by simp
theorem no36 {l:List UInt8} (h:36 ∉ l):qn l=false∧([36]:List UInt8).isPrefixOf l=false:=by
 cases l with
 | nil=>exact ⟨rfl,rfl⟩
 | cons c t =>
  have hc:c≠36:=λe=>h (by simp[e])
  refine ⟨jAq hc,?_⟩;simp[List.isPrefixOf];exact λe=>hc e.symm
theorem jCz:∀ (M:List (List UInt8)) (c:UInt8),c∈qS M→c=47∨∃ x∈M,c∈x
 | [],c,h=>by simp[qS]at h
 | [x],c,h=>.inr ⟨x,by simp,by simpa [qS] using h⟩
 | x :: y :: r,c,h=>by
  rw[qS]at h;rcases List.mem_append.1 h with h|h
  ·exact .inr ⟨x,by simp,h⟩
  ·rcases List.mem_cons.1 h with h|h
   ·exact .inl h
   ·rcases jCz (y :: r) c h with h|⟨z,hz,hc⟩
    ·exact .inl h
    ·exact .inr ⟨z,List.mem_cons_of_mem _ hz,hc⟩
theorem jEs (M:List (List UInt8)) (B:Nat) (h:∀ x∈M,x.length≤B):(j1k M).length≤M.length*(B+1):=by
 induction M with
 | nil=>simp[j1k]
 | cons x M ih =>
  have h1:=ih (λy hy=>h y (List.mem_cons_of_mem _ hy));have h2:=h x (by simp);rw[show j1k (x :: M)=x++[47]++j1k M from rfl];simp only[List.length_append,List.length_cons,List.length_nil,Nat.add_mul,Nat.one_mul];omega
theorem j63:∀ (M:List (List UInt8)),M≠[]→qS M++[47]=j1k M
 | [],h=>absurd rfl h
 | [x],_=>by simp[qS,j1k]
 | x :: y :: r,_=>by
  rw[qS,show j1k (x :: y :: r)=x++[47]++j1k (y :: r) from rfl,← j63 (y :: r) (by simp)];simp
theorem j62 (M:List (List UInt8)) (B:Nat) (h:∀ x∈M,x.length≤B):(qS M).length≤M.length*(B+1):=by
 cases M with
 | nil=>simp[qS]
 | cons x r =>
  have h1:=jEs (x :: r) B h;rw[← j63 (x :: r) (by simp)]at h1;simp at h1 ⊢;omega
theorem jH6 {l:List UInt8} (h0:l≠[]) (h1:qz (lev l)=true):vR l=true:=by
 unfold vR;rw[h1];cases l with
 | nil=>exact absurd rfl h0
 | cons _ _=>rfl
theorem j8m {f:ByteArray} (hv:Vt f.data.toList) (hs:f.size≤65535) (h36:qn f.data.toList=false) (hp:vR f.data.toList=true):qE f=true∧ofL f.data.toList=f.data.toList:=by
 unfold qE ofL;rw[hv.ok hs,h36,hp];exact ⟨rfl,rfl⟩
def fsg:Nat→List UInt8
 | 0=>[97]
 | 1=>[43]
 | 2=>[98]
 | 3=>[]
 | 4=>[99]
 | 5=>[97]
 | 6=>[43]
 | _=>[98]
def fM (l:List UInt8):List (List UInt8):=[116] :: (l.take 6).map λc=>fsg (c.toNat % 8)
def vz (l:List UInt8) (i m:Nat):Bool:=match l[i]? with|some c=>decide (m≤c.toNat)|none=>false
def ff1 (l:List UInt8):List UInt8:=if vz l 0 200 then qS (fM l)++[47,35] else qS (fM l)
def ff2 (l:List UInt8):List UInt8:=if vz l 1 200 then [36,115,104,97,114,101,47,103,47]++ff1 l else ff1 l
def ffL (l:List UInt8):List UInt8:=if vz l 2 220 then [35] else ff2 l
def ffS (s:ByteArray):ByteArray:=⟨(ffL s.data.toList).toArray⟩
def ffB (s:ByteArray) (k:Nat):ByteArray:=⟨(qS ([116] :: (s.data.toList.take k).map λc=>fsg (c.toNat % 8))).toArray⟩
def jLu (k:Nat):ByteArray:=⟨(fsg k).toArray⟩
theorem j8o (k:Nat):(fsg k).length≤1:=by unfold fsg;split<;>simp
theorem qh {a b:ByteArray} (h:a.data.toList=b.data.toList):a=b:=ByteArray.ext (Array.ext' h)
theorem jGc (s:ByteArray) (k:Nat) (h:k<s.size):ffB s k++⟨#[47]⟩++jLu (s[k].toNat % 8)=ffB s (k+1):=by
 have h1:s.data.toList.take (k+1)=s.data.toList.take k++[s[k]]:=by
  rw[List.take_succ_eq_append_getElem (by rw[qF];exact h)];rfl
 apply qh;rw[xr,xr];show qS ([116] :: (s.data.toList.take k).map λc=>fsg (c.toNat % 8))++[47]++fsg (s[k].toNat % 8)=qS ([116] :: (s.data.toList.take (k+1)).map λc=>fsg (c.toNat % 8));rw[h1,List.map_append,← List.cons_append,List.map_cons,List.map_nil,j3k _ _ (by simp),List.append_assoc]
 rfl
theorem jIy (s:ByteArray) (k:Nat) (h:k=6∨k=s.size) (h6:k≤6):ffB s k=⟨(qS (fM s.data.toList)).toArray⟩:=by
 unfold ffB fM;rcases h with rfl|rfl
 ·rfl
 ·have h1:s.data.toList.take s.size=s.data.toList.take 6:=by rw[List.take_of_length_le (by rw[qF];omega),List.take_of_length_le (by rw[qF];omega)]
  rw[h1]
theorem jKj (l:List UInt8) (k:Nat):∀ x∈([116] :: (l.take k).map λc=>fsg (c.toNat % 8):List (List UInt8)),x=[116]∨∃ j,x=fsg j:=by
 intro x hx;rcases List.mem_cons.1 hx with rfl|hx
 ·exact .inl rfl
 ·obtain ⟨c,_,hc⟩:=List.mem_map.1 hx
  exact .inr ⟨_,hc.symm⟩
theorem jIz (s:ByteArray) (k:Nat) (hk:k≤6):(ffB s k).size≤14:=by
 have h1:=j62 ([116] :: (s.data.toList.take k).map λc=>fsg (c.toNat % 8)) 1 (λx hx=>by
  rcases jKj _ k x hx with rfl|⟨j,rfl⟩
  ·simp
  ·exact j8o j)
 have h2:(s.data.toList.take k).length≤k:=List.length_take_le _ _;show (qS ([116] :: (s.data.toList.take k).map λc=>fsg (c.toNat % 8))).toArray.size≤14;rw[List.size_toArray];simp only[List.length_cons,List.length_map]at h1;omega
theorem jGi (k:Nat):(jLu k).size≤1:=by
 have:=j8o k
 show (fsg k).toArray.size≤1;simp only[List.size_toArray];omega
theorem vq {s:ByteArray} {i m:Nat} (h:i<s.size) (h2:m≤s[i].toNat):vz s.data.toList i m=true:=by
 unfold vz;rw[Lib.data_getElem? s i h];simpa using h2
theorem zB {s:ByteArray} {i m:Nat} (h:i<s.size) (h2:s[i].toNat<m):vz s.data.toList i m=false:=by
 unfold vz;rw[Lib.data_getElem? s i h];simp;omega
theorem zm {s:ByteArray} {i m:Nat} (h:s.size≤i):vz s.data.toList i m=false:=by
 unfold vz;rw[List.getElem?_eq_none (by rw[qF];exact h)]
set_option maxRecDepth 100000 in
set_option maxHeartbeats 8000000 in
theorem j2j (s:ByteArray) (w:World) (hs:s.size≤9223372036854775807) :
  Calls Tryz.prog 15 #[.string s] w λe w'=>e=.returned (.string (ffS s))∧Kept No w w':=by
 go_enter Tryz.func15,Tryz.ntmps15
 go_wp2
 have hk1:Kept No w (w.alloc (.cells #[.string ⟨#[97]⟩,.string ⟨#[43]⟩,.string ⟨#[98]⟩,.string ⟨#[]⟩,.string ⟨#[99]⟩,.string ⟨#[97]⟩,.string ⟨#[43]⟩,.string ⟨#[98]⟩] 9)):=(Kept.refl No w).alloc _
 have hcl:∀ j,j<8→(w.alloc (.cells #[.string ⟨#[97]⟩,.string ⟨#[43]⟩,.string ⟨#[98]⟩,.string ⟨#[]⟩,.string ⟨#[99]⟩,.string ⟨#[97]⟩,.string ⟨#[43]⟩,.string ⟨#[98]⟩] 9)).cell? ⟨w.heap.size,j,none⟩=some (.string (jLu j)):=by
  intro j hj;rw[(Blk.new w _ _).cell];rcases (show j=0∨j=1∨j=2∨j=3∨j=4∨j=5∨j=6∨j=7 from by omega) with rfl|rfl|rfl|rfl|rfl|rfl|rfl|rfl<;>rfl
 have HCL:=Lib.hid hcl;clear hcl
 go_loop [4,5] (λo i=>∃ k:Nat,i=.int .i64 k∧k≤s.size∧k≤6∧o=.string (ffB s k)) (λ_ i=>6 - (intOf i).toNat)
 case atStart=>exact ⟨0,rfl,by omega,by omega,rfl⟩
 case round =>
  obtain ⟨k,rfl,hks,hk8,rfl⟩:=hrel;have hlen:=jIz s k hk8
  by_cases hlt:k<s.size∧k<6
  ·obtain ⟨hl1,hl2⟩:=hlt
   have hl1I:(k:Int)<s.size:=by omega
   have hl2I:(k:Int)<6:=by omega
   have hc:=HCL.out (s[k].toNat % 8) (by omega);have hb:=xM s[k];have hN:((s[k].toNat:Int) % 8).toNat=s[k].toNat % 8:=by omega
   have hB0:(0:Int)≤(s[k].toNat:Int) % 8:=by omega
   have hB1:(s[k].toNat:Int) % 8<8:=by omega
   have hlen2:=jGi (s[k].toNat % 8);have HS:=Lib.hid (jGc s k hl1)
   go_wp2
   go_round
   case rel=>exact ⟨k+1,by go_num,by omega,by omega,by rw[HS.out]⟩
   case measure=>simp[intOf];omega
  ·have hend:k=6∨k=s.size:=by omega
   have HE:=Lib.hid (jIy s k hend hk8);have hff:ffL s.data.toList=if vz s.data.toList 2 220 then [35] else (if vz s.data.toList 1 200 then [36,115,104,97,114,101,47,103,47]++(if vz s.data.toList 0 200 then qS (fM s.data.toList)++[47,35] else qS (fM s.data.toList)) else (if vz s.data.toList 0 200 then qS (fM s.data.toList)++[47,35] else qS (fM s.data.toList))):=rfl
   have HFF:=Lib.hid hff;have HFB:Hid ((ffB s k).data.toList=qS (fM s.data.toList)):=Lib.hid (by rw[HE.out]);generalize ffB s k=B at *;clear hend hff HE
   have hexit:(((k:Int)<s.size∧k<s.size)∧decide ((k:Int)<6)=false)∨(decide ((k:Int)<s.size)=false∧decide (k<s.size)=false):=by
    by_cases h:k<s.size
    ·exact .inl ⟨⟨by omega,h⟩,decide_eq_false (by omega)⟩
    ·exact .inr ⟨decide_eq_false (by omega),decide_eq_false h⟩
   have hexitN:¬ k<s.size∨¬ k<6:=by omega
   clear hlt;rcases (show s.size=0∨s.size=1∨s.size=2∨3≤s.size from by omega) with hz|hz|hz|hz
   ·have hs0:decide ((0:Int)<s.size)=false:=by exact decide_eq_false (by omega)
    have hs1:decide ((1:Int)<s.size)=false:=by exact decide_eq_false (by omega)
    have hs2:decide ((2:Int)<s.size)=false:=by exact decide_eq_false (by omega)
    have HV:Hid (ffS s=B):=Lib.hid (qh (by
     show ffL s.data.toList=_;rw[HFF.out,zm (i:=2) (by omega),zm (i:=1) (by omega),zm (i:=0) (by omega)]
     try simp only[xr,HFB.out,if_true,Bool.false_eq_true,if_false]))
    rcases hexit with ⟨⟨hx1,hx3⟩,hx2⟩|⟨hx1,hx2⟩
    all_goals go_wp2
    all_goals
     go_ret
     exact ⟨by rw[HV.out];rfl,hk1⟩
   ·have hs0:(0:Int)<s.size:=by omega
    have hs1:decide ((1:Int)<s.size)=false:=by exact decide_eq_false (by omega)
    have hs2:decide ((2:Int)<s.size)=false:=by exact decide_eq_false (by omega)
    have hsn0:0<s.size:=by omega
    by_cases hc0:200≤s[0].toNat
    ·have hi0:(200:Int)≤s[0].toNat:=by omega
     have HV:Hid (ffS s=(B++⟨#[47,35]⟩)):=Lib.hid (qh (by
      show ffL s.data.toList=_;rw[HFF.out,zm (i:=2) (by omega),zm (i:=1) (by omega),vq (by omega) hc0]
      try simp only[xr,HFB.out,if_true,Bool.false_eq_true,if_false]))
     rcases hexit with ⟨⟨hx1,hx3⟩,hx2⟩|⟨hx1,hx2⟩
     all_goals go_wp2
     all_goals
      go_ret
      exact ⟨by rw[HV.out];rfl,hk1⟩
    ·have hi0:decide ((200:Int)≤s[0].toNat)=false:=by simp;omega
     have hin0:decide (200≤s[0].toNat)=false:=by simp;omega
     have HV:Hid (ffS s=B):=Lib.hid (qh (by
      show ffL s.data.toList=_;rw[HFF.out,zm (i:=2) (by omega),zm (i:=1) (by omega),zB (by omega) (Nat.lt_of_not_le hc0)]
      try simp only[xr,HFB.out,if_true,Bool.false_eq_true,if_false]))
     rcases hexit with ⟨⟨hx1,hx3⟩,hx2⟩|⟨hx1,hx2⟩
     all_goals go_wp2
     all_goals
      go_ret
      exact ⟨by rw[HV.out];rfl,hk1⟩
   ·have hs0:(0:Int)<s.size:=by omega
    have hs1:(1:Int)<s.size:=by omega
    have hs2:decide ((2:Int)<s.size)=false:=by exact decide_eq_false (by omega)
    have hsn0:0<s.size:=by omega
    have hsn1:1<s.size:=by omega
    by_cases hc0:200≤s[0].toNat
    ·have hi0:(200:Int)≤s[0].toNat:=by omega
     by_cases hc1:200≤s[1].toNat
     ·have hi1:(200:Int)≤s[1].toNat:=by omega
      have HV:Hid (ffS s=(⟨#[36,115,104,97,114,101,47,103,47]⟩++(B++⟨#[47,35]⟩))):=Lib.hid (qh (by
       show ffL s.data.toList=_;rw[HFF.out,zm (i:=2) (by omega),vq (by omega) hc1,vq (by omega) hc0]
       try simp only[xr,HFB.out,if_true,Bool.false_eq_true,if_false]))
      rcases hexit with ⟨⟨hx1,hx3⟩,hx2⟩|⟨hx1,hx2⟩
      all_goals go_wp2
      all_goals
       go_ret
       exact ⟨by rw[HV.out];rfl,hk1⟩
     ·have hi1:decide ((200:Int)≤s[1].toNat)=false:=by simp;omega
      have hin1:decide (200≤s[1].toNat)=false:=by simp;omega
      have HV:Hid (ffS s=(B++⟨#[47,35]⟩)):=Lib.hid (qh (by
       show ffL s.data.toList=_;rw[HFF.out,zm (i:=2) (by omega),zB (by omega) (Nat.lt_of_not_le hc1),vq (by omega) hc0]
       try simp only[xr,HFB.out,if_true,Bool.false_eq_true,if_false]))
      rcases hexit with ⟨⟨hx1,hx3⟩,hx2⟩|⟨hx1,hx2⟩
      all_goals go_wp2
      all_goals
       go_ret
       exact ⟨by rw[HV.out];rfl,hk1⟩
    ·have hi0:decide ((200:Int)≤s[0].toNat)=false:=by simp;omega
     have hin0:decide (200≤s[0].toNat)=false:=by simp;omega
     by_cases hc1:200≤s[1].toNat
     ·have hi1:(200:Int)≤s[1].toNat:=by omega
      have HV:Hid (ffS s=(⟨#[36,115,104,97,114,101,47,103,47]⟩++B)):=Lib.hid (qh (by
       show ffL s.data.toList=_;rw[HFF.out,zm (i:=2) (by omega),vq (by omega) hc1,zB (by omega) (Nat.lt_of_not_le hc0)]
       try simp only[xr,HFB.out,if_true,Bool.false_eq_true,if_false]))
      rcases hexit with ⟨⟨hx1,hx3⟩,hx2⟩|⟨hx1,hx2⟩
      all_goals go_wp2
      all_goals
       go_ret
       exact ⟨by rw[HV.out];rfl,hk1⟩
     ·have hi1:decide ((200:Int)≤s[1].toNat)=false:=by simp;omega
      have hin1:decide (200≤s[1].toNat)=false:=by simp;omega
      have HV:Hid (ffS s=B):=Lib.hid (qh (by
       show ffL s.data.toList=_;rw[HFF.out,zm (i:=2) (by omega),zB (by omega) (Nat.lt_of_not_le hc1),zB (by omega) (Nat.lt_of_not_le hc0)]
       try simp only[xr,HFB.out,if_true,Bool.false_eq_true,if_false]))
      rcases hexit with ⟨⟨hx1,hx3⟩,hx2⟩|⟨hx1,hx2⟩
      all_goals go_wp2
      all_goals
       go_ret
       exact ⟨by rw[HV.out];rfl,hk1⟩
   ·have hs0:(0:Int)<s.size:=by omega
    have hs1:(1:Int)<s.size:=by omega
    have hs2:(2:Int)<s.size:=by omega
    have hsn0:0<s.size:=by omega
    have hsn1:1<s.size:=by omega
    have hsn2:2<s.size:=by omega
    by_cases hc0:200≤s[0].toNat
    ·have hi0:(200:Int)≤s[0].toNat:=by omega
     by_cases hc1:200≤s[1].toNat
     ·have hi1:(200:Int)≤s[1].toNat:=by omega
      by_cases hc2:220≤s[2].toNat
      ·have hi2:(220:Int)≤s[2].toNat:=by omega
       have HV:Hid (ffS s=⟨#[35]⟩):=Lib.hid (qh (by
        show ffL s.data.toList=_;rw[HFF.out,vq (by omega) hc2,vq (by omega) hc1,vq (by omega) hc0]
        try rfl))
       rcases hexit with ⟨⟨hx1,hx3⟩,hx2⟩|⟨hx1,hx2⟩
       all_goals go_wp2
       all_goals
        go_ret
        exact ⟨by rw[HV.out];rfl,hk1⟩
      ·have hi2:decide ((220:Int)≤s[2].toNat)=false:=by simp;omega
       have hin2:decide (220≤s[2].toNat)=false:=by simp;omega
       have HV:Hid (ffS s=(⟨#[36,115,104,97,114,101,47,103,47]⟩++(B++⟨#[47,35]⟩))):=Lib.hid (qh (by
        show ffL s.data.toList=_;rw[HFF.out,zB (by omega) (Nat.lt_of_not_le hc2),vq (by omega) hc1,vq (by omega) hc0]
        try simp only[xr,HFB.out,if_true,Bool.false_eq_true,if_false]))
       rcases hexit with ⟨⟨hx1,hx3⟩,hx2⟩|⟨hx1,hx2⟩
       all_goals go_wp2
       all_goals
        go_ret
        exact ⟨by rw[HV.out];rfl,hk1⟩
     ·have hi1:decide ((200:Int)≤s[1].toNat)=false:=by simp;omega
      have hin1:decide (200≤s[1].toNat)=false:=by simp;omega
      by_cases hc2:220≤s[2].toNat
      ·have hi2:(220:Int)≤s[2].toNat:=by omega
       have HV:Hid (ffS s=⟨#[35]⟩):=Lib.hid (qh (by
        show ffL s.data.toList=_;rw[HFF.out,vq (by omega) hc2,zB (by omega) (Nat.lt_of_not_le hc1),vq (by omega) hc0]
        try rfl))
       rcases hexit with ⟨⟨hx1,hx3⟩,hx2⟩|⟨hx1,hx2⟩
       all_goals go_wp2
       all_goals
        go_ret
        exact ⟨by rw[HV.out];rfl,hk1⟩
      ·have hi2:decide ((220:Int)≤s[2].toNat)=false:=by simp;omega
       have hin2:decide (220≤s[2].toNat)=false:=by simp;omega
       have HV:Hid (ffS s=(B++⟨#[47,35]⟩)):=Lib.hid (qh (by
        show ffL s.data.toList=_;rw[HFF.out,zB (by omega) (Nat.lt_of_not_le hc2),zB (by omega) (Nat.lt_of_not_le hc1),vq (by omega) hc0]
        try simp only[xr,HFB.out,if_true,Bool.false_eq_true,if_false]))
       rcases hexit with ⟨⟨hx1,hx3⟩,hx2⟩|⟨hx1,hx2⟩
       all_goals go_wp2
       all_goals
        go_ret
        exact ⟨by rw[HV.out];rfl,hk1⟩
    ·have hi0:decide ((200:Int)≤s[0].toNat)=false:=by simp;omega
     have hin0:decide (200≤s[0].toNat)=false:=by simp;omega
     by_cases hc1:200≤s[1].toNat
     ·have hi1:(200:Int)≤s[1].toNat:=by omega
      by_cases hc2:220≤s[2].toNat
      ·have hi2:(220:Int)≤s[2].toNat:=by omega
       have HV:Hid (ffS s=⟨#[35]⟩):=Lib.hid (qh (by
        show ffL s.data.toList=_;rw[HFF.out,vq (by omega) hc2,vq (by omega) hc1,zB (by omega) (Nat.lt_of_not_le hc0)]
        try rfl))
       rcases hexit with ⟨⟨hx1,hx3⟩,hx2⟩|⟨hx1,hx2⟩
       all_goals go_wp2
       all_goals
        go_ret
        exact ⟨by rw[HV.out];rfl,hk1⟩
      ·have hi2:decide ((220:Int)≤s[2].toNat)=false:=by simp;omega
       have hin2:decide (220≤s[2].toNat)=false:=by simp;omega
       have HV:Hid (ffS s=(⟨#[36,115,104,97,114,101,47,103,47]⟩++B)):=Lib.hid (qh (by
        show ffL s.data.toList=_;rw[HFF.out,zB (by omega) (Nat.lt_of_not_le hc2),vq (by omega) hc1,zB (by omega) (Nat.lt_of_not_le hc0)]
        try simp only[xr,HFB.out,if_true,Bool.false_eq_true,if_false]))
       rcases hexit with ⟨⟨hx1,hx3⟩,hx2⟩|⟨hx1,hx2⟩
       all_goals go_wp2
       all_goals
        go_ret
        exact ⟨by rw[HV.out];rfl,hk1⟩
     ·have hi1:decide ((200:Int)≤s[1].toNat)=false:=by simp;omega
      have hin1:decide (200≤s[1].toNat)=false:=by simp;omega
      by_cases hc2:220≤s[2].toNat
      ·have hi2:(220:Int)≤s[2].toNat:=by omega
       have HV:Hid (ffS s=⟨#[35]⟩):=Lib.hid (qh (by
        show ffL s.data.toList=_;rw[HFF.out,vq (by omega) hc2,zB (by omega) (Nat.lt_of_not_le hc1),zB (by omega) (Nat.lt_of_not_le hc0)]
        try rfl))
       rcases hexit with ⟨⟨hx1,hx3⟩,hx2⟩|⟨hx1,hx2⟩
       all_goals go_wp2
       all_goals
        go_ret
        exact ⟨by rw[HV.out];rfl,hk1⟩
      ·have hi2:decide ((220:Int)≤s[2].toNat)=false:=by simp;omega
       have hin2:decide (220≤s[2].toNat)=false:=by simp;omega
       have HV:Hid (ffS s=B):=Lib.hid (qh (by
        show ffL s.data.toList=_;rw[HFF.out,zB (by omega) (Nat.lt_of_not_le hc2),zB (by omega) (Nat.lt_of_not_le hc1),zB (by omega) (Nat.lt_of_not_le hc0)]
        try simp only[xr,HFB.out,if_true,Bool.false_eq_true,if_false]))
       rcases hexit with ⟨⟨hx1,hx3⟩,hx2⟩|⟨hx1,hx2⟩
       all_goals go_wp2
       all_goals
        go_ret
        exact ⟨by rw[HV.out];rfl,hk1⟩
structure Lv (x:List UInt8):Prop where
 vt:Vt x
 no47:47 ∉ x
 no36:36 ∉ x
 short:x.length≤1
theorem jM4 (j:Nat):Lv (fsg j)∧(vF (fsg j)=false∨fsg j=[43])∧¬ fsg j=[35]:=by
 unfold fsg
 split
 all_goals refine ⟨⟨?_,by decide,by decide,by decide⟩,by decide,by decide⟩
 all_goals first|exact Vt.nil|exact Vt.one (by decide) (by decide)
theorem jH0 {c:UInt8} (h1:0<c.toNat) (h2:c.toNat<128) (h3:c≠47) (h4:c≠36):Lv [c]:=⟨Vt.one h1 h2,by simp;exact λe=>h3 e.symm,by simp;exact λe=>h4 e.symm,by simp⟩
theorem jN7 (l:List UInt8):∀ x∈fM l,Lv x∧(vF x=false∨x=[43])∧¬ x=[35]:=by
 intro x hx;rcases jKj l 6 x hx with rfl|⟨j,rfl⟩
 ·exact ⟨jH0 (by decide) (by decide) (by decide) (by decide),.inl (by decide),by decide⟩
 ·exact jM4 j
theorem jLj (l:List UInt8):(fM l).length≤7:=by
 unfold fM;rw[List.length_cons,List.length_map]
 have:=List.length_take_le 6 l
 omega
def jMa (b:Bool):List UInt8:=if b then [36,115,104,97,114,101,47,103,47] else []
theorem j3w (b:Bool) {f:ByteArray} {M:List (List UInt8)} (hf:f.data.toList=jMa b++qS M) (hM:M≠[]) (hl:∀ x∈M,Lv x) (hn:M.length≤9) (hok:qz M=true) (hne:qS M≠[]) :
  qE f=true∧ofL f.data.toList=qS M∧lev (qS M)=M:=by
 have hlev:=jAc M hM (λx hx=>(hl x hx).no47);have hvt:=jDi M (λx hx=>(hl x hx).vt);have hlen:=j62 M 1 (λx hx=>(hl x hx).short)
 have h36:36 ∉ qS M:=by
  intro hm;rcases jCz M 36 hm with h|⟨x,hx,hc⟩
  ·exact absurd h (by decide)
  ·exact (hl x hx).no36 hc
 have hp:vR (qS M)=true:=jH6 hne (by rw[hlev];exact hok)
 have hsz:f.size≤65535:=by
  rw[← qF,hf,List.length_append]
  have:(jMa b).length≤9:=by cases b<;>decide
  omega
 cases b with
 | false =>
  have hf':f.data.toList=qS M:=by rw[hf];rfl
  obtain ⟨f1,f2⟩:=j8m (f:=f) (by rw[hf'];exact hvt) hsz (by rw[hf'];exact (no36 h36).1) (by rw[hf'];exact hp);exact ⟨f1,by rw[f2,hf'],hlev⟩
 | true =>
  have hf':f.data.toList=[36,115,104,97,114,101,47,103,47]++qS M:=by rw[hf];rfl
  have e:jV ([36,115,104,97,114,101,47,103,47]++qS M)=[103]++47 :: qS M:=rfl;have s1:qn ([36,115,104,97,114,101,47,103,47]++qS M)=true:=by unfold qn j3q;simp[List.isPrefixOf]
  have s2:=(j51 [103] (qS M) (by decide)).1;have s3:=(j51 [103] (qS M) (by decide)).2;rw[← e]at s2 s3
  have hv:Vt f.data.toList:=by
   rw[hf'];refine Vt.append ⟨[[36],[115],[104],[97],[114],[101],[47],[103],[47]],?_,rfl⟩ hvt;intro p hp;refine .inl ?_;simp at hp;rcases hp with rfl|rfl|rfl|rfl|rfl|rfl|rfl|rfl|rfl<;>exact ⟨_,rfl,by decide,by decide⟩
  refine ⟨?_,?_,hlev⟩
  ·unfold qE j3p
   rw[hv.ok hsz,hf',s1,if_pos rfl,s2,s3,hp]
   decide
  ·unfold ofL
   rw[hf',s1,if_pos rfl,s3]
end Go.Proofs.YtkochkhfbhjicaaGreatDoor
