import Derived.Test.YtdeecgmihfakgaaGreatDoorYFA
import Derived.Test.YtdeecgmihfakgaaGreatDoorYFJ
import Derived.Laws.IdiomStrings
import Derived.Lib.BufferRead
namespace Go.Proofs.YtdeecgmihfakgaaGreatDoor
open Go.RowKit
set_option linter.unusedVariables false
set_option linter.unusedSimpArgs false
set_option maxRecDepth 100000
def qf:List (List UInt8)→List UInt8
 | []=>[]
 | [x]=>x
 | x :: y :: r=>x++47 :: qf (y :: r)
theorem jAr:∀ (M:List (List UInt8)),M≠[]→(∀ x∈M,47 ∉ x)→lev (qf M)=M
 | [],h,_=>absurd rfl h
 | [x],_,h=>by rw[qf,j47 x (h x (by simp))]
 | x :: y :: r,_,h=>by
  rw[qf,j9b x _ (h x (by simp)),jAr (y :: r) (by simp) (λz hz=>h z (List.mem_cons_of_mem _ hz))]
theorem jDu:∀ (M:List (List UInt8)),(∀ x∈M,Vt x)→Vt (qf M)
 | [],_=>Vt.nil
 | [x],h=>h x (by simp)
 | x :: y :: r,h=>by
  rw[qf];exact (h x (by simp)).append (Vt.cons (by decide) (by decide) (jDu (y :: r) (λz hz=>h z (List.mem_cons_of_mem _ hz))))
theorem j4v:∀ (M:List (List UInt8)) (x:List UInt8),M≠[]→qf (M++[x])=qf M++47 :: x
 | [],_,h=>absurd rfl h
 | [y],x,_=>rfl
 | y :: z :: r,x,_=>by
  rw[List.cons_append,List.cons_append,qf,← List.cons_append,j4v (z :: r) x (by simp),qf];simp
def j2n (M:List (List UInt8)):List UInt8:=M.flatMap λx=>x++[47]
theorem j89:∀ (M:List (List UInt8)),(∀ x∈M,vO x=false∨x=[43])→vN M=true
 | [],_=>rfl
 | x :: r,h=>by
  rw[okLev_cons',j89 r (λy hy=>h y (List.mem_cons_of_mem _ hy))];rcases h x (by simp) with h|h
  ·rw[h];rfl
  ·rw[h];rfl
where okLev_cons' {x:List UInt8} {r:List (List UInt8)}:vN (x :: r)=((!vO x||(x == [43]||(x == [35]&&r.isEmpty)))&&vN r):=rfl
theorem j72:∀ (M:List (List UInt8)),(∀ x∈M,vO x=false∨x=[43])→vN (M++[[35]])=true
 | [],_=>rfl
 | x :: r,h=>by
  have ih:=j72 r (λy hy=>h y (List.mem_cons_of_mem _ hy));rw[List.cons_append];show ((!vO x||(x == [43]||(x == [35]&&(r++[[35]]).isEmpty)))&&vN (r++[[35]]))=true;rw[ih];rcases h x (by simp) with h|h
  ·rw[h];rfl
  ·rw[h];rfl
theorem jB7 {c:UInt8} {l:List UInt8} (h:c≠36):vD (c :: l)=false:=by
 unfold vD j51;simp[List.isPrefixOf];exact λe=>absurd e.symm h
theorem zN (a b:ByteArray):(a++b).data.toList=a.data.toList++b.data.toList:=by simp
theorem no36 {l:List UInt8} (h:36 ∉ l):vD l=false∧([36]:List UInt8).isPrefixOf l=false:=by
 cases l with
 | nil=>exact ⟨rfl,rfl⟩
 | cons c t =>
  have hc:c≠36:=λe=>h (by simp[e])
  refine ⟨jB7 hc,?_⟩;simp[List.isPrefixOf];exact λe=>hc e.symm
theorem jDe:∀ (M:List (List UInt8)) (c:UInt8),c∈qf M→c=47∨∃ x∈M,c∈x
 | [],c,h=>by simp[qf]at h
 | [x],c,h=>.inr ⟨x,by simp,by simpa [qf] using h⟩
 | x :: y :: r,c,h=>by
  rw[qf]at h;rcases List.mem_append.1 h with h|h
  ·exact .inr ⟨x,by simp,h⟩
  ·rcases List.mem_cons.1 h with h|h
   ·exact .inl h
   ·rcases jDe (y :: r) c h with h|⟨z,hz,hc⟩
    ·exact .inl h
    ·exact .inr ⟨z,List.mem_cons_of_mem _ hz,hc⟩
theorem jF0 (M:List (List UInt8)) (B:Nat) (h:∀ x∈M,x.length≤B):(j2n M).length≤M.length*(B+1):=by
 induction M with
 | nil=>simp[j2n]
 | cons x M ih =>
  have h1:=ih (λy hy=>h y (List.mem_cons_of_mem _ hy));have h2:=h x (by simp);rw[show j2n (x :: M)=x++[47]++j2n M from rfl];simp only[List.length_append,List.length_cons,List.length_nil,Nat.add_mul,Nat.one_mul];omega
theorem j6u:∀ (M:List (List UInt8)),M≠[]→qf M++[47]=j2n M
 | [],h=>absurd rfl h
 | [x],_=>by simp[qf,j2n]
 | x :: y :: r,_=>by
  rw[qf,show j2n (x :: y :: r)=x++[47]++j2n (y :: r) from rfl,← j6u (y :: r) (by simp)];simp
theorem j6t (M:List (List UInt8)) (B:Nat) (h:∀ x∈M,x.length≤B):(qf M).length≤M.length*(B+1):=by
 cases M with
 | nil=>simp[qf]
 | cons x r =>
  have h1:=jF0 (x :: r) B h;rw[← j6u (x :: r) (by simp)]at h1;simp at h1 ⊢;omega
theorem jHj {l:List UInt8} (h0:l≠[]) (h1:vN (lev l)=true):vh l=true:=by
 unfold vh;rw[h1];cases l with
 | nil=>exact absurd rfl h0
 | cons _ _=>rfl
theorem j92 {f:ByteArray} (hv:Vt f.data.toList) (hs:f.size≤65535) (h36:vD f.data.toList=false) (hp:vh f.data.toList=true):qW f=true∧ofL f.data.toList=f.data.toList:=by
 unfold qW ofL;rw[hv.ok hs,h36,hp];exact ⟨rfl,rfl⟩
def fsg:Nat→List UInt8
 | 0=>[97]
 | 1=>[43]
 | 2=>[98]
 | 3=>[]
 | 4=>[99]
 | 5=>[97]
 | 6=>[43]
 | _=>[98]
def fM (l:List UInt8):List (List UInt8):=[116] :: (l.take 6).map λc=>fsg (c.toNat % 8)
def xQ (l:List UInt8) (i m:Nat):Bool:=match l[i]? with|some c=>decide (m≤c.toNat)|none=>false
def ff1 (l:List UInt8):List UInt8:=if xQ l 0 200 then qf (fM l)++[47,35] else qf (fM l)
def ff2 (l:List UInt8):List UInt8:=if xQ l 1 200 then [36,115,104,97,114,101,47,103,47]++ff1 l else ff1 l
def ffL (l:List UInt8):List UInt8:=if xQ l 2 220 then [35] else ff2 l
def ffS (s:ByteArray):ByteArray:=⟨(ffL s.data.toList).toArray⟩
def ffB (s:ByteArray) (k:Nat):ByteArray:=⟨(qf ([116] :: (s.data.toList.take k).map λc=>fsg (c.toNat % 8))).toArray⟩
def jMi (k:Nat):ByteArray:=⟨(fsg k).toArray⟩
theorem j93 (k:Nat):(fsg k).length≤1:=by unfold fsg;split<;>simp
theorem v7 {a b:ByteArray} (h:a.data.toList=b.data.toList):a=b:=ByteArray.ext (Array.ext' h)
theorem jGf (s:ByteArray) (k:Nat) (h:k<s.size):ffB s k++⟨#[47]⟩++jMi (s[k].toNat % 8)=ffB s (k+1):=by
 have h1:s.data.toList.take (k+1)=s.data.toList.take k++[s[k]]:=by
  rw[List.take_succ_eq_append_getElem (by rw[qQ];exact h)];rfl
 apply v7;rw[zN,zN];show qf ([116] :: (s.data.toList.take k).map λc=>fsg (c.toNat % 8))++[47]++fsg (s[k].toNat % 8)=qf ([116] :: (s.data.toList.take (k+1)).map λc=>fsg (c.toNat % 8));rw[h1,List.map_append,← List.cons_append,List.map_cons,List.map_nil,j4v _ _ (by simp),List.append_assoc]
 rfl
theorem jJe (s:ByteArray) (k:Nat) (h:k=6∨k=s.size) (h6:k≤6):ffB s k=⟨(qf (fM s.data.toList)).toArray⟩:=by
 unfold ffB fM;rcases h with rfl|rfl
 ·rfl
 ·have h1:s.data.toList.take s.size=s.data.toList.take 6:=by rw[List.take_of_length_le (by rw[qQ];omega),List.take_of_length_le (by rw[qQ];omega)]
  rw[h1]
theorem jKr (l:List UInt8) (k:Nat):∀ x∈([116] :: (l.take k).map λc=>fsg (c.toNat % 8):List (List UInt8)),x=[116]∨∃ j,x=fsg j:=by
 intro x hx;rcases List.mem_cons.1 hx with rfl|hx
 ·exact .inl rfl
 ·obtain ⟨c,_,hc⟩:=List.mem_map.1 hx
  exact .inr ⟨_,hc.symm⟩
theorem jJf (s:ByteArray) (k:Nat) (hk:k≤6):(ffB s k).size≤14:=by
 have h1:=j6t ([116] :: (s.data.toList.take k).map λc=>fsg (c.toNat % 8)) 1 (λx hx=>by
  rcases jKr _ k x hx with rfl|⟨j,rfl⟩
  ·simp
  ·exact j93 j)
 have h2:(s.data.toList.take k).length≤k:=List.length_take_le _ _;show (qf ([116] :: (s.data.toList.take k).map λc=>fsg (c.toNat % 8))).toArray.size≤14;rw[List.size_toArray];simp only[List.length_cons,List.length_map]at h1;omega
theorem jGw (k:Nat):(jMi k).size≤1:=by
 have:=j93 k
 show (fsg k).toArray.size≤1;simp only[List.size_toArray];omega
theorem xI {s:ByteArray} {i m:Nat} (h:i<s.size) (h2:m≤s[i].toNat):xQ s.data.toList i m=true:=by
 unfold xQ;rw[Lib.data_getElem? s i h];simpa using h2
theorem zp {s:ByteArray} {i m:Nat} (h:i<s.size) (h2:s[i].toNat<m):xQ s.data.toList i m=false:=by
 unfold xQ;rw[Lib.data_getElem? s i h];simp;omega
theorem j0g {s:ByteArray} {i m:Nat} (h:s.size≤i):xQ s.data.toList i m=false:=by
 unfold xQ;rw[List.getElem?_eq_none (by rw[qQ];exact h)]
set_option maxRecDepth 100000 in
set_option maxHeartbeats 8000000 in
theorem j3w (s:ByteArray) (w:World) (hs:s.size≤9223372036854775807) :
  Calls Tryz.prog 46 #[.string s] w λe w'=>e=.returned (.string (ffS s))∧Kept No w w':=by
 go_enter Tryz.func46,Tryz.ntmps46
 go_wp2
 have hk1:Kept No w (w.alloc (.cells #[.string ⟨#[97]⟩,.string ⟨#[43]⟩,.string ⟨#[98]⟩,.string ⟨#[]⟩,.string ⟨#[99]⟩,.string ⟨#[97]⟩,.string ⟨#[43]⟩,.string ⟨#[98]⟩] 9)):=(Kept.refl No w).alloc _
 have hcl:∀ j,j<8→(w.alloc (.cells #[.string ⟨#[97]⟩,.string ⟨#[43]⟩,.string ⟨#[98]⟩,.string ⟨#[]⟩,.string ⟨#[99]⟩,.string ⟨#[97]⟩,.string ⟨#[43]⟩,.string ⟨#[98]⟩] 9)).cell? ⟨w.heap.size,j,none⟩=some (.string (jMi j)):=by
  intro j hj;rw[(Blk.new w _ _).cell];rcases (show j=0∨j=1∨j=2∨j=3∨j=4∨j=5∨j=6∨j=7 from by omega) with rfl|rfl|rfl|rfl|rfl|rfl|rfl|rfl<;>rfl
 have HCL:=Lib.hid hcl;clear hcl
 go_loop [4,5] (λo i=>∃ k:Nat,i=.int .i64 k∧k≤s.size∧k≤6∧o=.string (ffB s k)) (λ_ i=>6 - (intOf i).toNat)
 case atStart=>exact ⟨0,rfl,by omega,by omega,rfl⟩
 case round =>
  obtain ⟨k,rfl,hks,hk8,rfl⟩:=hrel;have hlen:=jJf s k hk8
  by_cases hlt:k<s.size∧k<6
  ·obtain ⟨hl1,hl2⟩:=hlt
   have hl1I:(k:Int)<s.size:=by omega
   have hl2I:(k:Int)<6:=by omega
   have hc:=HCL.out (s[k].toNat % 8) (by omega);have hb:=xp s[k];have hN:((s[k].toNat:Int) % 8).toNat=s[k].toNat % 8:=by omega
   have hB0:(0:Int)≤(s[k].toNat:Int) % 8:=by omega
   have hB1:(s[k].toNat:Int) % 8<8:=by omega
   have hlen2:=jGw (s[k].toNat % 8);have HS:=Lib.hid (jGf s k hl1)
   go_wp2
   go_round
   case rel=>exact ⟨k+1,by go_num,by omega,by omega,by rw[HS.out]⟩
   case measure=>simp[intOf];omega
  ·have hend:k=6∨k=s.size:=by omega
   have HE:=Lib.hid (jJe s k hend hk8);have hff:ffL s.data.toList=if xQ s.data.toList 2 220 then [35] else (if xQ s.data.toList 1 200 then [36,115,104,97,114,101,47,103,47]++(if xQ s.data.toList 0 200 then qf (fM s.data.toList)++[47,35] else qf (fM s.data.toList)) else (if xQ s.data.toList 0 200 then qf (fM s.data.toList)++[47,35] else qf (fM s.data.toList))):=rfl
   have HFF:=Lib.hid hff;have HFB:Hid ((ffB s k).data.toList=qf (fM s.data.toList)):=Lib.hid (by rw[HE.out]);generalize ffB s k=B at *;clear hend hff HE
   have hexit:(((k:Int)<s.size∧k<s.size)∧decide ((k:Int)<6)=false)∨(decide ((k:Int)<s.size)=false∧decide (k<s.size)=false):=by
    by_cases h:k<s.size
    ·exact .inl ⟨⟨by omega,h⟩,decide_eq_false (by omega)⟩
    ·exact .inr ⟨decide_eq_false (by omega),decide_eq_false h⟩
   have hexitN:¬ k<s.size∨¬ k<6:=by omega
   clear hlt;rcases (show s.size=0∨s.size=1∨s.size=2∨3≤s.size from by omega) with hz|hz|hz|hz
   ·have hs0:decide ((0:Int)<s.size)=false:=by exact decide_eq_false (by omega)
    have hs1:decide ((1:Int)<s.size)=false:=by exact decide_eq_false (by omega)
    have hs2:decide ((2:Int)<s.size)=false:=by exact decide_eq_false (by omega)
    have HV:Hid (ffS s=B):=Lib.hid (v7 (by
     show ffL s.data.toList=_;rw[HFF.out,j0g (i:=2) (by omega),j0g (i:=1) (by omega),j0g (i:=0) (by omega)]
     try simp only[zN,HFB.out,if_true,Bool.false_eq_true,if_false]))
    rcases hexit with ⟨⟨hx1,hx3⟩,hx2⟩|⟨hx1,hx2⟩
    all_goals go_wp2
    all_goals
     go_ret
     exact ⟨by rw[HV.out];rfl,hk1⟩
   ·have hs0:(0:Int)<s.size:=by omega
    have hs1:decide ((1:Int)<s.size)=false:=by exact decide_eq_false (by omega)
    have hs2:decide ((2:Int)<s.size)=false:=by exact decide_eq_false (by omega)
    have hsn0:0<s.size:=by omega
    by_cases hc0:200≤s[0].toNat
    ·have hi0:(200:Int)≤s[0].toNat:=by omega
     have HV:Hid (ffS s=(B++⟨#[47,35]⟩)):=Lib.hid (v7 (by
      show ffL s.data.toList=_;rw[HFF.out,j0g (i:=2) (by omega),j0g (i:=1) (by omega),xI (by omega) hc0]
      try simp only[zN,HFB.out,if_true,Bool.false_eq_true,if_false]))
     rcases hexit with ⟨⟨hx1,hx3⟩,hx2⟩|⟨hx1,hx2⟩
     all_goals go_wp2
     all_goals
      go_ret
      exact ⟨by rw[HV.out];rfl,hk1⟩
    ·have hi0:decide ((200:Int)≤s[0].toNat)=false:=by simp;omega
     have hin0:decide (200≤s[0].toNat)=false:=by simp;omega
     have HV:Hid (ffS s=B):=Lib.hid (v7 (by
      show ffL s.data.toList=_;rw[HFF.out,j0g (i:=2) (by omega),j0g (i:=1) (by omega),zp (by omega) (Nat.lt_of_not_le hc0)]
      try simp only[zN,HFB.out,if_true,Bool.false_eq_true,if_false]))
     rcases hexit with ⟨⟨hx1,hx3⟩,hx2⟩|⟨hx1,hx2⟩
     all_goals go_wp2
     all_goals
      go_ret
      exact ⟨by rw[HV.out];rfl,hk1⟩
   ·have hs0:(0:Int)<s.size:=by omega
    have hs1:(1:Int)<s.size:=by omega
    have hs2:decide ((2:Int)<s.size)=false:=by exact decide_eq_false (by omega)
    have hsn0:0<s.size:=by omega
    have hsn1:1<s.size:=by omega
    by_cases hc0:200≤s[0].toNat
    ·have hi0:(200:Int)≤s[0].toNat:=by omega
     by_cases hc1:200≤s[1].toNat
     ·have hi1:(200:Int)≤s[1].toNat:=by omega
      have HV:Hid (ffS s=(⟨#[36,115,104,97,114,101,47,103,47]⟩++(B++⟨#[47,35]⟩))):=Lib.hid (v7 (by
       show ffL s.data.toList=_;rw[HFF.out,j0g (i:=2) (by omega),xI (by omega) hc1,xI (by omega) hc0]
       try simp only[zN,HFB.out,if_true,Bool.false_eq_true,if_false]))
      rcases hexit with ⟨⟨hx1,hx3⟩,hx2⟩|⟨hx1,hx2⟩
      all_goals go_wp2
      all_goals
       go_ret
       exact ⟨by rw[HV.out];rfl,hk1⟩
     ·have hi1:decide ((200:Int)≤s[1].toNat)=false:=by simp;omega
      have hin1:decide (200≤s[1].toNat)=false:=by simp;omega
      have HV:Hid (ffS s=(B++⟨#[47,35]⟩)):=Lib.hid (v7 (by
       show ffL s.data.toList=_;rw[HFF.out,j0g (i:=2) (by omega),zp (by omega) (Nat.lt_of_not_le hc1),xI (by omega) hc0]
       try simp only[zN,HFB.out,if_true,Bool.false_eq_true,if_false]))
      rcases hexit with ⟨⟨hx1,hx3⟩,hx2⟩|⟨hx1,hx2⟩
      all_goals go_wp2
      all_goals
       go_ret
       exact ⟨by rw[HV.out];rfl,hk1⟩
    ·have hi0:decide ((200:Int)≤s[0].toNat)=false:=by simp;omega
     have hin0:decide (200≤s[0].toNat)=false:=by simp;omega
     by_cases hc1:200≤s[1].toNat
     ·have hi1:(200:Int)≤s[1].toNat:=by omega
      have HV:Hid (ffS s=(⟨#[36,115,104,97,114,101,47,103,47]⟩++B)):=Lib.hid (v7 (by
       show ffL s.data.toList=_;rw[HFF.out,j0g (i:=2) (by omega),xI (by omega) hc1,zp (by omega) (Nat.lt_of_not_le hc0)]
       try simp only[zN,HFB.out,if_true,Bool.false_eq_true,if_false]))
      rcases hexit with ⟨⟨hx1,hx3⟩,hx2⟩|⟨hx1,hx2⟩
      all_goals go_wp2
      all_goals
       go_ret
       exact ⟨by rw[HV.out];rfl,hk1⟩
     ·have hi1:decide ((200:Int)≤s[1].toNat)=false:=by simp;omega
      have hin1:decide (200≤s[1].toNat)=false:=by simp;omega
      have HV:Hid (ffS s=B):=Lib.hid (v7 (by
       show ffL s.data.toList=_;rw[HFF.out,j0g (i:=2) (by omega),zp (by omega) (Nat.lt_of_not_le hc1),zp (by omega) (Nat.lt_of_not_le hc0)]
       try simp only[zN,HFB.out,if_true,Bool.false_eq_true,if_false]))
      rcases hexit with ⟨⟨hx1,hx3⟩,hx2⟩|⟨hx1,hx2⟩
      all_goals go_wp2
      all_goals
       go_ret
       exact ⟨by rw[HV.out];rfl,hk1⟩
   ·have hs0:(0:Int)<s.size:=by omega
    have hs1:(1:Int)<s.size:=by omega
    have hs2:(2:Int)<s.size:=by omega
    have hsn0:0<s.size:=by omega
    have hsn1:1<s.size:=by omega
    have hsn2:2<s.size:=by omega
    by_cases hc0:200≤s[0].toNat
    ·have hi0:(200:Int)≤s[0].toNat:=by omega
     by_cases hc1:200≤s[1].toNat
     ·have hi1:(200:Int)≤s[1].toNat:=by omega
      by_cases hc2:220≤s[2].toNat
      ·have hi2:(220:Int)≤s[2].toNat:=by omega
       have HV:Hid (ffS s=⟨#[35]⟩):=Lib.hid (v7 (by
        show ffL s.data.toList=_;rw[HFF.out,xI (by omega) hc2,xI (by omega) hc1,xI (by omega) hc0]
        try rfl))
       rcases hexit with ⟨⟨hx1,hx3⟩,hx2⟩|⟨hx1,hx2⟩
       all_goals go_wp2
       all_goals
        go_ret
        exact ⟨by rw[HV.out];rfl,hk1⟩
      ·have hi2:decide ((220:Int)≤s[2].toNat)=false:=by simp;omega
       have hin2:decide (220≤s[2].toNat)=false:=by simp;omega
       have HV:Hid (ffS s=(⟨#[36,115,104,97,114,101,47,103,47]⟩++(B++⟨#[47,35]⟩))):=Lib.hid (v7 (by
        show ffL s.data.toList=_;rw[HFF.out,zp (by omega) (Nat.lt_of_not_le hc2),xI (by omega) hc1,xI (by omega) hc0]
        try simp only[zN,HFB.out,if_true,Bool.false_eq_true,if_false]))
       rcases hexit with ⟨⟨hx1,hx3⟩,hx2⟩|⟨hx1,hx2⟩
       all_goals go_wp2
       all_goals
        go_ret
        exact ⟨by rw[HV.out];rfl,hk1⟩
     ·have hi1:decide ((200:Int)≤s[1].toNat)=false:=by simp;omega
      have hin1:decide (200≤s[1].toNat)=false:=by simp;omega
      by_cases hc2:220≤s[2].toNat
      ·have hi2:(220:Int)≤s[2].toNat:=by omega
       have HV:Hid (ffS s=⟨#[35]⟩):=Lib.hid (v7 (by
        show ffL s.data.toList=_;rw[HFF.out,xI (by omega) hc2,zp (by omega) (Nat.lt_of_not_le hc1),xI (by omega) hc0]
        try rfl))
       rcases hexit with ⟨⟨hx1,hx3⟩,hx2⟩|⟨hx1,hx2⟩
       all_goals go_wp2
       all_goals
        go_ret
        exact ⟨by rw[HV.out];rfl,hk1⟩
      ·have hi2:decide ((220:Int)≤s[2].toNat)=false:=by simp;omega
       have hin2:decide (220≤s[2].toNat)=false:=by simp;omega
       have HV:Hid (ffS s=(B++⟨#[47,35]⟩)):=Lib.hid (v7 (by
        show ffL s.data.toList=_;rw[HFF.out,zp (by omega) (Nat.lt_of_not_le hc2),zp (by omega) (Nat.lt_of_not_le hc1),xI (by omega) hc0]
        try simp only[zN,HFB.out,if_true,Bool.false_eq_true,if_false]))
       rcases hexit with ⟨⟨hx1,hx3⟩,hx2⟩|⟨hx1,hx2⟩
       all_goals go_wp2
       all_goals
        go_ret
        exact ⟨by rw[HV.out];rfl,hk1⟩
    ·have hi0:decide ((200:Int)≤s[0].toNat)=false:=by simp;omega
     have hin0:decide (200≤s[0].toNat)=false:=by simp;omega
     by_cases hc1:200≤s[1].toNat
     ·have hi1:(200:Int)≤s[1].toNat:=by omega
      by_cases hc2:220≤s[2].toNat
      ·have hi2:(220:Int)≤s[2].toNat:=by omega
       have HV:Hid (ffS s=⟨#[35]⟩):=Lib.hid (v7 (by
        show ffL s.data.toList=_;rw[HFF.out,xI (by omega) hc2,xI (by omega) hc1,zp (by omega) (Nat.lt_of_not_le hc0)]
        try rfl))
       rcases hexit with ⟨⟨hx1,hx3⟩,hx2⟩|⟨hx1,hx2⟩
       all_goals go_wp2
       all_goals
        go_ret
        exact ⟨by rw[HV.out];rfl,hk1⟩
      ·have hi2:decide ((220:Int)≤s[2].toNat)=false:=by simp;omega
       have hin2:decide (220≤s[2].toNat)=false:=by simp;omega
       have HV:Hid (ffS s=(⟨#[36,115,104,97,114,101,47,103,47]⟩++B)):=Lib.hid (v7 (by
        show ffL s.data.toList=_;rw[HFF.out,zp (by omega) (Nat.lt_of_not_le hc2),xI (by omega) hc1,zp (by omega) (Nat.lt_of_not_le hc0)]
        try simp only[zN,HFB.out,if_true,Bool.false_eq_true,if_false]))
       rcases hexit with ⟨⟨hx1,hx3⟩,hx2⟩|⟨hx1,hx2⟩
       all_goals go_wp2
       all_goals
        go_ret
        exact ⟨by rw[HV.out];rfl,hk1⟩
     ·have hi1:decide ((200:Int)≤s[1].toNat)=false:=by simp;omega
      have hin1:decide (200≤s[1].toNat)=false:=by simp;omega
      by_cases hc2:220≤s[2].toNat
      ·have hi2:(220:Int)≤s[2].toNat:=by omega
       have HV:Hid (ffS s=⟨#[35]⟩):=Lib.hid (v7 (by
        show ffL s.data.toList=_;rw[HFF.out,xI (by omega) hc2,zp (by omega) (Nat.lt_of_not_le hc1),zp (by omega) (Nat.lt_of_not_le hc0)]
        try rfl))
       rcases hexit with ⟨⟨hx1,hx3⟩,hx2⟩|⟨hx1,hx2⟩
       all_goals go_wp2
       all_goals
        go_ret
        exact ⟨by rw[HV.out];rfl,hk1⟩
      ·have hi2:decide ((220:Int)≤s[2].toNat)=false:=by simp;omega
       have hin2:decide (220≤s[2].toNat)=false:=by simp;omega
       have HV:Hid (ffS s=B):=Lib.hid (v7 (by
        show ffL s.data.toList=_;rw[HFF.out,zp (by omega) (Nat.lt_of_not_le hc2),zp (by omega) (Nat.lt_of_not_le hc1),zp (by omega) (Nat.lt_of_not_le hc0)]
        try simp only[zN,HFB.out,if_true,Bool.false_eq_true,if_false]))
       rcases hexit with ⟨⟨hx1,hx3⟩,hx2⟩|⟨hx1,hx2⟩
       all_goals go_wp2
       all_goals
        go_ret
        exact ⟨by rw[HV.out];rfl,hk1⟩
structure Lv (x:List UInt8):Prop where
 vt:Vt x
 no47:47 ∉ x
 no36:36 ∉ x
 short:x.length≤1
theorem jMv (j:Nat):Lv (fsg j)∧(vO (fsg j)=false∨fsg j=[43])∧¬ fsg j=[35]:=by
 unfold fsg
 split
 all_goals refine ⟨⟨?_,by decide,by decide,by decide⟩,by decide,by decide⟩
 all_goals first|exact Vt.nil|exact Vt.one (by decide) (by decide)
theorem jH8 {c:UInt8} (h1:0<c.toNat) (h2:c.toNat<128) (h3:c≠47) (h4:c≠36):Lv [c]:=⟨Vt.one h1 h2,by simp;exact λe=>h3 e.symm,by simp;exact λe=>h4 e.symm,by simp⟩
theorem jNp (l:List UInt8):∀ x∈fM l,Lv x∧(vO x=false∨x=[43])∧¬ x=[35]:=by
 intro x hx;rcases jKr l 6 x hx with rfl|⟨j,rfl⟩
 ·exact ⟨jH8 (by decide) (by decide) (by decide) (by decide),.inl (by decide),by decide⟩
 ·exact jMv j
theorem jLi (l:List UInt8):(fM l).length≤7:=by
 unfold fM;rw[List.length_cons,List.length_map]
 have:=List.length_take_le 6 l
 omega
def jN0 (b:Bool):List UInt8:=if b then [36,115,104,97,114,101,47,103,47] else []
theorem j57 (b:Bool) {f:ByteArray} {M:List (List UInt8)} (hf:f.data.toList=jN0 b++qf M) (hM:M≠[]) (hl:∀ x∈M,Lv x) (hn:M.length≤9) (hok:vN M=true) (hne:qf M≠[]) :
  qW f=true∧ofL f.data.toList=qf M∧lev (qf M)=M:=by
 have hlev:=jAr M hM (λx hx=>(hl x hx).no47);have hvt:=jDu M (λx hx=>(hl x hx).vt);have hlen:=j6t M 1 (λx hx=>(hl x hx).short)
 have h36:36 ∉ qf M:=by
  intro hm;rcases jDe M 36 hm with h|⟨x,hx,hc⟩
  ·exact absurd h (by decide)
  ·exact (hl x hx).no36 hc
 have hp:vh (qf M)=true:=jHj hne (by rw[hlev];exact hok)
 have hsz:f.size≤65535:=by
  rw[← qQ,hf,List.length_append]
  have:(jN0 b).length≤9:=by cases b<;>decide
  omega
 cases b with
 | false =>
  have hf':f.data.toList=qf M:=by rw[hf];rfl
  obtain ⟨f1,f2⟩:=j92 (f:=f) (by rw[hf'];exact hvt) hsz (by rw[hf'];exact (no36 h36).1) (by rw[hf'];exact hp);exact ⟨f1,by rw[f2,hf'],hlev⟩
 | true =>
  have hf':f.data.toList=[36,115,104,97,114,101,47,103,47]++qf M:=by rw[hf];rfl
  have e:behind ([36,115,104,97,114,101,47,103,47]++qf M)=[103]++47 :: qf M:=rfl;have s1:vD ([36,115,104,97,114,101,47,103,47]++qf M)=true:=by unfold vD j51;simp[List.isPrefixOf]
  have s2:=(j62 [103] (qf M) (by decide)).1;have s3:=(j62 [103] (qf M) (by decide)).2;rw[← e]at s2 s3
  have hv:Vt f.data.toList:=by
   rw[hf'];refine Vt.append ⟨[[36],[115],[104],[97],[114],[101],[47],[103],[47]],?_,rfl⟩ hvt;intro p hp;refine .inl ?_;simp at hp;rcases hp with rfl|rfl|rfl|rfl|rfl|rfl|rfl|rfl|rfl<;>exact ⟨_,rfl,by decide,by decide⟩
  refine ⟨?_,?_,hlev⟩
  ·unfold qW j50
   rw[hv.ok hsz,hf',s1,if_pos rfl,s2,s3,hp]
   decide
  ·unfold ofL
   rw[hf',s1,if_pos rfl,s3]
end Go.Proofs.YtdeecgmihfakgaaGreatDoor
