import Derived.Test.YtohmcfmcbibbcaaGreatDoorYFA
import Derived.Test.YtohmcfmcbibbcaaGreatDoorYFJ
import Derived.Laws.IdiomStrings
import Derived.Lib.BufferRead
namespace Go.Proofs.YtohmcfmcbibbcaaGreatDoor
open Go.RowKit
set_option linter.unusedVariables false
set_option linter.unusedSimpArgs false
set_option maxRecDepth 100000
def joinL:List (List UInt8)→List UInt8
 | []=>[]
 | [x]=>x
 | x :: y :: r=>x++47 :: joinL (y :: r)
theorem lev_join:∀ (M:List (List UInt8)),M≠[]→(∀ x∈M,47 ∉ x)→lev (joinL M)=M
 | [],h,_=>absurd rfl h
 | [x],_,h=>by rw[joinL,lev_none x (h x (by simp))]
 | x :: y :: r,_,h=>by
  rw[joinL,lev_app x _ (h x (by simp)),lev_join (y :: r) (by simp) (fun z hz=>h z (List.mem_cons_of_mem _ hz))]
theorem vt_join:∀ (M:List (List UInt8)),(∀ x∈M,Vt x)→Vt (joinL M)
 | [],_=>Vt.nil
 | [x],h=>h x (by simp)
 | x :: y :: r,h=>by
  rw[joinL];exact (h x (by simp)).append (Vt.cons (by decide) (by decide) (vt_join (y :: r) (fun z hz=>h z (List.mem_cons_of_mem _ hz))))
theorem join_snoc:∀ (M:List (List UInt8)) (x:List UInt8),M≠[]→joinL (M++[x])=joinL M++47 :: x
 | [],_,h=>absurd rfl h
 | [y],x,_=>rfl
 | y :: z :: r,x,_=>by
  rw[List.cons_append,List.cons_append,joinL,← List.cons_append,join_snoc (z :: r) x (by simp),joinL];simp
def slashL (M:List (List UInt8)):List UInt8:=M.flatMap fun x=>x++[47]
theorem okLev_all:∀ (M:List (List UInt8)),(∀ x∈M,wildL x=false∨x=[43])→okLev M=true
 | [],_=>rfl
 | x :: r,h=>by
  rw[okLev_cons',okLev_all r (fun y hy=>h y (List.mem_cons_of_mem _ hy))];rcases h x (by simp) with h|h
  ·rw[h];rfl
  ·rw[h];rfl
where okLev_cons' {x:List UInt8} {r:List (List UInt8)}:okLev (x :: r)=((!wildL x||(x == [43]||(x == [35]&&r.isEmpty)))&&okLev r):=rfl
theorem okLev_hash:∀ (M:List (List UInt8)),(∀ x∈M,wildL x=false∨x=[43])→okLev (M++[[35]])=true
 | [],_=>rfl
 | x :: r,h=>by
  have ih:=okLev_hash r (fun y hy=>h y (List.mem_cons_of_mem _ hy));rw[List.cons_append];show ((!wildL x||(x == [43]||(x == [35]&&(r++[[35]]).isEmpty)))&&okLev (r++[[35]]))=true;rw[ih];rcases h x (by simp) with h|h
  ·rw[h];rfl
  ·rw[h];rfl
theorem share_first {c:UInt8} {l:List UInt8} (h:c≠36):isShare (c :: l)=false:=by
 unfold isShare shareW;simp[List.isPrefixOf];exact fun e=>absurd e.symm h
theorem ba_app (a b:ByteArray):(a++b).data.toList=a.data.toList++b.data.toList:=by simp
theorem no36 {l:List UInt8} (h:36 ∉ l):isShare l=false∧([36]:List UInt8).isPrefixOf l=false:=by
 cases l with
 | nil=>exact ⟨rfl,rfl⟩
 | cons c t =>
  have hc:c≠36:=fun e=>h (by simp[e])
  refine ⟨share_first hc,?_⟩;simp[List.isPrefixOf];exact fun e=>hc e.symm
theorem in_join:∀ (M:List (List UInt8)) (c:UInt8),c∈joinL M→c=47∨∃ x∈M,c∈x
 | [],c,h=>by simp[joinL]at h
 | [x],c,h=>.inr ⟨x,by simp,by simpa [joinL] using h⟩
 | x :: y :: r,c,h=>by
  rw[joinL]at h;rcases List.mem_append.1 h with h|h
  ·exact .inr ⟨x,by simp,h⟩
  ·rcases List.mem_cons.1 h with h|h
   ·exact .inl h
   ·rcases in_join (y :: r) c h with h|⟨z,hz,hc⟩
    ·exact .inl h
    ·exact .inr ⟨z,List.mem_cons_of_mem _ hz,hc⟩
theorem slash_len (M:List (List UInt8)) (B:Nat) (h:∀ x∈M,x.length≤B):(slashL M).length≤M.length * (B+1):=by
 induction M with
 | nil=>simp[slashL]
 | cons x M ih =>
  have h1:=ih (fun y hy=>h y (List.mem_cons_of_mem _ hy));have h2:=h x (by simp);rw[show slashL (x :: M)=x++[47]++slashL M from rfl];simp only[List.length_append,List.length_cons,List.length_nil,Nat.add_mul,Nat.one_mul];omega
theorem join_slash:∀ (M:List (List UInt8)),M≠[]→joinL M++[47]=slashL M
 | [],h=>absurd rfl h
 | [x],_=>by simp[joinL,slashL]
 | x :: y :: r,_=>by
  rw[joinL,show slashL (x :: y :: r)=x++[47]++slashL (y :: r) from rfl,← join_slash (y :: r) (by simp)];simp
theorem join_len (M:List (List UInt8)) (B:Nat) (h:∀ x∈M,x.length≤B):(joinL M).length≤M.length * (B+1):=by
 cases M with
 | nil=>simp[joinL]
 | cons x r =>
  have h1:=slash_len (x :: r) B h;rw[← join_slash (x :: r) (by simp)]at h1;simp at h1 ⊢;omega
theorem plain_of {l:List UInt8} (h0:l≠[]) (h1:okLev (lev l)=true):plainL l=true:=by
 unfold plainL;rw[h1];cases l with
 | nil=>exact absurd rfl h0
 | cons _ _=>rfl
theorem filter_plain {f:ByteArray} (hv:Vt f.data.toList) (hs:f.size≤65535) (h36:isShare f.data.toList=false) (hp:plainL f.data.toList=true):filterB f=true∧ofL f.data.toList=f.data.toList:=by
 unfold filterB ofL;rw[hv.ok hs,h36,hp];exact ⟨rfl,rfl⟩
def fsg:Nat→List UInt8
 | 0=>[97]
 | 1=>[43]
 | 2=>[98]
 | 3=>[]
 | 4=>[99]
 | 5=>[97]
 | 6=>[43]
 | _=>[98]
def fM (l:List UInt8):List (List UInt8):=[116] :: (l.take 6).map fun c=>fsg (c.toNat % 8)
def atLeast (l:List UInt8) (i m:Nat):Bool:=match l[i]? with|some c=>decide (m≤c.toNat)|none=>false
def ff1 (l:List UInt8):List UInt8:=if atLeast l 0 200 then joinL (fM l)++[47,35] else joinL (fM l)
def ff2 (l:List UInt8):List UInt8:=if atLeast l 1 200 then [36,115,104,97,114,101,47,103,47]++ff1 l else ff1 l
def ffL (l:List UInt8):List UInt8:=if atLeast l 2 220 then [35] else ff2 l
def ffS (s:ByteArray):ByteArray:=⟨(ffL s.data.toList).toArray⟩
def ffB (s:ByteArray) (k:Nat):ByteArray:=⟨(joinL ([116] :: (s.data.toList.take k).map fun c=>fsg (c.toNat % 8))).toArray⟩
def fsgB (k:Nat):ByteArray:=⟨(fsg k).toArray⟩
theorem fsg_len (k:Nat):(fsg k).length≤1:=by unfold fsg;split<;>simp
theorem ext_list2 {a b:ByteArray} (h:a.data.toList=b.data.toList):a=b:=ByteArray.ext (Array.ext' h)
theorem ffB_succ (s:ByteArray) (k:Nat) (h:k < s.size):ffB s k++⟨#[47]⟩++fsgB (s[k].toNat % 8)=ffB s (k+1):=by
 have h1:s.data.toList.take (k+1)=s.data.toList.take k++[s[k]]:=by
  rw[List.take_succ_eq_append_getElem (by rw[sz_list];exact h)];rfl
 apply ext_list2;rw[ba_app,ba_app];show joinL ([116] :: (s.data.toList.take k).map fun c=>fsg (c.toNat % 8))++[47]++fsg (s[k].toNat % 8)=joinL ([116] :: (s.data.toList.take (k+1)).map fun c=>fsg (c.toNat % 8));rw[h1,List.map_append,← List.cons_append,List.map_cons,List.map_nil,join_snoc _ _ (by simp),List.append_assoc]
 rfl
theorem ffB_end (s:ByteArray) (k:Nat) (h:k=6∨k=s.size) (h6:k≤6):ffB s k=⟨(joinL (fM s.data.toList)).toArray⟩:=by
 unfold ffB fM;rcases h with rfl|rfl
 ·rfl
 ·have h1:s.data.toList.take s.size=s.data.toList.take 6:=by rw[List.take_of_length_le (by rw[sz_list];omega),List.take_of_length_le (by rw[sz_list];omega)]
  rw[h1]
theorem fM_in (l:List UInt8) (k:Nat):∀ x∈([116] :: (l.take k).map fun c=>fsg (c.toNat % 8):List (List UInt8)),x=[116]∨∃ j,x=fsg j:=by
 intro x hx;rcases List.mem_cons.1 hx with rfl|hx
 ·exact .inl rfl
 ·obtain ⟨c,_,hc⟩:=List.mem_map.1 hx
  exact .inr ⟨_,hc.symm⟩
theorem ffB_len (s:ByteArray) (k:Nat) (hk:k≤6):(ffB s k).size≤14:=by
 have h1:=join_len ([116] :: (s.data.toList.take k).map fun c=>fsg (c.toNat % 8)) 1 (fun x hx=>by
  rcases fM_in _ k x hx with rfl|⟨j,rfl⟩
  ·simp
  ·exact fsg_len j)
 have h2:(s.data.toList.take k).length≤k:=List.length_take_le _ _;show (joinL ([116] :: (s.data.toList.take k).map fun c=>fsg (c.toNat % 8))).toArray.size≤14;rw[List.size_toArray];simp only[List.length_cons,List.length_map]at h1;omega
theorem fsgB_len (k:Nat):(fsgB k).size≤1:=by
 have:=fsg_len k
 show (fsg k).toArray.size≤1;simp only[List.size_toArray];omega
theorem at_yes {s:ByteArray} {i m:Nat} (h:i < s.size) (h2:m≤s[i].toNat):atLeast s.data.toList i m=true:=by
 unfold atLeast;rw[Lib.data_getElem? s i h];simpa using h2
theorem at_no {s:ByteArray} {i m:Nat} (h:i < s.size) (h2:s[i].toNat < m):atLeast s.data.toList i m=false:=by
 unfold atLeast;rw[Lib.data_getElem? s i h];simp;omega
theorem at_out {s:ByteArray} {i m:Nat} (h:s.size≤i):atLeast s.data.toList i m=false:=by
 unfold atLeast;rw[List.getElem?_eq_none (by rw[sz_list];exact h)]
set_option maxRecDepth 100000 in
set_option maxHeartbeats 8000000 in
theorem ffix_any (s:ByteArray) (w:World) (hs:s.size≤9223372036854775807) :
  Calls Tryz.prog 63 #[.string s] w fun e w'=>e=.returned (.string (ffS s))∧Kept No w w':=by
 go_enter Tryz.func63,Tryz.ntmps63
 go_wp2
 have hk1:Kept No w (w.alloc (.cells #[.string ⟨#[97]⟩,.string ⟨#[43]⟩,.string ⟨#[98]⟩,.string ⟨#[]⟩,.string ⟨#[99]⟩,.string ⟨#[97]⟩,.string ⟨#[43]⟩,.string ⟨#[98]⟩] 9)):=(Kept.refl No w).alloc _
 have hcl:∀ j,j < 8→(w.alloc (.cells #[.string ⟨#[97]⟩,.string ⟨#[43]⟩,.string ⟨#[98]⟩,.string ⟨#[]⟩,.string ⟨#[99]⟩,.string ⟨#[97]⟩,.string ⟨#[43]⟩,.string ⟨#[98]⟩] 9)).cell? ⟨w.heap.size,j,none⟩=some (.string (fsgB j)):=by
  intro j hj;rw[(Blk.new w _ _).cell];rcases (show j=0∨j=1∨j=2∨j=3∨j=4∨j=5∨j=6∨j=7 from by omega) with rfl|rfl|rfl|rfl|rfl|rfl|rfl|rfl<;>rfl
 have HCL:=Lib.hid hcl;clear hcl
 go_loop [4,5] (fun o i=>∃ k:Nat,i=.int .i64 k∧k≤s.size∧k≤6∧o=.string (ffB s k)) (fun _ i=>6 - (intOf i).toNat)
 case atStart=>exact ⟨0,rfl,by omega,by omega,rfl⟩
 case round =>
  obtain ⟨k,rfl,hks,hk8,rfl⟩:=hrel;have hlen:=ffB_len s k hk8
  by_cases hlt:k < s.size∧k < 6
  ·obtain ⟨hl1,hl2⟩:=hlt
   have hl1I:(k:Int) < s.size:=by omega
   have hl2I:(k:Int) < 6:=by omega
   have hc:=HCL.out (s[k].toNat % 8) (by omega);have hb:=byte_lt s[k];have hN:((s[k].toNat:Int) % 8).toNat=s[k].toNat % 8:=by omega
   have hB0:(0:Int)≤(s[k].toNat:Int) % 8:=by omega
   have hB1:(s[k].toNat:Int) % 8 < 8:=by omega
   have hlen2:=fsgB_len (s[k].toNat % 8);have HS:=Lib.hid (ffB_succ s k hl1)
   go_wp2
   go_round
   case rel=>exact ⟨k+1,by go_num,by omega,by omega,by rw[HS.out]⟩
   case measure=>simp[intOf];omega
  ·have hend:k=6∨k=s.size:=by omega
   have HE:=Lib.hid (ffB_end s k hend hk8);have hff:ffL s.data.toList=if atLeast s.data.toList 2 220 then [35] else (if atLeast s.data.toList 1 200 then [36,115,104,97,114,101,47,103,47]++(if atLeast s.data.toList 0 200 then joinL (fM s.data.toList)++[47,35] else joinL (fM s.data.toList)) else (if atLeast s.data.toList 0 200 then joinL (fM s.data.toList)++[47,35] else joinL (fM s.data.toList))):=rfl
   have HFF:=Lib.hid hff;have HFB:Hid ((ffB s k).data.toList=joinL (fM s.data.toList)):=Lib.hid (by rw[HE.out]);generalize ffB s k=B at *;clear hend hff HE
   have hexit:(((k:Int) < s.size∧k < s.size)∧decide ((k:Int) < 6)=false)∨(decide ((k:Int) < s.size)=false∧decide (k < s.size)=false):=by
    by_cases h:k < s.size
    ·exact .inl ⟨⟨by omega,h⟩,decide_eq_false (by omega)⟩
    ·exact .inr ⟨decide_eq_false (by omega),decide_eq_false h⟩
   have hexitN:¬ k < s.size∨¬ k < 6:=by omega
   clear hlt;rcases (show s.size=0∨s.size=1∨s.size=2∨3≤s.size from by omega) with hz|hz|hz|hz
   ·have hs0:decide ((0:Int) < s.size)=false:=by exact decide_eq_false (by omega)
    have hs1:decide ((1:Int) < s.size)=false:=by exact decide_eq_false (by omega)
    have hs2:decide ((2:Int) < s.size)=false:=by exact decide_eq_false (by omega)
    have HV:Hid (ffS s=B):=Lib.hid (ext_list2 (by
     show ffL s.data.toList=_;rw[HFF.out,at_out (i:=2) (by omega),at_out (i:=1) (by omega),at_out (i:=0) (by omega)]
     try simp only[ba_app,HFB.out,if_true,Bool.false_eq_true,if_false]))
    rcases hexit with ⟨⟨hx1,hx3⟩,hx2⟩|⟨hx1,hx2⟩
    all_goals go_wp2
    all_goals
     go_ret
     exact ⟨by rw[HV.out];rfl,hk1⟩
   ·have hs0:(0:Int) < s.size:=by omega
    have hs1:decide ((1:Int) < s.size)=false:=by exact decide_eq_false (by omega)
    have hs2:decide ((2:Int) < s.size)=false:=by exact decide_eq_false (by omega)
    have hsn0:0 < s.size:=by omega
    by_cases hc0:200≤s[0].toNat
    ·have hi0:(200:Int)≤s[0].toNat:=by omega
     have HV:Hid (ffS s=(B++⟨#[47,35]⟩)):=Lib.hid (ext_list2 (by
      show ffL s.data.toList=_;rw[HFF.out,at_out (i:=2) (by omega),at_out (i:=1) (by omega),at_yes (by omega) hc0]
      try simp only[ba_app,HFB.out,if_true,Bool.false_eq_true,if_false]))
     rcases hexit with ⟨⟨hx1,hx3⟩,hx2⟩|⟨hx1,hx2⟩
     all_goals go_wp2
     all_goals
      go_ret
      exact ⟨by rw[HV.out];rfl,hk1⟩
    ·have hi0:decide ((200:Int)≤s[0].toNat)=false:=by simp;omega
     have hin0:decide (200≤s[0].toNat)=false:=by simp;omega
     have HV:Hid (ffS s=B):=Lib.hid (ext_list2 (by
      show ffL s.data.toList=_;rw[HFF.out,at_out (i:=2) (by omega),at_out (i:=1) (by omega),at_no (by omega) (Nat.lt_of_not_le hc0)]
      try simp only[ba_app,HFB.out,if_true,Bool.false_eq_true,if_false]))
     rcases hexit with ⟨⟨hx1,hx3⟩,hx2⟩|⟨hx1,hx2⟩
     all_goals go_wp2
     all_goals
      go_ret
      exact ⟨by rw[HV.out];rfl,hk1⟩
   ·have hs0:(0:Int) < s.size:=by omega
    have hs1:(1:Int) < s.size:=by omega
    have hs2:decide ((2:Int) < s.size)=false:=by exact decide_eq_false (by omega)
    have hsn0:0 < s.size:=by omega
    have hsn1:1 < s.size:=by omega
    by_cases hc0:200≤s[0].toNat
    ·have hi0:(200:Int)≤s[0].toNat:=by omega
     by_cases hc1:200≤s[1].toNat
     ·have hi1:(200:Int)≤s[1].toNat:=by omega
      have HV:Hid (ffS s=(⟨#[36,115,104,97,114,101,47,103,47]⟩++(B++⟨#[47,35]⟩))):=Lib.hid (ext_list2 (by
       show ffL s.data.toList=_;rw[HFF.out,at_out (i:=2) (by omega),at_yes (by omega) hc1,at_yes (by omega) hc0]
       try simp only[ba_app,HFB.out,if_true,Bool.false_eq_true,if_false]))
      rcases hexit with ⟨⟨hx1,hx3⟩,hx2⟩|⟨hx1,hx2⟩
      all_goals go_wp2
      all_goals
       go_ret
       exact ⟨by rw[HV.out];rfl,hk1⟩
     ·have hi1:decide ((200:Int)≤s[1].toNat)=false:=by simp;omega
      have hin1:decide (200≤s[1].toNat)=false:=by simp;omega
      have HV:Hid (ffS s=(B++⟨#[47,35]⟩)):=Lib.hid (ext_list2 (by
       show ffL s.data.toList=_;rw[HFF.out,at_out (i:=2) (by omega),at_no (by omega) (Nat.lt_of_not_le hc1),at_yes (by omega) hc0]
       try simp only[ba_app,HFB.out,if_true,Bool.false_eq_true,if_false]))
      rcases hexit with ⟨⟨hx1,hx3⟩,hx2⟩|⟨hx1,hx2⟩
      all_goals go_wp2
      all_goals
       go_ret
       exact ⟨by rw[HV.out];rfl,hk1⟩
    ·have hi0:decide ((200:Int)≤s[0].toNat)=false:=by simp;omega
     have hin0:decide (200≤s[0].toNat)=false:=by simp;omega
     by_cases hc1:200≤s[1].toNat
     ·have hi1:(200:Int)≤s[1].toNat:=by omega
      have HV:Hid (ffS s=(⟨#[36,115,104,97,114,101,47,103,47]⟩++B)):=Lib.hid (ext_list2 (by
       show ffL s.data.toList=_;rw[HFF.out,at_out (i:=2) (by omega),at_yes (by omega) hc1,at_no (by omega) (Nat.lt_of_not_le hc0)]
       try simp only[ba_app,HFB.out,if_true,Bool.false_eq_true,if_false]))
      rcases hexit with ⟨⟨hx1,hx3⟩,hx2⟩|⟨hx1,hx2⟩
      all_goals go_wp2
      all_goals
       go_ret
       exact ⟨by rw[HV.out];rfl,hk1⟩
     ·have hi1:decide ((200:Int)≤s[1].toNat)=false:=by simp;omega
      have hin1:decide (200≤s[1].toNat)=false:=by simp;omega
      have HV:Hid (ffS s=B):=Lib.hid (ext_list2 (by
       show ffL s.data.toList=_;rw[HFF.out,at_out (i:=2) (by omega),at_no (by omega) (Nat.lt_of_not_le hc1),at_no (by omega) (Nat.lt_of_not_le hc0)]
       try simp only[ba_app,HFB.out,if_true,Bool.false_eq_true,if_false]))
      rcases hexit with ⟨⟨hx1,hx3⟩,hx2⟩|⟨hx1,hx2⟩
      all_goals go_wp2
      all_goals
       go_ret
       exact ⟨by rw[HV.out];rfl,hk1⟩
   ·have hs0:(0:Int) < s.size:=by omega
    have hs1:(1:Int) < s.size:=by omega
    have hs2:(2:Int) < s.size:=by omega
    have hsn0:0 < s.size:=by omega
    have hsn1:1 < s.size:=by omega
    have hsn2:2 < s.size:=by omega
    by_cases hc0:200≤s[0].toNat
    ·have hi0:(200:Int)≤s[0].toNat:=by omega
     by_cases hc1:200≤s[1].toNat
     ·have hi1:(200:Int)≤s[1].toNat:=by omega
      by_cases hc2:220≤s[2].toNat
      ·have hi2:(220:Int)≤s[2].toNat:=by omega
       have HV:Hid (ffS s=⟨#[35]⟩):=Lib.hid (ext_list2 (by
        show ffL s.data.toList=_;rw[HFF.out,at_yes (by omega) hc2,at_yes (by omega) hc1,at_yes (by omega) hc0]
        try rfl))
       rcases hexit with ⟨⟨hx1,hx3⟩,hx2⟩|⟨hx1,hx2⟩
       all_goals go_wp2
       all_goals
        go_ret
        exact ⟨by rw[HV.out];rfl,hk1⟩
      ·have hi2:decide ((220:Int)≤s[2].toNat)=false:=by simp;omega
       have hin2:decide (220≤s[2].toNat)=false:=by simp;omega
       have HV:Hid (ffS s=(⟨#[36,115,104,97,114,101,47,103,47]⟩++(B++⟨#[47,35]⟩))):=Lib.hid (ext_list2 (by
        show ffL s.data.toList=_;rw[HFF.out,at_no (by omega) (Nat.lt_of_not_le hc2),at_yes (by omega) hc1,at_yes (by omega) hc0]
        try simp only[ba_app,HFB.out,if_true,Bool.false_eq_true,if_false]))
       rcases hexit with ⟨⟨hx1,hx3⟩,hx2⟩|⟨hx1,hx2⟩
       all_goals go_wp2
       all_goals
        go_ret
        exact ⟨by rw[HV.out];rfl,hk1⟩
     ·have hi1:decide ((200:Int)≤s[1].toNat)=false:=by simp;omega
      have hin1:decide (200≤s[1].toNat)=false:=by simp;omega
      by_cases hc2:220≤s[2].toNat
      ·have hi2:(220:Int)≤s[2].toNat:=by omega
       have HV:Hid (ffS s=⟨#[35]⟩):=Lib.hid (ext_list2 (by
        show ffL s.data.toList=_;rw[HFF.out,at_yes (by omega) hc2,at_no (by omega) (Nat.lt_of_not_le hc1),at_yes (by omega) hc0]
        try rfl))
       rcases hexit with ⟨⟨hx1,hx3⟩,hx2⟩|⟨hx1,hx2⟩
       all_goals go_wp2
       all_goals
        go_ret
        exact ⟨by rw[HV.out];rfl,hk1⟩
      ·have hi2:decide ((220:Int)≤s[2].toNat)=false:=by simp;omega
       have hin2:decide (220≤s[2].toNat)=false:=by simp;omega
       have HV:Hid (ffS s=(B++⟨#[47,35]⟩)):=Lib.hid (ext_list2 (by
        show ffL s.data.toList=_;rw[HFF.out,at_no (by omega) (Nat.lt_of_not_le hc2),at_no (by omega) (Nat.lt_of_not_le hc1),at_yes (by omega) hc0]
        try simp only[ba_app,HFB.out,if_true,Bool.false_eq_true,if_false]))
       rcases hexit with ⟨⟨hx1,hx3⟩,hx2⟩|⟨hx1,hx2⟩
       all_goals go_wp2
       all_goals
        go_ret
        exact ⟨by rw[HV.out];rfl,hk1⟩
    ·have hi0:decide ((200:Int)≤s[0].toNat)=false:=by simp;omega
     have hin0:decide (200≤s[0].toNat)=false:=by simp;omega
     by_cases hc1:200≤s[1].toNat
     ·have hi1:(200:Int)≤s[1].toNat:=by omega
      by_cases hc2:220≤s[2].toNat
      ·have hi2:(220:Int)≤s[2].toNat:=by omega
       have HV:Hid (ffS s=⟨#[35]⟩):=Lib.hid (ext_list2 (by
        show ffL s.data.toList=_;rw[HFF.out,at_yes (by omega) hc2,at_yes (by omega) hc1,at_no (by omega) (Nat.lt_of_not_le hc0)]
        try rfl))
       rcases hexit with ⟨⟨hx1,hx3⟩,hx2⟩|⟨hx1,hx2⟩
       all_goals go_wp2
       all_goals
        go_ret
        exact ⟨by rw[HV.out];rfl,hk1⟩
      ·have hi2:decide ((220:Int)≤s[2].toNat)=false:=by simp;omega
       have hin2:decide (220≤s[2].toNat)=false:=by simp;omega
       have HV:Hid (ffS s=(⟨#[36,115,104,97,114,101,47,103,47]⟩++B)):=Lib.hid (ext_list2 (by
        show ffL s.data.toList=_;rw[HFF.out,at_no (by omega) (Nat.lt_of_not_le hc2),at_yes (by omega) hc1,at_no (by omega) (Nat.lt_of_not_le hc0)]
        try simp only[ba_app,HFB.out,if_true,Bool.false_eq_true,if_false]))
       rcases hexit with ⟨⟨hx1,hx3⟩,hx2⟩|⟨hx1,hx2⟩
       all_goals go_wp2
       all_goals
        go_ret
        exact ⟨by rw[HV.out];rfl,hk1⟩
     ·have hi1:decide ((200:Int)≤s[1].toNat)=false:=by simp;omega
      have hin1:decide (200≤s[1].toNat)=false:=by simp;omega
      by_cases hc2:220≤s[2].toNat
      ·have hi2:(220:Int)≤s[2].toNat:=by omega
       have HV:Hid (ffS s=⟨#[35]⟩):=Lib.hid (ext_list2 (by
        show ffL s.data.toList=_;rw[HFF.out,at_yes (by omega) hc2,at_no (by omega) (Nat.lt_of_not_le hc1),at_no (by omega) (Nat.lt_of_not_le hc0)]
        try rfl))
       rcases hexit with ⟨⟨hx1,hx3⟩,hx2⟩|⟨hx1,hx2⟩
       all_goals go_wp2
       all_goals
        go_ret
        exact ⟨by rw[HV.out];rfl,hk1⟩
      ·have hi2:decide ((220:Int)≤s[2].toNat)=false:=by simp;omega
       have hin2:decide (220≤s[2].toNat)=false:=by simp;omega
       have HV:Hid (ffS s=B):=Lib.hid (ext_list2 (by
        show ffL s.data.toList=_;rw[HFF.out,at_no (by omega) (Nat.lt_of_not_le hc2),at_no (by omega) (Nat.lt_of_not_le hc1),at_no (by omega) (Nat.lt_of_not_le hc0)]
        try simp only[ba_app,HFB.out,if_true,Bool.false_eq_true,if_false]))
       rcases hexit with ⟨⟨hx1,hx3⟩,hx2⟩|⟨hx1,hx2⟩
       all_goals go_wp2
       all_goals
        go_ret
        exact ⟨by rw[HV.out];rfl,hk1⟩
structure Lv (x:List UInt8):Prop where
 vt:Vt x
 no47:47 ∉ x
 no36:36 ∉ x
 short:x.length≤1
theorem lv_fsg (j:Nat):Lv (fsg j)∧(wildL (fsg j)=false∨fsg j=[43])∧¬ fsg j=[35]:=by
 unfold fsg
 split
 all_goals refine ⟨⟨?_,by decide,by decide,by decide⟩,by decide,by decide⟩
 all_goals first|exact Vt.nil|exact Vt.one (by decide) (by decide)
theorem lv_one {c:UInt8} (h1:0 < c.toNat) (h2:c.toNat < 128) (h3:c≠47) (h4:c≠36):Lv [c]:=⟨Vt.one h1 h2,by simp;exact fun e=>h3 e.symm,by simp;exact fun e=>h4 e.symm,by simp⟩
theorem fM_lv (l:List UInt8):∀ x∈fM l,Lv x∧(wildL x=false∨x=[43])∧¬ x=[35]:=by
 intro x hx;rcases fM_in l 6 x hx with rfl|⟨j,rfl⟩
 ·exact ⟨lv_one (by decide) (by decide) (by decide) (by decide),.inl (by decide),by decide⟩
 ·exact lv_fsg j
theorem fM_len (l:List UInt8):(fM l).length≤7:=by
 unfold fM;rw[List.length_cons,List.length_map]
 have:=List.length_take_le 6 l
 omega
def preL (b:Bool):List UInt8:=if b then [36,115,104,97,114,101,47,103,47] else []
theorem filter_made (b:Bool) {f:ByteArray} {M:List (List UInt8)} (hf:f.data.toList=preL b++joinL M) (hM:M≠[]) (hl:∀ x∈M,Lv x) (hn:M.length≤9) (hok:okLev M=true) (hne:joinL M≠[]) :
  filterB f=true∧ofL f.data.toList=joinL M∧lev (joinL M)=M:=by
 have hlev:=lev_join M hM (fun x hx=>(hl x hx).no47);have hvt:=vt_join M (fun x hx=>(hl x hx).vt);have hlen:=join_len M 1 (fun x hx=>(hl x hx).short)
 have h36:36 ∉ joinL M:=by
  intro hm;rcases in_join M 36 hm with h|⟨x,hx,hc⟩
  ·exact absurd h (by decide)
  ·exact (hl x hx).no36 hc
 have hp:plainL (joinL M)=true:=plain_of hne (by rw[hlev];exact hok)
 have hsz:f.size≤65535:=by
  rw[← sz_list,hf,List.length_append]
  have:(preL b).length≤9:=by cases b<;>decide
  omega
 cases b with
 | false =>
  have hf':f.data.toList=joinL M:=by rw[hf];rfl
  obtain ⟨f1,f2⟩:=filter_plain (f:=f) (by rw[hf'];exact hvt) hsz (by rw[hf'];exact (no36 h36).1) (by rw[hf'];exact hp);exact ⟨f1,by rw[f2,hf'],hlev⟩
 | true =>
  have hf':f.data.toList=[36,115,104,97,114,101,47,103,47]++joinL M:=by rw[hf];rfl
  have e:behind ([36,115,104,97,114,101,47,103,47]++joinL M)=[103]++47 :: joinL M:=rfl;have s1:isShare ([36,115,104,97,114,101,47,103,47]++joinL M)=true:=by unfold isShare shareW;simp[List.isPrefixOf]
  have s2:=(who_app [103] (joinL M) (by decide)).1;have s3:=(who_app [103] (joinL M) (by decide)).2;rw[← e]at s2 s3
  have hv:Vt f.data.toList:=by
   rw[hf'];refine Vt.append ⟨[[36],[115],[104],[97],[114],[101],[47],[103],[47]],?_,rfl⟩ hvt;intro p hp;refine .inl ?_;simp at hp;rcases hp with rfl|rfl|rfl|rfl|rfl|rfl|rfl|rfl|rfl<;>exact ⟨_,rfl,by decide,by decide⟩
  refine ⟨?_,?_,hlev⟩
  ·unfold filterB shareB
   rw[hv.ok hsz,hf',s1,if_pos rfl,s2,s3,hp]
   decide
  ·unfold ofL
   rw[hf',s1,if_pos rfl,s3]
end Go.Proofs.YtohmcfmcbibbcaaGreatDoor
