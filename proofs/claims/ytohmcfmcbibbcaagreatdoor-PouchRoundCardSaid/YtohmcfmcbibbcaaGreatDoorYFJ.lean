import Derived.Test.YtohmcfmcbibbcaaGreatDoorYF2
import Derived.Deep.RegionHeld3
import Derived.IntWalk
import Derived.Test.YtohmcfmcbibbcaaGreatDoorYFF
namespace Go.Proofs.YtohmcfmcbibbcaaGreatDoor
open Go.RowKit
set_option linter.unusedVariables false
set_option linter.unusedSimpArgs false
theorem strs_own {w:World} {base n:Nat} {v:Value} {L:List (List UInt8)} (h:w.ownsRow base 9 1 v L.length (strsL L)) :
  ∃ a c,v=.slice a L.length c∧Row w a (strsL L)∧L.length≤c:=by
 rcases h.2 with ⟨hv,hn⟩|⟨g,cap,cur,hv,hb,hg,hle,hm,_⟩
 ·obtain rfl:L=[]:=List.eq_nil_of_length_eq_zero hn
  exact ⟨none,0,hv,.nil _ _,by simp⟩
 ·subst hv
  exact ⟨_,cap,rfl,.of_own h,hle⟩
def LevInv (l:List UInt8) (i fr:Nat) (O:List (List UInt8)):Prop:=fr≤i∧47 ∉ (l.drop fr).take (i - fr)∧O++lev (l.drop fr)=lev l
theorem levInv_zero (l:List UInt8):LevInv l 0 0 []:=⟨Nat.le_refl _,by simp,by simp⟩
theorem levInv_on {l:List UInt8} {i fr:Nat} {O:List (List UInt8)} (h:LevInv l i fr O) (hi:i < l.length) (hc:l[i]≠47):LevInv l (i+1) fr O:=by
 obtain ⟨h1,h2,h3⟩:=h;refine ⟨by omega,?_,h3⟩;have e:i+1 - fr=(i - fr)+1:=by omega
 have hd:i - fr < (l.drop fr).length:=by rw[List.length_drop];omega
 rw[e,List.take_succ_eq_append_getElem hd]
 have hg:(l.drop fr)[i - fr]=l[i]:=by
  rw[List.getElem_drop]
  congr 1
  omega
 rw[hg];simp only[List.mem_append,List.mem_singleton,not_or];exact ⟨h2,fun e=>hc e.symm⟩
theorem levInv_cut {l:List UInt8} {i fr:Nat} {O:List (List UInt8)} (h:LevInv l i fr O) (hi:i < l.length) (hc:l[i]=47):LevInv l (i+1) (i+1) (O++[(l.drop fr).take (i - fr)]):=by
 obtain ⟨h1,h2,h3⟩:=h;refine ⟨Nat.le_refl _,by simp,?_⟩
 have e:l.drop fr=(l.drop fr).take (i - fr)++47 :: l.drop (i+1):=by
  have h4:=(List.take_append_drop (i - fr) (l.drop fr)).symm;rw[List.drop_drop,show fr+(i - fr)=i from by omega,List.drop_eq_getElem_cons hi,hc]at h4;exact h4
 rw[← h3]
 conv=>rhs;rw[e]
 rw[lev_app _ _ h2,List.append_assoc]
 rfl
theorem levInv_end {l:List UInt8} {fr:Nat} {O:List (List UInt8)} (h:LevInv l l.length fr O):O++[(l.drop fr).take (l.length - fr)]=lev l:=by
 obtain ⟨h1,h2,h3⟩:=h;have e:(l.drop fr).take (l.length - fr)=l.drop fr:=List.take_of_length_le (by rw[List.length_drop];exact Nat.le_refl _);rw[e]at h2 ⊢;rw[← h3,lev_none _ h2]
theorem extract_at (s:ByteArray) (a b:Nat):s.extract a b=⟨((s.data.toList.drop a).take (b - a)).toArray⟩:=Lib.extract_eq s a b
def RLevIs (w:World) (L:List (List UInt8)) (e:Ending) (w':World):Prop:=∃ a c,e=.returned (.slice a L.length c)∧Row w' a (strsL L)∧Kept No w w'
theorem strsL_one (L:List (List UInt8)) (x:List UInt8):strsL (L++[x])=strsL L++[.string ⟨x.toArray⟩]:=by simp[strsL]
set_option maxRecDepth 100000 in
set_option maxHeartbeats 2000000 in
theorem rlevels_any (s:ByteArray) (w:World) (hs:s.size < 4294967281) :
  Calls Tryz.prog 219 #[.string s] w (RLevIs w (lev s.data.toList)):=by
 obtain ⟨i0,hi,hz0,hz1,hz2⟩:=info_parts info_str;have hsl:=Lib.hid (sz_list s)
 go_enter Tryz.func219,Tryz.ntmps219
 go_wp2
 go_loopw [3,4,5] (fun o f i wr=>∃ (j fr:Nat) (O:List (List UInt8)),i=.int .i64 j∧f=.int .i64 fr∧fr≤j∧j≤s.size+1∧O.length≤j∧Hid ((j≤s.size∧LevInv s.data.toList j fr O)∨(s.size < j∧O=lev s.data.toList))∧wr.ownsRow w.heap.size 9 1 o O.length (strsL O)∧Kept No w wr) (fun _ _ i _=>s.size+1 - (intOf i).toNat)
 case atStart=>exact ⟨0,0,[],rfl,rfl,by omega,by omega,by simp,Lib.hid (.inl ⟨by omega,levInv_zero _⟩),World.ownsRow_nil _ _ _ _,Kept.refl _ _⟩
 case round =>
  obtain ⟨j,fr,O,rfl,rfl,hfr,hj,hO,HI,hown,hk⟩:=hrel;have hsz:=hk.size
  by_cases hle:j≤s.size
  ·have HV:Hid (LevInv s.data.toList j fr O):=Lib.hid (by rcases HI.out with h|h;exact h.2;omega)
   clear HI
   by_cases hlt:j < s.size
   ·have hne:((j:Int) == (s.size:Int))=false:=by simp;omega
    have hlt2:j < s.data.toList.length:=by rw[hsl.out];exact hlt
    have hget:Hid (s.data.toList[j]=s[j]):=Lib.hid (by simp[ByteArray.getElem_eq_getElem_data]<;>rfl)
    by_cases hc:s[j]=47
    ·have HN:Hid (LevInv s.data.toList (j+1) (j+1) (O++[(s.data.toList.drop fr).take (j - fr)])):=Lib.hid (levInv_cut HV.out hlt2 (by rw[hget.out];exact hc))
     have hb:((s[j].toNat:Int) == 47)=true:=by rw[hc];rfl
     have HE:=Lib.hid (extract_at s fr j);generalize (s.data.toList.drop fr).take (j - fr)=p at *;clear hc
     go_wp2_with (at_builtin;refine wpList_append_row _ rfl _ _ _ rfl w.heap.size 9 i0 _ 16 Tryz.underlying184 hi hz0 hz1 hz2 rfl _ _ _ rfl (hown.alloc _) (some ⟨wr.heap.size,0,none⟩) 1 1 [.string ⟨p.toArray⟩] rfl rfl ?c2 (by simp) (by intro u hu;simp at hu;subst hu;rfl) ?c3 ?c4 ?c5 ?_;rotate_right;intro v2 w2 hown2 hg2 hv2)
     case c2=>rw[← HE.out];exact .of_cells (new_cells wr _ _ _ rfl)
     case c3=>unfold maxLen;omega
     case c4=>omega
     case c5=>simp;omega
     go_roundw
     case rel=>exact ⟨j+1,j+1,O++[p],by go_num,by go_num,by omega,by omega,by simp;omega,Lib.hid (.inl ⟨by omega,HN.out⟩),by rw[strsL_one];simpa using hown2,(hk.alloc _).grown hg2 (own_no hown)⟩
     case measure=>simp[intOf];omega
    ·have HN:Hid (LevInv s.data.toList (j+1) fr O):=Lib.hid (levInv_on HV.out hlt2 (by rw[hget.out];exact hc))
     have hb:((s[j].toNat:Int) == 47)=false:=by
      have:s[j].toNat≠47:=fun h=>hc (UInt8.toNat_inj.1 h)
      simp;omega
     clear hc
     go_wp2
     go_roundw
     case rel=>exact ⟨j+1,fr,O,by go_num,rfl,by omega,by omega,by omega,Lib.hid (.inl ⟨by omega,HN.out⟩),hown,hk⟩
     case measure=>simp[intOf];omega
   ·have hje:j=s.size:=by omega
    subst hje;have HN:Hid (O++[(s.data.toList.drop fr).take (s.size - fr)]=lev s.data.toList):=Lib.hid (by have:=HV.out;rw[← hsl.out]at this ⊢;exact levInv_end this);have HE:=Lib.hid (extract_at s fr s.size);generalize (s.data.toList.drop fr).take (s.size - fr)=p at *
    go_wp2_with (at_builtin;refine wpList_append_row _ rfl _ _ _ rfl w.heap.size 9 i0 _ 16 Tryz.underlying184 hi hz0 hz1 hz2 rfl _ _ _ rfl (hown.alloc _) (some ⟨wr.heap.size,0,none⟩) 1 1 [.string ⟨p.toArray⟩] rfl rfl ?d2 (by simp) (by intro u hu;simp at hu;subst hu;rfl) ?d3 ?d4 ?d5 ?_;rotate_right;intro v2 w2 hown2 hg2 hv2)
    case d2=>rw[← HE.out];exact .of_cells (new_cells wr _ _ _ rfl)
    case d3=>unfold maxLen;omega
    case d4=>omega
    case d5=>simp;omega
    go_roundw
    case rel=>exact ⟨s.size+1,s.size+1,O++[p],by go_num,by go_num,by omega,by omega,by simp;omega,Lib.hid (.inr ⟨by omega,HN.out⟩),by rw[strsL_one];simpa using hown2,(hk.alloc _).grown hg2 (own_no hown)⟩
    case measure=>simp[intOf]
  ·have hOe:O=lev s.data.toList:=by rcases HI.out with h|h;omega;exact h.2
   subst hOe;obtain ⟨a,c,rfl,hr,_⟩:=strs_own (n:=0) hown;clear hown HI
   go_wp2
   go_ret
   exact ⟨a,c,rfl,hr,hk⟩
theorem okLev_cons (x:List UInt8) (r:List (List UInt8)):okLev (x :: r)=((!wildL x||(x == [43]||(x == [35]&&r.isEmpty)))&&okLev r):=rfl
set_option maxRecDepth 100000 in
set_option maxHeartbeats 2000000 in
theorem rplain_any (s:ByteArray) (w:World) (hs:s.size < 4294967281) :
  Calls Tryz.prog 172 #[.string s] w fun e w'=>e=.returned (.bool (plainL s.data.toList))∧Kept No w w':=by
 have cS:=rlevels_any s w hs;have hll:=lev_len s.data.toList;have hlm:=lev_mem s.data.toList;rw[sz_list]at hll hlm;generalize hP:plainL s.data.toList=P;unfold plainL at hP
 have hem:s.data.toList.isEmpty=decide (s.size=0):=by
  rw[← sz_list];cases s.data.toList<;>simp
 rw[hem]at hP;generalize lev s.data.toList=L at *;have HS:=Lib.hid cS;have HM:=Lib.hid hlm;have HP:=Lib.hid hP;clear cS hlm hP hem
 go_enter Tryz.func172,Tryz.ntmps172
 go_wp2_with (go_at_call 219;refine HS.out.mono ?_;rintro e w1 ⟨a,c,rfl,hr,hk⟩)
 go_loop [4] (fun i=>∃ j:Nat,i=.int .i64 j∧j≤L.length∧Hid (okLev (L.drop j)=okLev L)) (fun i=>L.length - (intOf i).toNat)
 case atStart=>exact ⟨0,rfl,by omega,Lib.hid (by rw[List.drop_zero])⟩
 case round =>
  obtain ⟨j,rfl,hj,HD⟩:=hrel
  by_cases hlt:j < L.length
  ·have HX:=Lib.hid (show L.drop j=L[j] :: L.drop (j+1) from List.drop_eq_getElem_cons hlt)
   have hxl:L[j].length≤s.size:=HM.out _ (List.getElem_mem hlt);obtain ⟨b,off,rfl,hc⟩:=strs_at hr j hlt;generalize L[j]=x at *;have d1:∀ wx,Calls Tryz.prog 218 #[.string ⟨x.toArray⟩,.int .u8 43] wx fun e w'=>e=.returned (.bool (x.contains 43))∧wx=w':=fun wx=>rhas_any ⟨x.toArray⟩ 43 wx (by show x.toArray.size≤_;simp;omega)
   have d2:∀ wx,Calls Tryz.prog 218 #[.string ⟨x.toArray⟩,.int .u8 35] wx fun e w'=>e=.returned (.bool (x.contains 35))∧wx=w':=fun wx=>rhas_any ⟨x.toArray⟩ 35 wx (by show x.toArray.size≤_;simp;omega)
   have HO:=Lib.hid (show okLev L=((!wildL x||(x == [43]||(x == [35]&&(L.drop (j+1)).isEmpty)))&&okLev (L.drop (j+1))) by rw[← HD.out,HX.out,okLev_cons]);have HNo:Hid (okLev L=false→P=false):=Lib.hid (fun h=>by rw[← HP.out,h,Bool.and_false])
   by_cases h43:x=[43]
   ·subst h43
    have H1:=Lib.hid (show ∀ wx,Calls Tryz.prog 218 #[.string ⟨[43].toArray⟩,.int .u8 43] wx fun e w'=>e=.returned (.bool true)∧wx=w' from d1);have H2:=Lib.hid (show ∀ wx,Calls Tryz.prog 218 #[.string ⟨[43].toArray⟩,.int .u8 35] wx fun e w'=>e=.returned (.bool false)∧wx=w' from d2);have HN:Hid (okLev (L.drop (j+1))=okLev L):=Lib.hid (by rw[HO.out];simp);clear d1 d2
    go_wp2_with (first
     | (go_at_call 218;(with_reducible refine (H1.out _).mono ?_);rintro e w5 ⟨rfl,rfl⟩)
     | (go_at_call 218;(with_reducible refine (H2.out _).mono ?_);rintro e w5 ⟨rfl,rfl⟩))
    go_round
    case rel=>exact ⟨j+1,by go_num,by omega,HN⟩
    case measure=>simp[intOf];omega
   ·have h43b:(x == [43])=false:=by simpa using h43
    have h43n:(x != [43])=true:=by simpa using h43
    rcases hc1:x.contains 43 with _|_
    ·rw[hc1]at d1
     have H1:=Lib.hid d1;rcases hc2:x.contains 35 with _|_
     ·rw[hc2]at d2
      have H2:=Lib.hid d2;have HN:Hid (okLev (L.drop (j+1))=okLev L):=Lib.hid (by rw[HO.out];unfold wildL;rw[hc1,hc2];simp);clear d1 d2 hc1 hc2
      go_wp2_with (first
       | (go_at_call 218;(with_reducible refine (H1.out _).mono ?_);rintro e w5 ⟨rfl,rfl⟩)
       | (go_at_call 218;(with_reducible refine (H2.out _).mono ?_);rintro e w5 ⟨rfl,rfl⟩))
      go_round
      case rel=>exact ⟨j+1,by go_num,by omega,HN⟩
      case measure=>simp[intOf];omega
     ·rw[hc2]at d2
      have H2:=Lib.hid d2
      by_cases h35:x=[35]
      ·subst h35
       by_cases hl:j+1 < L.length
       ·have hlI:(j:Int)+1 < L.length:=by omega
        have HQ:Hid (P=false):=Lib.hid (HNo.out (by
         rw[HO.out]
         have:(L.drop (j+1)).isEmpty=false:=by
          cases hd:L.drop (j+1) with
          | nil=>have:=congrArg List.length hd;simp at this;omega
          | cons _ _=>rfl
         rw[this];simp[wildL]))
        clear d1 d2 hc1 hc2
        go_wp2_with (first
         | (go_at_call 218;(with_reducible refine (H1.out _).mono ?_);rintro e w5 ⟨rfl,rfl⟩)
         | (go_at_call 218;(with_reducible refine (H2.out _).mono ?_);rintro e w5 ⟨rfl,rfl⟩))
        go_ret
        exact ⟨by rw[HQ.out];rfl,hk⟩
       ·have hlI:decide ((j:Int)+1 < L.length)=false:=by simp;omega
        have HN:Hid (okLev (L.drop (j+1))=okLev L):=Lib.hid (by
         rw[HO.out]
         have:L.drop (j+1)=[]:=List.drop_of_length_le (by omega)
         rw[this];simp[wildL])
        clear d1 d2 hc1 hc2
        go_wp2_with (first
         | (go_at_call 218;(with_reducible refine (H1.out _).mono ?_);rintro e w5 ⟨rfl,rfl⟩)
         | (go_at_call 218;(with_reducible refine (H2.out _).mono ?_);rintro e w5 ⟨rfl,rfl⟩))
        go_round
        case rel=>exact ⟨j+1,by go_num,by omega,HN⟩
        case measure=>simp[intOf];omega
      ·have h35b:(x == [35])=false:=by simpa using h35
       have h35n:(x != [35])=true:=by simpa using h35
       have HQ:Hid (P=false):=Lib.hid (HNo.out (by rw[HO.out];unfold wildL;rw[hc1,hc2,h43b,h35b];simp));clear d1 d2 hc1 hc2
       go_wp2_with (first
        | (go_at_call 218;(with_reducible refine (H1.out _).mono ?_);rintro e w5 ⟨rfl,rfl⟩)
        | (go_at_call 218;(with_reducible refine (H2.out _).mono ?_);rintro e w5 ⟨rfl,rfl⟩))
       go_ret
       exact ⟨by rw[HQ.out];rfl,hk⟩
    ·rw[hc1]at d1
     have H1:=Lib.hid d1
     have h35:(x == [35])=false:=by
      cases h:(x == [35])
      ·rfl
      ·have:x=[35]:=by simpa using h
       rw[this]at hc1;exact absurd hc1 (by decide)
     have HQ:Hid (P=false):=Lib.hid (HNo.out (by rw[HO.out];unfold wildL;rw[hc1,h43b,h35];simp));clear d1 d2 hc1 h35
     go_wp2_with (go_at_call 218;(with_reducible refine (H1.out _).mono ?_);rintro e w5 ⟨rfl,rfl⟩)
     go_ret
     exact ⟨by rw[HQ.out];rfl,hk⟩
  ·have HY:Hid (okLev L=true):=Lib.hid (by rw[← HD.out,List.drop_of_length_le (by omega)];rfl)
   have HQ:Hid (P=decide (0 < s.size)):=Lib.hid (by
    rw[← HP.out,HY.out,Bool.and_true]
    by_cases h0:s.size=0
    ·simp[h0]
    ·rw[decide_eq_false h0,decide_eq_true (by omega)];rfl)
   go_wp2
   go_ret
   exact ⟨by rw[HQ.out];rfl,hk⟩
def rshareV (s:ByteArray):Value:=if isShare s.data.toList then (if (behind s.data.toList).contains 47 then .tuple #[.string ⟨(whoL (behind s.data.toList)).toArray⟩,.string ⟨(whatL (behind s.data.toList)).toArray⟩,.bool true] else .tuple #[.string ⟨#[]⟩,.string ⟨#[]⟩,.bool true]) else .tuple #[.string ⟨#[]⟩,.string ⟨#[]⟩,.bool false]
theorem isShare_take (l:List UInt8) (h:7≤l.length):isShare l=decide (l.take 7=shareW):=by
 unfold isShare;rw[Bool.eq_iff_iff,List.isPrefixOf_iff_prefix,decide_eq_true_eq];constructor
 ·intro hp
  have:=List.prefix_iff_eq_take.1 hp
  exact this.symm
 ·intro he
  rw[← he];exact List.take_prefix _ _
theorem isShare_short (l:List UInt8) (h:l.length < 7):isShare l=false:=by
 cases hi:isShare l
 ·rfl
 ·have:=share_len hi;omega
def ofL (l:List UInt8):List UInt8:=if isShare l then whatL (behind l) else l
theorem plain_ne {l:List UInt8} (h:plainL l=true):l≠[]:=by
 unfold plainL at h;intro e;subst e;simp at h
theorem drop7_take (l:List UInt8) (j:Nat) (hj:7≤j) (hlt:j < l.length) (hc:l[j]=47) (hn:47 ∉ (l.drop 7).take (j - 7)) :
  whoL (behind l)=(l.drop 7).take (j - 7)∧whatL (behind l)=l.drop (j+1)∧(behind l).contains 47=true:=by
 have e:behind l=(l.drop 7).take (j - 7)++47 :: l.drop (j+1):=by
  unfold behind;have h4:=(List.take_append_drop (j - 7) (l.drop 7)).symm;rw[List.drop_drop,show 7+(j - 7)=j from by omega,List.drop_eq_getElem_cons hlt,hc]at h4;exact h4
 rw[e];have h:=who_app _ (l.drop (j+1)) hn;refine ⟨h.1,h.2,by simp⟩
set_option maxRecDepth 100000 in
set_option maxHeartbeats 2000000 in
theorem rshare_any (s:ByteArray) (w:World) (hs:s.size≤9223372036854775806) :
  Calls Tryz.prog 125 #[.string s] w fun e w'=>e=.returned (rshareV s)∧Kept No w w':=by
 have hsl:=Lib.hid (sz_list s);generalize hV:rshareV s=V;unfold rshareV at hV
 by_cases h7:s.size < 7
 ·have h7z:(s.size:Int) < 7:=by omega
  have HV:Hid (V=.tuple #[.string ⟨#[]⟩,.string ⟨#[]⟩,.bool false]):=Lib.hid (by rw[← hV,isShare_short _ (by rw[hsl.out];exact h7)];rfl);clear hV
  go_enter Tryz.func125,Tryz.ntmps125
  go_wp2
  go_ret3
  exact ⟨by rw[HV.out];rfl,Kept.refl _ _⟩
 have h7z:(7:Int)≤s.size:=by omega
 have hst:=isShare_take s.data.toList (by rw[hsl.out];omega);have hx:s.extract 0 7=⟨(s.data.toList.take 7).toArray⟩:=by rw[extract_at];simp
 by_cases hT:s.data.toList.take 7=shareW
 ·rw[hst,decide_eq_true hT,if_pos rfl]at hV
  have hx2:s.extract 0 7=⟨#[36,115,104,97,114,101,47]⟩:=by rw[hx,hT];rfl
  have HV:=Lib.hid hV;clear hV hst hx hT
  go_enter Tryz.func125,Tryz.ntmps125
  go_wp2
  have HX2:=Lib.hid hx2;clear hx2
  go_loop [5] (fun i=>∃ j:Nat,i=.int .i64 j∧7≤j∧j≤s.size∧Hid (47 ∉ (s.data.toList.drop 7).take (j - 7))) (fun i=>s.size - (intOf i).toNat)
  case atStart=>exact ⟨7,rfl,by omega,by omega,Lib.hid (by simp)⟩
  case round =>
   obtain ⟨j,rfl,hj7,hj,HN⟩:=hrel
   by_cases hlt:j < s.size
   ·have hlt2:j < s.data.toList.length:=by rw[hsl.out];exact hlt
    have hget:Hid (s.data.toList[j]=s[j]):=Lib.hid (by simp[ByteArray.getElem_eq_getElem_data]<;>rfl)
    by_cases hc:s[j]=47
    ·have hb:((s[j].toNat:Int) == 47)=true:=by rw[hc];rfl
     have hd:=drop7_take s.data.toList j hj7 hlt2 (by rw[hget.out];exact hc) HN.out
     have HQ:Hid (V=.tuple #[.string (s.extract 7 j),.string (s.extract (j+1) s.size),.bool true]):=Lib.hid (by
      rw[← HV.out,hd.2.2,if_pos rfl,hd.1,hd.2.1,extract_at,extract_at,List.take_of_length_le (l:=s.data.toList.drop (j+1)) (by rw[List.length_drop,hsl.out];exact Nat.le_refl _)])
     have hj1:(7:Int)≤j:=by omega
     have hj2:(j:Int)≤s.size:=by omega
     have hj3:(0:Int)≤(j:Int)+1:=by omega
     have hj4:(j:Int)+1≤s.size:=by omega
     have hj5:((j:Int)+1).toNat=j+1:=by omega
     clear hc hd
     go_wp2
     go_quiet (fail)
     go_wp2
     go_ret3
     exact ⟨by rw[HQ.out];rfl,(Kept.refl No w).drewN _⟩
    ·have hb:((s[j].toNat:Int) == 47)=false:=by
      have:s[j].toNat≠47:=fun h=>hc (UInt8.toNat_inj.1 h)
      simp;omega
     have HN2:Hid (47 ∉ (s.data.toList.drop 7).take (j+1 - 7)):=Lib.hid (by
      have e:j+1 - 7=(j - 7)+1:=by omega
      have hd:j - 7 < (s.data.toList.drop 7).length:=by rw[List.length_drop];omega
      rw[e,List.take_succ_eq_append_getElem hd]
      have hg:(s.data.toList.drop 7)[j - 7]=s[j]:=by
       rw[List.getElem_drop,← hget.out]
       congr 1
       omega
      rw[hg];simp only[List.mem_append,List.mem_singleton,not_or];exact ⟨HN.out,fun e=>hc e.symm⟩)
     clear hc
     go_wp2
     go_round
     case rel=>exact ⟨j+1,by go_num,by omega,by omega,HN2⟩
     case measure=>simp[intOf];omega
   ·have HQ:Hid (V=.tuple #[.string ⟨#[]⟩,.string ⟨#[]⟩,.bool true]):=Lib.hid (by
     have hn:(behind s.data.toList).contains 47=false:=by
      have:=HN.out
      rw[List.take_of_length_le (by rw[List.length_drop,hsl.out];omega)]at this;unfold behind;simpa using this
     rw[← HV.out,hn,if_neg (by simp)])
    go_wp2
    go_ret3
    exact ⟨by rw[HQ.out];rfl,Kept.refl _ _⟩
 ·rw[hst,decide_eq_false hT,if_neg (by simp)]at hV
  have hne:¬ s.data.toList.take 7=[36,115,104,97,114,101,47]:=hT;have hneb:(s.data.toList.take 7 != [36,115,104,97,114,101,47])=true:=by simpa using hne
  have hneb2:(s.data.toList.take 7 == [36,115,104,97,114,101,47])=false:=by simpa using hne
  have HV:=Lib.hid hV;clear hV hst hT;generalize s.data.toList.take 7=T at *
  go_enter Tryz.func125,Tryz.ntmps125
  go_wp2
  all_goals
   go_ret3
   exact ⟨by rw[← HV.out];rfl,Kept.refl _ _⟩
set_option maxRecDepth 100000 in
set_option maxHeartbeats 1000000 in
theorem rfilter_any (s:ByteArray) (w:World) (hs:s.size≤9223372036854775806) :
  Calls Tryz.prog 126 #[.string s] w fun e w'=>e=.returned (.bool (filterB s))∧Kept No w w':=by
 have cO:=fun wx=>refRight_any s wx (by omega)
 generalize hR:filterB s=R;unfold filterB at hR;rcases hO:okText s with _|_
 ·rw[hO]at cO hR
  rw[Bool.false_and]at hR;subst hR;have HO:=Lib.hid cO;clear cO hO
  go_enter Tryz.func126,Tryz.ntmps126
  go_wp2_with (go_at_call 146;refine (HO.out _).mono ?_;rintro e w1 ⟨rfl,rfl⟩)
  go_ret
  exact ⟨rfl,Kept.refl _ _⟩
 rw[hO]at cO hR;rw[Bool.true_and]at hR;have HO:=Lib.hid cO;have hz:=okText_size hO;have cS:=fun wx=>rshare_any s wx hs
 unfold rshareV at cS;clear cO hO;rcases hS:isShare s.data.toList with _|_
 ·rw[hS,if_neg (by simp)]at cS hR
  have HS:=Lib.hid cS;have HL:=Lib.hid (fun wx=>rplain_any s wx (by omega));rw[hR]at HL;clear cS hS hR
  go_enter Tryz.func126,Tryz.ntmps126
  go_wp2_with (first
   | (go_at_call 146;refine (HO.out _).mono ?_;rintro e w1 ⟨rfl,rfl⟩)
   | (go_at_call 125;refine (HS.out _).mono ?_;rintro e w2 ⟨rfl,hk2⟩)
   | (go_at_call 172;refine (HL.out _).mono ?_;rintro e w3 ⟨rfl,hk3⟩))
  go_ret
  exact ⟨rfl,hk2.trans hk3⟩
 rw[hS,if_pos rfl]at cS hR;unfold shareB at hR;rcases hB:(behind s.data.toList).contains 47 with _|_
 ·rw[hB,if_neg (by simp)]at cS
  have hwn:=(who_none (behind s.data.toList) (by simpa using hB)).2;have HR:Hid (R=false):=Lib.hid (by rw[← hR,hwn];simp[plainL]);have HS:=Lib.hid cS;clear cS hS hR hB hwn
  go_enter Tryz.func126,Tryz.ntmps126
  go_wp2_with (first
   | (go_at_call 146;refine (HO.out _).mono ?_;rintro e w1 ⟨rfl,rfl⟩)
   | (go_at_call 125;refine (HS.out _).mono ?_;rintro e w2 ⟨rfl,hk2⟩))
  go_ret
  exact ⟨by rw[HR.out];rfl,hk2⟩
 rw[hB,if_pos rfl]at cS;have hwl:(whoL (behind s.data.toList)).length≤s.data.toList.length:=Nat.le_trans (who_le _) (behind_le _);have htl:(whatL (behind s.data.toList)).length≤s.data.toList.length:=Nat.le_trans (what_le _) (behind_le _);have cW:=fun wx=>rwild_any ⟨(whoL (behind s.data.toList)).toArray⟩ wx (by have:=size_of_list s _ hwl (by omega);omega)
 have cL:=fun wx=>rplain_any ⟨(whatL (behind s.data.toList)).toArray⟩ wx (size_of_list s _ htl (by omega))
 rw[show (⟨(whoL (behind s.data.toList)).toArray⟩:ByteArray).data.toList=whoL (behind s.data.toList) from rfl]at cW;rw[show (⟨(whatL (behind s.data.toList)).toArray⟩:ByteArray).data.toList=whatL (behind s.data.toList) from rfl]at cL;have HS:=Lib.hid cS;clear cS hS hB hwl htl;generalize whoL (behind s.data.toList)=u at *;generalize whatL (behind s.data.toList)=v at *;generalize plainL v=C at *;have HL:=Lib.hid cL;clear cL;cases u with
 | nil =>
  have HR:Hid (R=false):=Lib.hid (by rw[← hR];rfl);clear hR cW
  go_enter Tryz.func126,Tryz.ntmps126
  go_wp2_with (first
   | (go_at_call 146;refine (HO.out _).mono ?_;rintro e w1 ⟨rfl,rfl⟩)
   | (go_at_call 125;refine (HS.out _).mono ?_;rintro e w2 ⟨rfl,hk2⟩))
  go_ret
  exact ⟨by rw[HR.out];rfl,hk2⟩
 | cons c t =>
  rcases hW:wildL (c :: t) with _|_
  ·have HR:Hid (R=C):=Lib.hid (by rw[← hR,hW];simp)
   rw[hW]at cW;have HW:=Lib.hid cW;clear hR cW hW
   go_enter Tryz.func126,Tryz.ntmps126
   go_wp2_with (first
    | (go_at_call 146;refine (HO.out _).mono ?_;rintro e w1 ⟨rfl,rfl⟩)
    | (go_at_call 125;refine (HS.out _).mono ?_;rintro e w2 ⟨rfl,hk2⟩)
    | (go_at_call 171;refine (HW.out _).mono ?_;rintro e w3 ⟨rfl,rfl⟩)
    | (go_at_call 172;refine (HL.out _).mono ?_;rintro e w4 ⟨rfl,hk4⟩))
   go_ret
   exact ⟨by rw[HR.out];rfl,hk2.trans hk4⟩
  ·have HR:Hid (R=false):=Lib.hid (by rw[← hR,hW];simp)
   rw[hW]at cW;have HW:=Lib.hid cW;clear hR cW hW
   go_enter Tryz.func126,Tryz.ntmps126
   go_wp2_with (first
    | (go_at_call 146;refine (HO.out _).mono ?_;rintro e w1 ⟨rfl,rfl⟩)
    | (go_at_call 125;refine (HS.out _).mono ?_;rintro e w2 ⟨rfl,hk2⟩)
    | (go_at_call 171;refine (HW.out _).mono ?_;rintro e w3 ⟨rfl,rfl⟩))
   go_ret
   exact ⟨by rw[HR.out];rfl,hk2⟩
theorem share_slash {s:ByteArray} (hF:filterB s=true) (hS:isShare s.data.toList=true):(behind s.data.toList).contains 47=true:=by
 unfold filterB shareB at hF;rw[hS,if_pos rfl]at hF;simp only[Bool.and_eq_true]at hF;have hp:=plain_ne hF.2.2.2;cases hc:(behind s.data.toList).contains 47
 ·exact absurd (who_none (behind s.data.toList) (by simpa using hc)).2 hp
 ·rfl
theorem rshared_any (s:ByteArray) (w:World) (hs:s.size≤9223372036854775806) :
  Calls Tryz.prog 64 #[.string s] w fun e w'=>e=.returned (sharedV s)∧Kept No w w':=by
 have cS:=fun wx=>rshare_any s wx hs
 unfold rshareV at cS;generalize hV:sharedV s=V;unfold sharedV sharedB at hV;have cF:=fun wx=>rfilter_any s wx hs
 rcases hS:isShare s.data.toList with _|_
 ·rw[hS,if_neg (by simp)]at cS
  rw[hS,Bool.false_and,if_neg (by simp)]at hV;have HV:=Lib.hid hV;have HS:=Lib.hid cS;clear hV cS cF hS
  go_enter Tryz.func64,Tryz.ntmps64
  go_wp2_with (go_at_call 125;refine (HS.out _).mono ?_;rintro e w2 ⟨rfl,hk2⟩)
  go_ret3
  exact ⟨by rw[← HV.out];rfl,hk2⟩
 rw[hS,if_pos rfl]at cS;rw[hS,Bool.true_and]at hV;rcases hF:filterB s with _|_
 ·rw[hF]at cF
  rw[hF,if_neg (by simp)]at hV;have HV:=Lib.hid hV;have HF:=Lib.hid cF;clear hV cF;rcases hc:(behind s.data.toList).contains 47 with _|_
  ·rw[hc,if_neg (by simp)]at cS
   have HS:=Lib.hid cS;clear cS hc hS hF
   go_enter Tryz.func64,Tryz.ntmps64
   go_wp2_with (first
    | (go_at_call 125;refine (HS.out _).mono ?_;rintro e w2 ⟨rfl,hk2⟩)
    | (go_at_call 126;refine (HF.out _).mono ?_;rintro e w3 ⟨rfl,hk3⟩))
   go_ret3
   exact ⟨by rw[← HV.out];rfl,hk2.trans hk3⟩
  ·rw[hc,if_pos rfl]at cS
   generalize (⟨(whoL (behind s.data.toList)).toArray⟩:ByteArray)=u at *;generalize (⟨(whatL (behind s.data.toList)).toArray⟩:ByteArray)=v at *;have HS:=Lib.hid cS;clear cS hc hS hF
   go_enter Tryz.func64,Tryz.ntmps64
   go_wp2_with (first
    | (go_at_call 125;refine (HS.out _).mono ?_;rintro e w2 ⟨rfl,hk2⟩)
    | (go_at_call 126;refine (HF.out _).mono ?_;rintro e w3 ⟨rfl,hk3⟩))
   go_ret3
   exact ⟨by rw[← HV.out];rfl,hk2.trans hk3⟩
 ·have hc:=share_slash hF hS
  rw[hF]at cF;rw[hF,if_pos rfl]at hV;rw[hc,if_pos rfl]at cS;generalize (⟨(whoL (behind s.data.toList)).toArray⟩:ByteArray)=u at *;generalize (⟨(whatL (behind s.data.toList)).toArray⟩:ByteArray)=v at *;have HV:=Lib.hid hV;have HF:=Lib.hid cF;have HS:=Lib.hid cS;clear hV cF cS hc hS hF
  go_enter Tryz.func64,Tryz.ntmps64
  go_wp2_with (first
   | (go_at_call 125;refine (HS.out _).mono ?_;rintro e w2 ⟨rfl,hk2⟩)
   | (go_at_call 126;refine (HF.out _).mono ?_;rintro e w3 ⟨rfl,hk3⟩))
  go_ret3
  exact ⟨by rw[← HV.out];rfl,hk2.trans hk3⟩
theorem first_eq (s:ByteArray) (h:0 < s.size):s.data.toList=s[0] :: s.data.toList.drop 1:=by
 have hl:0 < s.data.toList.length:=by rw[sz_list];exact h
 have h1:s.data.toList=s.data.toList[0] :: s.data.toList.drop 1:=by
  have:=List.drop_eq_getElem_cons hl
  simpa using this
 have h2:s.data.toList[0]=s[0]:=by simp[ByteArray.getElem_eq_getElem_data]<;>rfl
 rw[h2]at h1;exact h1
theorem info_u8:(Tryz.prog.info? 5).map (fun i=>(i.zero,i.size,i.bytes))=some (some (.int .u8 0),1,1):=by kernel_rfl
def flat2 (l:List (Nat × Nat)):List Int:=l.flatMap fun p=>[(p.1:Int),(p.2:Int)]
def RSpansIs (w:World) (l:List (Nat × Nat)) (e:Ending) (w':World):Prop :=
 ∃ a,e=.returned (.slice a (2 * l.length) (2 * l.length))∧Row w' a (ints .i64 (flat2 l))∧Kept No w w'
theorem rspans_new (w:World) (t:TypeId) (l:List (Nat × Nat)) (n:Nat) (cs:List Value) (hn:n=2 * l.length) (hc:cs=ints .i64 (flat2 l)) :
  RSpansIs w l (.returned (.slice (some ⟨w.heap.size,0,none⟩) n n)) (w.alloc (.cells cs.toArray t)):=by
 subst hn hc;exact ⟨_,rfl,.of_cells (new_cells w t _ _ rfl),(Kept.refl No w).alloc _⟩
theorem rspans_none (w:World):RSpansIs w [] (.returned (.slice none 0 0)) w:=⟨none,rfl,.nil _ _,.refl _ _⟩
set_option maxRecDepth 100000 in
set_option maxHeartbeats 1000000 in
theorem rspans4_any (k:Int) (w:World):Calls Tryz.prog 147 #[.int .i64 4,.int .i64 k] w (RSpansIs w (sp4 k)):=by
 by_cases h:k=2∨k=4∨k=5∨k=6∨k=7∨k=14∨k=9
 ·rcases h with rfl|rfl|rfl|rfl|rfl|rfl|rfl
  all_goals
   go_enter Tryz.func147,Tryz.ntmps147
   go_wp2
   go_ret
   exact rspans_new w _ _ _ _ rfl rfl
 ·have e:sp4 k=[]:=by
   unfold sp4;rw[if_neg (by omega),if_neg (by omega),if_neg (by omega)]
  have b2:(k == 2)=false:=by simp;omega
  have b4:(k == 4)=false:=by simp;omega
  have b5:(k == 5)=false:=by simp;omega
  have b6:(k == 6)=false:=by simp;omega
  have b7:(k == 7)=false:=by simp;omega
  have b14:(k == 14)=false:=by simp;omega
  have b9:(k == 9)=false:=by simp;omega
  rw[e];clear e h
  go_enter Tryz.func147,Tryz.ntmps147
  go_wp2
  go_ret
  exact rspans_none w
set_option maxRecDepth 100000 in
set_option maxHeartbeats 1000000 in
theorem rspans5_any (k:Int) (w:World):Calls Tryz.prog 147 #[.int .i64 5,.int .i64 k] w (RSpansIs w (sp5 k)):=by
 by_cases h:k=2∨k=4∨k=5∨k=6∨k=7∨k=9∨k=11∨k=14∨k=15
 ·rcases h with rfl|rfl|rfl|rfl|rfl|rfl|rfl|rfl|rfl
  all_goals
   go_enter Tryz.func147,Tryz.ntmps147
   go_wp2
   go_ret
   exact rspans_new w _ _ _ _ rfl rfl
 ·have e:sp5 k=[]:=by
   unfold sp5;rw[if_neg (by omega),if_neg (by omega),if_neg (by omega),if_neg (by omega),if_neg (by omega),if_neg (by omega),if_neg (by omega)]
  have b2:(k == 2)=false:=by simp;omega
  have b4:(k == 4)=false:=by simp;omega
  have b5:(k == 5)=false:=by simp;omega
  have b6:(k == 6)=false:=by simp;omega
  have b7:(k == 7)=false:=by simp;omega
  have b9:(k == 9)=false:=by simp;omega
  have b11:(k == 11)=false:=by simp;omega
  have b14:(k == 14)=false:=by simp;omega
  have b15:(k == 15)=false:=by simp;omega
  rw[e];clear e h
  go_enter Tryz.func147,Tryz.ntmps147
  go_wp2
  go_ret
  exact rspans_none w
theorem rspans_any (v k:Int) (w:World):Calls Tryz.prog 147 #[.int .i64 v,.int .i64 k] w (RSpansIs w (sp v k)):=by
 by_cases h4:v=4
 ·subst h4
  exact rspans4_any k w
 ·by_cases h5:v=5
  ·subst h5
   exact rspans5_any k w
  ·have e:sp v k=[]:=by unfold sp;rw[if_neg h4,if_neg h5]
   have b4:(v == 4)=false:=by simpa using h4
   have b5:(v == 5)=false:=by simpa using h5
   have b5':(v != 5)=true:=by simpa using h5
   rw[e];clear e h4 h5
   go_enter Tryz.func147,Tryz.ntmps147
   go_wp2
   go_ret
   exact rspans_none w
theorem flat2_get (l:List (Nat × Nat)) (i:Nat) (h:i < l.length):(ints .i64 (flat2 l))[2 * i]?=some (.int .i64 l[i].1)∧(ints .i64 (flat2 l))[2 * i+1]?=some (.int .i64 l[i].2):=by
 induction l generalizing i with
 | nil=>simp at h
 | cons p t ih =>
  cases i with
  | zero=>simp[flat2,ints]
  | succ i =>
   have:=ih i (by simpa using h)
   rw[show 2 * (i+1)=2 * i+1+1 from by omega];simpa [flat2,ints] using this
theorem rspans_at {w:World} {a:Option Addr} {l:List (Nat × Nat)} (h:Row w a (ints .i64 (flat2 l))) (i:Nat) (hi:i < l.length) :
  ∃ b off,a=some ⟨b,off,none⟩∧w.cell? ⟨b,off+2 * i,none⟩=some (.int .i64 l[i].1)∧w.cell? ⟨b,off+(2 * i+1),none⟩=some (.int .i64 l[i].2):=by
 obtain ⟨e1,e2⟩:=flat2_get l i hi;rcases h with h|⟨b,off,ha,hb,hc⟩
 ·rw[h]at e1;simp at e1
 ·exact ⟨b,off,ha,hc _ _ e1,hc _ _ e2⟩
set_option maxRecDepth 100000 in
set_option maxHeartbeats 1000000 in
theorem rknown_any (v k:Int) (c:Nat) (w:World) (hc:c < 256) :
  Calls Tryz.prog 91 #[.int .i64 v,.int .i64 k,.int .u8 c] w fun e w'=>e=.returned (.bool (knownB (sp v k) c))∧Kept No w w':=by
 have cs:=rspans_any v k;have hl:=sp_len v k;have hg:=sp_get v k;generalize sp v k=l at *;have HS:=Lib.hid cs;have HG:=Lib.hid hg;clear cs hg
 go_enter Tryz.func91,Tryz.ntmps91
 go_wp2_with (go_at_call 147;refine (HS.out _).mono ?_;rintro e w1 ⟨a,rfl,hr,hk⟩)
 go_loopw [8] (fun i wr=>∃ j:Nat,i=.int .i64 ((2 * j:Nat):Int)∧j≤l.length∧Hid (knownB (l.take j) c=false)∧Kept No w1 wr) (fun i _=>2 * l.length - (intOf i).toNat)
 case atStart=>exact ⟨0,rfl,by omega,Lib.hid (by simp[knownB]),Kept.refl _ _⟩
 case round =>
  obtain ⟨j,rfl,hj,HN,hk1⟩:=hrel
  by_cases hlt:j < l.length
  ·obtain ⟨b,off,rfl,c1,c2⟩:=rspans_at (hr.keptNo hk1) j hlt
   have HT:=Lib.hid (known_take l c j hlt);have HO:=Lib.hid (known_of l c j hlt);generalize l[j].1=lo at *;generalize l[j].2=hi at *
   by_cases h1:lo≤c
   ·by_cases h2:hi < c
    ·have h1z:(lo:Int)≤c:=by omega
     have hd:decide ((c:Int)≤(hi:Int))=false:=by simp;omega
     have hN2:knownB (l.take (j+1)) c=false:=by rw[HT.out,HN.out];simp;omega
     have HN2:=Lib.hid hN2;clear hN2
     go_wp2
     go_roundw
     case rel=>exact ⟨j+1,by go_num,by omega,HN2,hk1⟩
     case measure=>simp[intOf];omega
    ·have h1z:(lo:Int)≤c:=by omega
     have h2z:(c:Int)≤hi:=by omega
     have hY:=Lib.hid (HO.out h1 (by omega))
     go_wp2
     go_ret
     exact ⟨by rw[hY.out];rfl,hk.trans hk1⟩
   ·have hd:decide ((lo:Int)≤(c:Int))=false:=by simp;omega
    have hN2:knownB (l.take (j+1)) c=false:=by rw[HT.out,HN.out];simp;omega
    have HN2:=Lib.hid hN2;clear hN2
    go_wp2
    go_roundw
    case rel=>exact ⟨j+1,by go_num,by omega,HN2,hk1⟩
    case measure=>simp[intOf];omega
  ·have hF:=Lib.hid (known_full l c j (by omega))
   go_wp2
   go_ret
   exact ⟨by rw[← hF.out,HN.out];rfl,hk.trans hk1⟩
end Go.Proofs.YtohmcfmcbibbcaaGreatDoor
