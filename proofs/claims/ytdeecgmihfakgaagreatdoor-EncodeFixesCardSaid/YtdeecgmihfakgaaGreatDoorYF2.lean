import Derived.Test.YtdeecgmihfakgaaGreatDoorText
import Derived.Test.YtdeecgmihfakgaaGreatDoorShelf
import Derived.Test.YtdeecgmihfakgaaGreatDoorPrp
import Derived.Lib.SplitLaws
import Derived.Lib.Split
import Derived.Lib.IndexBytes
import Derived.Lib.Hide
import Derived.Lib.DecodeN
import Derived.Laws.RangeAny
import Derived.Lib.OthersKept
import Derived.Lib.IndexAny
import Derived.Laws.Runes
import Derived.Lib.RuneBytes
import Derived.Deep.LoopGhost
import Derived.Deep.QuietTactic
import Derived.BigQuiet
import Derived.Shelf.Strings.IndexAnyAll
import Derived.WalkMore
import Derived.Shelf.Strings.Split
import Derived.Shelf.Strings.SplitCore
import Derived.Lib.CutLaws
namespace Go.Proofs.YtdeecgmihfakgaaGreatDoor
set_option maxHeartbeats 8000000
open Go.RowKit
set_option linter.unusedVariables false
set_option linter.unusedSimpArgs false
theorem Kept.of_below {w w':World} (h:Below w.heap.size w w'):Kept No w w':=⟨h.os,h.tape,h.output,h.size,λk hk _=>h.block k hk⟩
def Tabs (w:World):Prop:=Lib.Utf8Tabs (Tryz.laysValid_ren.g 3) (Tryz.laysValid_ren.g 4) w
theorem j8u {w:World} {b o:Nat} {v:Value} (h:w.cell? ⟨b,o,none⟩=some v):b<w.heap.size:=by
 rcases Nat.lt_or_ge b w.heap.size with hlt|hge
 ·exact hlt
 ·simp[World.cell?,Array.getElem?_eq_none hge]at h
theorem Tabs.kept {w w':World} (h:Tabs w) (hk:Kept No w w'):Tabs w' :=
  ⟨λc hc=>(hk.cell (p:=⟨_,c,none⟩) (j8u (h.1 c hc)) (λf=>f)).trans (h.1 c hc),
   λi hi=>⟨(hk.cell (p:=⟨_,2*i,none⟩) (j8u (h.2 i hi).1) (λf=>f)).trans (h.2 i hi).1,(hk.cell (p:=⟨_,2*i+1,none⟩) (j8u (h.2 i hi).2) (λf=>f)).trans (h.2 i hi).2⟩⟩
theorem j99 (l:List UInt8) (c:UInt8):(Lib.indexByte l c<0)↔c ∉ l:=by
 have key:∀ l:List UInt8,-1≤Lib.indexByte l c∧((Lib.indexByte l c = -1)↔c ∉ l):=by
  intro l
  induction l with
  | nil=>simp[Lib.indexByte]
  | cons b t ih =>
   unfold Lib.indexByte
   by_cases hb:b=c
   ·simp[hb]
   ·rw[if_neg (by simpa using hb)]
    by_cases ht:Lib.indexByte t c = -1
    ·rw[if_pos (by simpa using ht)]
     exact ⟨by omega,by have:=ih.2.1 ht;simp[this];exact λe=>hb e.symm⟩
    ·rw[if_neg (by simpa using ht)]
     refine ⟨by have:=ih.1;omega,?_⟩
     have h2:c∈t:=by
      rcases Decidable.em (c∈t) with h|h
      ·exact h
      ·exact absurd (ih.2.2 h) ht
     have h3:=ih.1;constructor
     ·intro e;omega
     ·intro e;simp[h2]at e
 have:=key l
 constructor
 ·intro h;exact this.2.1 (by omega)
 ·intro h;have:=this.2.2 h;omega
def q7 (s:ByteArray):Bool:=decide (s.size≤65535)&&zG s.data.toList
set_option maxRecDepth 100000 in
theorem zY (s:ByteArray) (w:World) (hs:s.size≤9223372036854775807) (hT:Tabs w) :
  Calls Tryz.prog 183 #[.string s] w λe w'=>e=.returned (.bool (q7 s))∧Kept No w w':=by
 have cV:Calls Tryz.prog 200 #[.string s] w _:=Any.utf8_ValidString Tryz.laysValid s w hs hT;have cI:=Tryz.strings_IndexByte s 0;have hz:(0:Int).toNat.toUInt8=0:=rfl;have hI:=j99 s.data.toList 0;rw[hz]at cI;have hV:Lib.validD s.data.toList=true∨Lib.validD s.data.toList=false:=by cases Lib.validD s.data.toList<;>simp
 have hC:s.data.toList.contains 0=decide (0∈s.data.toList):=by rw[Bool.eq_iff_iff,List.contains_iff_mem];simp
 unfold q7 zG;rw[hC];generalize Lib.validD s.data.toList=V at *;generalize Lib.indexByte s.data.toList 0=I at *;have HV:=Lib.hid cV;have HI:=Lib.hid cI;clear cV cI hz hC
 by_cases h0:s.size≤65535
 ·have h0z:(s.size:Int)≤65535:=by omega
  rw[decide_eq_true h0];rcases hV with rfl|rfl
  ·by_cases hi:I<0
   ·have hm:¬ (0∈s.data.toList):=hI.1 hi
    rw[decide_eq_false hm];clear hI hm h0
    go_enter Tryz.func183,Tryz.ntmps183
    go_wp2_with (first
     | (go_at_call 200;refine HV.out.mono ?_;rintro e w1 ⟨rfl,hb⟩)
     | (go_at_call 201;refine (HI.out _).mono ?_;rintro e w2 ⟨rfl,rfl⟩))
    go_ret
    exact ⟨rfl,.of_below hb⟩
   ·have hm:0∈s.data.toList:=Decidable.of_not_not λh=>hi (hI.2 h)
    rw[decide_eq_true hm];have hi':0≤I:=by omega
    have hd:decide (I<0)=false:=decide_eq_false hi;clear hI hm h0 hi
    go_enter Tryz.func183,Tryz.ntmps183
    go_wp2_with (first
     | (go_at_call 200;refine HV.out.mono ?_;rintro e w1 ⟨rfl,hb⟩)
     | (go_at_call 201;refine (HI.out _).mono ?_;rintro e w2 ⟨rfl,rfl⟩))
    go_ret
    exact ⟨by first|rfl|(show Ending.returned (.bool (decide (I<0)))=_;rw[hd];rfl),.of_below hb⟩
  ·clear hI h0
   go_enter Tryz.func183,Tryz.ntmps183
   go_wp2_with (first
    | (go_at_call 200;refine HV.out.mono ?_;rintro e w1 ⟨rfl,hb⟩))
   go_ret
   exact ⟨rfl,.of_below hb⟩
 ·have h0z:(65535:Int)<s.size:=by omega
  rw[decide_eq_false h0];clear hI h0 hV
  go_enter Tryz.func183,Tryz.ntmps183
  go_wp2
  go_ret
  exact ⟨rfl,Kept.refl _ _⟩
def zy (s:ByteArray):Int:=if q7 s then (Lib.runeCountL s.data.toList:Nat) else -1
theorem jCk (s:ByteArray) (k:Nat) (h:k<s.size) (hz:xG s k≠0):1≤xG s k∧k+xG s k≤s.size:=by
 have:=j8g (s.data.toList.drop k) (by intro h0;have:=congrArg List.length h0;rw[List.length_drop,qQ]at this;simp at this;omega) hz
 rw[List.length_drop,qQ]at this;unfold xG at *;omega
set_option maxRecDepth 100000 in
theorem j9h (s:ByteArray) (w:World) (hs:s.size≤9223372036854775807) :
    Calls Tryz.prog 172 #[.string s] w λe w'=>e=.returned (.int .i64 (zy s))∧w=w':=by
  by_cases h0:s.size≤65535
  · have hR:zy s=match j68 s.size s.data.toList with|some n=>(n:Int)|none=>-1:=by
      rw[j3t _ _ (by rw[qQ];omega)];unfold zy q7;rw[decide_eq_true h0,Bool.true_and]
      split<;>simp_all
    generalize hX:j68 s.size s.data.toList=X at hR;have HX:=Lib.hid hX;have HR:=Lib.hid hR;have h0z:(s.size:Int)≤65535:=by omega
    clear hX hR
    go_enter Tryz.func172,Tryz.ntmps172
    go_wp2
    go_loop [3,4] (λn i=>∃ k c f:Nat,k≤s.size∧i=.int .i64 k∧n=.int .i64 c∧c≤k∧s.size≤k+f∧(j68 f (s.data.toList.drop k)).map (·+c)=X) (λ_ i=>s.size - (intOf i).toNat)
    case atStart=>exact ⟨0,0,s.size,by omega,rfl,rfl,by omega,by omega,by rw[List.drop_zero,HX.out];cases X<;>rfl⟩
    case round =>
      obtain ⟨k,c,f,hk,rfl,rfl,hck,hf,hcnt⟩:=hrel;have HCN:=Lib.hid hcnt;clear hcnt HX
      by_cases hlt:k<s.size
      · have hne:s.data.toList.drop k≠[]:=by intro hx;have:=congrArg List.length hx;rw[List.length_drop,qQ]at this;simp at this;omega
        obtain ⟨f',rfl⟩:∃ f',f=f'+1:=⟨f - 1,by omega⟩
        have hcn:=HCN.out;rw[j68,if_neg hne]at hcn;have hfac:=jCk s k hlt;have hsgn:=jHy s k w hlt h0;have hsg:sgL (s.data.toList.drop k)=xG s k:=rfl;rw[hsg]at hcn;have hltI:(k:Int)<s.size:=by omega
        have HS:=Lib.hid hsgn;have HF:=Lib.hid hfac;have HCN2:=Lib.hid hcn;clear hsgn hsg HCN hcn hne hfac;generalize xG s k=z at *
        by_cases hz:z=0
        · subst hz
          have hcn:=HCN2.out;rw[if_pos rfl]at hcn;have HX:=Lib.hid hcn;clear hcn HCN2 HF
          go_wp2_with (go_at_call 195;refine HS.out.mono ?_;rintro e w1 ⟨⟨nn,rfl⟩,rfl⟩)
          go_ret
          exact ⟨by rw[HR.out,← HX.out];rfl,rfl⟩
        · have hcn:=HCN2.out
          rw[if_neg hz]at hcn;have HX:=Lib.hid hcn;have hf1:=(HF.out hz).1;have hf2:=(HF.out hz).2;have hzb:((z:Int) == 0)=false:=by simp;omega
          clear hcn HCN2 HF hz
          go_wp2_with (go_at_call 195;refine HS.out.mono ?_;rintro e w1 ⟨⟨nn,rfl⟩,rfl⟩)
          go_round
          case rel=>exact ⟨k+z,c+1,f',by omega,by go_num,by go_num,by omega,by omega,by rw[← HX.out,List.drop_drop];cases j68 f' (s.data.toList.drop (k+z))<;>simp[Nat.add_comm,Nat.add_left_comm]⟩
          case measure=>simp[intOf];omega
      · have hge:(s.size:Int)≤k:=by omega
        have hX:X=some c:=by
          rw[← HCN.out,List.drop_eq_nil_of_le (by rw[qQ];omega)];cases f<;>simp[j68]
        have HX:=Lib.hid hX;clear hX HCN
        go_wp2
        go_ret
        exact ⟨by rw[HR.out,HX.out];rfl,rfl⟩
  · have h0z:(65535:Int)<s.size:=by omega
    have hR:zy s = -1:=by unfold zy q7;rw[decide_eq_false h0];simp
    have HR:=Lib.hid hR;clear hR h0
    go_enter Tryz.func172,Tryz.ntmps172
    go_wp2
    go_ret
    exact ⟨by rw[HR.out];rfl,rfl⟩
theorem xU (s:ByteArray) (w:World) (hs:s.size≤9223372036854775807) :
  Calls Tryz.prog 133 #[.string s] w λe w'=>e=.returned (.bool (q7 s))∧w=w':=by
 have cR:=j9h s w hs;have hd:q7 s=decide (0≤zy s):=by unfold zy;cases q7 s<;>simp
 rw[hd];generalize zy s=X at *;have HR:=Lib.hid cR;clear cR hd
 by_cases h:0≤X
 ·rw[decide_eq_true h]
  go_enter Tryz.func133,Tryz.ntmps133
  go_wp2_with (go_at_call 172;refine HR.out.mono ?_;rintro e w1 ⟨rfl,rfl⟩)
  go_ret
  exact ⟨rfl,rfl⟩
 ·rw[decide_eq_false h]
  have h':X<0:=by omega
  have hd:decide (0≤X)=false:=decide_eq_false h
  go_enter Tryz.func133,Tryz.ntmps133
  go_wp2_with (go_at_call 172;refine HR.out.mono ?_;rintro e w1 ⟨rfl,rfl⟩)
  go_ret
  exact ⟨by first|rfl|(show Ending.returned (.bool (decide (0≤X)))=_;rw[hd]),rfl⟩
def xq (a b:ByteArray):Bool:=a.toList.isEmpty&&b.toList.isEmpty
def j1a (n most:Nat) (a b:ByteArray):Bool:=decide (n≤most)&&xq a b
set_option maxRecDepth 100000 in
theorem jC8 (id n most:Nat) (a b:ByteArray) (w:World) :
  Calls Tryz.prog 208 #[.agg #[.int .u8 id,.int .u32 n,.string a,.string b],.int .u32 most] w λe w'=>e=.returned (.bool (j1a n most a b))∧Kept No w w':=by
 unfold j1a xq;generalize hB:(decide (n≤most)&&(a.toList.isEmpty&&b.toList.isEmpty))=B
 by_cases h1:n≤most
 ·have h1z:(n:Int)≤most:=by omega
  rcases ha:a.toList.isEmpty with _|_
  ·have HB:Hid (B=false):=Lib.hid (by rw[← hB,ha];simp)
   clear hB
   go_enter Tryz.func208,Tryz.ntmps208
   go_wp2
   go_ret
   exact ⟨by rw[HB.out];rfl,(Kept.refl No w).alloc _⟩
  ·have HB:Hid (B=b.toList.isEmpty):=Lib.hid (by rw[← hB,ha,decide_eq_true h1];simp)
   clear hB
   go_enter Tryz.func208,Tryz.ntmps208
   go_wp2
   go_ret
   exact ⟨by rw[HB.out];rfl,(Kept.refl No w).alloc _⟩
 ·have h1z:(most:Int)<n:=by omega
  have hd:decide ((n:Int)≤(most:Int))=false:=by simp;omega
  have HB:Hid (B=false):=Lib.hid (by rw[← hB,decide_eq_false h1];simp);clear hB
  go_enter Tryz.func208,Tryz.ntmps208
  go_wp2
  go_ret
  exact ⟨by rw[HB.out];rfl,(Kept.refl No w).alloc _⟩
def qa (t n:Nat) (a b:ByteArray):Bool :=
 if t=1 then j1a n 255 a b
 else if t=2 then j1a n 65535 a b
 else if t=3 then j1a n 4294967295 a b
 else if t=4 then j1a n 268435455 a b
 else if t=5 then decide (n=0)&&(q7 a&&b.toList.isEmpty)
 else if t=6 then decide (n=0)&&(decide (a.size≤65535)&&b.toList.isEmpty)
 else if t=7 then decide (n=0)&&(q7 a&&q7 b)
 else false
def xu (id n:Nat) (a b:ByteArray):Bool:=qa (qD id) n a b
theorem qR {w w':World} {t:TypeId} {cs:Array Value} (hk:Kept No (w.alloc (.cells cs t)) w') (i:Nat):w'.cell? ⟨w.heap.size,i,none⟩=cs[i]? :=
 ((Blk.new w t cs).kept hk (λf=>f)).cell i
set_option maxRecDepth 100000 in
theorem j76 (id n:Nat) (a b:ByteArray) (w:World) (hT:Tabs w) (h8:id<256) (hn:n<4294967296) (ha:a.size≤9223372036854775807) (hb:b.size≤9223372036854775807) :
  Calls Tryz.prog 189 #[.agg #[.int .u8 id,.int .u32 n,.string a,.string b]] w λe w'=>e=.returned (.bool (xu id n a b))∧Kept No w w':=by
 have cT:=j7k id;have ht:=zn id;unfold xu;generalize qD id=t at *;have HT:=Lib.hid cT;clear cT;have HN:=Lib.hid (λmost wx=>jC8 id n most a b wx);rcases (show t=0∨t=1∨t=2∨t=3∨t=4∨t=5∨t=6∨t=7 from by omega) with rfl|rfl|rfl|rfl|rfl|rfl|rfl|rfl
 ·go_enter Tryz.func189,Tryz.ntmps189
  go_wp2_with (go_at_call 196;refine (HT.out _).mono ?_;rintro e w1 ⟨rfl,rfl⟩)
  go_ret
  exact ⟨rfl,(Kept.refl No w).alloc _⟩
 ·have HM:=Lib.hid (λwx=>(HN.out 255 wx))
  generalize hR:qa 1 n a b=R;have HR:=Lib.hid hR;clear hR
  go_enter Tryz.func189,Tryz.ntmps189
  go_wp2_with (first
   | (go_at_call 196;refine (HT.out _).mono ?_;rintro e w1 ⟨rfl,rfl⟩)
   | (go_at_call 208;refine (HM.out _).mono ?_;rintro e w2 ⟨rfl,hk2⟩))
  go_ret
  exact ⟨by rw[← HR.out];rfl,((Kept.refl No w).alloc _).trans hk2⟩
 ·have HM:=Lib.hid (λwx=>(HN.out 65535 wx))
  generalize hR:qa 2 n a b=R;have HR:=Lib.hid hR;clear hR
  go_enter Tryz.func189,Tryz.ntmps189
  go_wp2_with (first
   | (go_at_call 196;refine (HT.out _).mono ?_;rintro e w1 ⟨rfl,rfl⟩)
   | (go_at_call 208;refine (HM.out _).mono ?_;rintro e w2 ⟨rfl,hk2⟩))
  go_ret
  exact ⟨by rw[← HR.out];rfl,((Kept.refl No w).alloc _).trans hk2⟩
 ·have HM:=Lib.hid (λwx=>(HN.out 4294967295 wx))
  generalize hR:qa 3 n a b=R;have HR:=Lib.hid hR;clear hR
  go_enter Tryz.func189,Tryz.ntmps189
  go_wp2_with (first
   | (go_at_call 196;refine (HT.out _).mono ?_;rintro e w1 ⟨rfl,rfl⟩)
   | (go_at_call 208;refine (HM.out _).mono ?_;rintro e w2 ⟨rfl,hk2⟩))
  go_ret
  exact ⟨by rw[← HR.out];rfl,((Kept.refl No w).alloc _).trans hk2⟩
 ·have HM:=Lib.hid (λwx=>(HN.out 268435455 wx))
  generalize hR:qa 4 n a b=R;have HR:=Lib.hid hR;clear hR
  go_enter Tryz.func189,Tryz.ntmps189
  go_wp2_with (first
   | (go_at_call 196;refine (HT.out _).mono ?_;rintro e w1 ⟨rfl,rfl⟩)
   | (go_at_call 208;refine (HM.out _).mono ?_;rintro e w2 ⟨rfl,hk2⟩))
  go_ret
  exact ⟨by rw[← HR.out];rfl,((Kept.refl No w).alloc _).trans hk2⟩
 ·generalize hR:qa 5 n a b=R
  by_cases h0:n=0
  ·subst h0
   have cO:=λwx hT=>zY a wx ha hT
   rcases hO:q7 a with _|_
   ·rw[hO]at cO
    have HO:=Lib.hid cO;have HR:Hid (R=false):=Lib.hid (by rw[← hR];unfold qa;simp[hO]);clear hR cO hO
    go_enter Tryz.func189,Tryz.ntmps189
    go_wp2_with (first
     | (go_at_call 196;refine (HT.out _).mono ?_;rintro e w1 ⟨rfl,rfl⟩)
     | (go_at_call 183;refine (HO.out _ (hT.kept ((Kept.refl No w).alloc _))).mono ?_;rintro e w2 ⟨rfl,hk2⟩;have hc3:=qR hk2 3;simp at hc3))
    go_ret
    exact ⟨by rw[HR.out];rfl,((Kept.refl No w).alloc _).trans hk2⟩
   ·rw[hO]at cO
    have HO:=Lib.hid cO;have HR:Hid (R=b.toList.isEmpty):=Lib.hid (by rw[← hR];unfold qa;simp[hO]);clear hR cO hO
    go_enter Tryz.func189,Tryz.ntmps189
    go_wp2_with (first
     | (go_at_call 196;refine (HT.out _).mono ?_;rintro e w1 ⟨rfl,rfl⟩)
     | (go_at_call 183;refine (HO.out _ (hT.kept ((Kept.refl No w).alloc _))).mono ?_;rintro e w2 ⟨rfl,hk2⟩;have hc3:=qR hk2 3;simp at hc3))
    go_ret
    exact ⟨by rw[HR.out];rfl,((Kept.refl No w).alloc _).trans hk2⟩
  ·have HR:Hid (R=false):=Lib.hid (by rw[← hR];unfold qa;simp[h0])
   have hz:((n:Int) == 0)=false:=by simp;omega
   clear hR h0
   go_enter Tryz.func189,Tryz.ntmps189
   go_wp2_with (go_at_call 196;refine (HT.out _).mono ?_;rintro e w1 ⟨rfl,rfl⟩)
   go_ret
   exact ⟨by rw[HR.out];rfl,(Kept.refl No w).alloc _⟩
 ·generalize hR:qa 6 n a b=R
  by_cases h0:n=0
  ·subst h0
   by_cases hs:a.size≤65535
   ·have HR:Hid (R=b.toList.isEmpty):=Lib.hid (by rw[← hR];unfold qa;simp[hs])
    have hsz:(a.size:Int)≤65535:=by omega
    clear hR
    go_enter Tryz.func189,Tryz.ntmps189
    go_wp2_with (go_at_call 196;refine (HT.out _).mono ?_;rintro e w1 ⟨rfl,rfl⟩)
    go_ret
    exact ⟨by rw[HR.out];rfl,(Kept.refl No w).alloc _⟩
   ·have HR:Hid (R=false):=Lib.hid (by rw[← hR];unfold qa;simp[hs])
    have hsz:(65535:Int)<a.size:=by omega
    have hd:decide ((a.size:Int)≤65535)=false:=by simp;omega
    clear hR
    go_enter Tryz.func189,Tryz.ntmps189
    go_wp2_with (go_at_call 196;refine (HT.out _).mono ?_;rintro e w1 ⟨rfl,rfl⟩)
    go_ret
    exact ⟨by rw[HR.out];rfl,(Kept.refl No w).alloc _⟩
  ·have HR:Hid (R=false):=Lib.hid (by rw[← hR];unfold qa;simp[h0])
   have hz:((n:Int) == 0)=false:=by simp;omega
   clear hR h0
   go_enter Tryz.func189,Tryz.ntmps189
   go_wp2_with (go_at_call 196;refine (HT.out _).mono ?_;rintro e w1 ⟨rfl,rfl⟩)
   go_ret
   exact ⟨by rw[HR.out];rfl,(Kept.refl No w).alloc _⟩
 ·generalize hR:qa 7 n a b=R
  by_cases h0:n=0
  ·subst h0
   have cO:=λwx hT=>zY a wx ha hT
   have cP:=Lib.hid (λwx hT=>zY b wx hb hT);rcases hO:q7 a with _|_
   ·rw[hO]at cO
    have HO:=Lib.hid cO;have HR:Hid (R=false):=Lib.hid (by rw[← hR];unfold qa;simp[hO]);clear hR cO hO
    go_enter Tryz.func189,Tryz.ntmps189
    go_wp2_with (first
     | (go_at_call 196;refine (HT.out _).mono ?_;rintro e w1 ⟨rfl,rfl⟩)
     | (go_at_call 183;refine (HO.out _ (hT.kept ((Kept.refl No w).alloc _))).mono ?_;rintro e w2 ⟨rfl,hk2⟩;have hc3:=qR hk2 3;simp at hc3))
    go_ret
    exact ⟨by rw[HR.out];rfl,((Kept.refl No w).alloc _).trans hk2⟩
   ·rw[hO]at cO
    have HO:=Lib.hid cO;have HR:Hid (R=q7 b):=Lib.hid (by rw[← hR];unfold qa;simp[hO]);clear hR cO hO;generalize q7 b=B at *
    go_enter Tryz.func189,Tryz.ntmps189
    go_wp2_with (first
     | (go_at_call 196;refine (HT.out _).mono ?_;rintro e w1 ⟨rfl,rfl⟩)
     | (go_at_call 183;with_reducible refine (HO.out _ (hT.kept ((Kept.refl No w).alloc _))).mono ?_;rintro e w2 ⟨rfl,hk2⟩;have hc3:=qR hk2 3;simp at hc3)
     | (go_at_call 183;refine (cP.out _ ((hT.kept ((Kept.refl No w).alloc _)).kept hk2)).mono ?_;rintro e w3 ⟨rfl,hk3⟩))
    go_ret
    exact ⟨by rw[HR.out];rfl,(((Kept.refl No w).alloc _).trans hk2).trans hk3⟩
  ·have HR:Hid (R=false):=Lib.hid (by rw[← hR];unfold qa;simp[h0])
   have hz:((n:Int) == 0)=false:=by simp;omega
   clear hR h0
   go_enter Tryz.func189,Tryz.ntmps189
   go_wp2_with (go_at_call 196;refine (HT.out _).mono ?_;rintro e w1 ⟨rfl,rfl⟩)
   go_ret
   exact ⟨by rw[HR.out];rfl,(Kept.refl No w).alloc _⟩
set_option maxRecDepth 100000 in
theorem j7c (id n:Nat) (a b:ByteArray) (w:World) (h8:id<256) (hn:n<4294967296) (ha:a.size≤9223372036854775807) (hb:b.size≤9223372036854775807) :
  Calls Tryz.prog 162 #[.agg #[.int .u8 id,.int .u32 n,.string a,.string b]] w λe w'=>e=.returned (.bool (xu id n a b))∧Kept No w w':=by
 have cT:=xW id;have ht:=zn id;unfold xu;generalize qD id=t at *;have HT:=Lib.hid cT;clear cT;have hle:n≤4294967295:=by omega
 rcases hea:a.toList.isEmpty with _|_<;>rcases heb:b.toList.isEmpty with _|_
 all_goals
  generalize hR:qa t n a b=R;rcases (show t=0∨t=1∨t=2∨t=3∨t=4∨t=5∨t=6∨t=7 from by omega) with rfl|rfl|rfl|rfl|rfl|rfl|rfl|rfl
  ·have HR:Hid (R=false):=Lib.hid (by rw[← hR];unfold qa j1a xq;simp[])
   clear hR
   go_enter Tryz.func162,Tryz.ntmps162
   go_wp2_with (go_at_call 139;refine (HT.out _).mono ?_;rintro e w1 ⟨rfl,rfl⟩)
   go_ret
   exact ⟨by rw[HR.out];rfl,(Kept.refl No w).alloc _⟩
  ·by_cases hl:n<256
   ·have hz:(n:Int)<256:=by omega
    have HR:Hid (R=(a.toList.isEmpty&&b.toList.isEmpty)):=Lib.hid (by rw[← hR];unfold qa j1a xq;simp[show n≤255 from by omega]);rw[hea,heb]at HR;clear hR
    go_enter Tryz.func162,Tryz.ntmps162
    go_wp2_with (go_at_call 139;refine (HT.out _).mono ?_;rintro e w1 ⟨rfl,rfl⟩)
    go_ret
    exact ⟨by rw[HR.out];rfl,(Kept.refl No w).alloc _⟩
   ·have hz:decide ((n:Int)<256)=false:=by simp;omega
    have HR:Hid (R=false):=Lib.hid (by rw[← hR];unfold qa j1a xq;simp[show ¬ n≤255 from by omega]);clear hR
    go_enter Tryz.func162,Tryz.ntmps162
    go_wp2_with (go_at_call 139;refine (HT.out _).mono ?_;rintro e w1 ⟨rfl,rfl⟩)
    go_ret
    exact ⟨by rw[HR.out];rfl,(Kept.refl No w).alloc _⟩
  ·by_cases hl:n<65536
   ·have hz:(n:Int)<65536:=by omega
    have HR:Hid (R=(a.toList.isEmpty&&b.toList.isEmpty)):=Lib.hid (by rw[← hR];unfold qa j1a xq;simp[show n≤65535 from by omega]);rw[hea,heb]at HR;clear hR
    go_enter Tryz.func162,Tryz.ntmps162
    go_wp2_with (go_at_call 139;refine (HT.out _).mono ?_;rintro e w1 ⟨rfl,rfl⟩)
    go_ret
    exact ⟨by rw[HR.out];rfl,(Kept.refl No w).alloc _⟩
   ·have hz:decide ((n:Int)<65536)=false:=by simp;omega
    have HR:Hid (R=false):=Lib.hid (by rw[← hR];unfold qa j1a xq;simp[show ¬ n≤65535 from by omega]);clear hR
    go_enter Tryz.func162,Tryz.ntmps162
    go_wp2_with (go_at_call 139;refine (HT.out _).mono ?_;rintro e w1 ⟨rfl,rfl⟩)
    go_ret
    exact ⟨by rw[HR.out];rfl,(Kept.refl No w).alloc _⟩
  ·have HR:Hid (R=(a.toList.isEmpty&&b.toList.isEmpty)):=Lib.hid (by rw[← hR];unfold qa j1a xq;simp[hle])
   rw[hea,heb]at HR;clear hR hle
   go_enter Tryz.func162,Tryz.ntmps162
   go_wp2_with (go_at_call 139;refine (HT.out _).mono ?_;rintro e w1 ⟨rfl,rfl⟩)
   go_ret
   exact ⟨by rw[HR.out];rfl,(Kept.refl No w).alloc _⟩
  ·by_cases hl:n<268435456
   ·have hz:(n:Int)<268435456:=by omega
    have HR:Hid (R=(a.toList.isEmpty&&b.toList.isEmpty)):=Lib.hid (by rw[← hR];unfold qa j1a xq;simp[show n≤268435455 from by omega]);rw[hea,heb]at HR;clear hR hle
    go_enter Tryz.func162,Tryz.ntmps162
    go_wp2_with (go_at_call 139;refine (HT.out _).mono ?_;rintro e w1 ⟨rfl,rfl⟩)
    go_ret
    exact ⟨by rw[HR.out];rfl,(Kept.refl No w).alloc _⟩
   ·have hz:decide ((n:Int)<268435456)=false:=by simp;omega
    have HR:Hid (R=false):=Lib.hid (by rw[← hR];unfold qa j1a xq;simp[show ¬ n≤268435455 from by omega]);clear hR hle
    go_enter Tryz.func162,Tryz.ntmps162
    go_wp2_with (go_at_call 139;refine (HT.out _).mono ?_;rintro e w1 ⟨rfl,rfl⟩)
    go_ret
    exact ⟨by rw[HR.out];rfl,(Kept.refl No w).alloc _⟩
  ·by_cases h0:n=0
   ·subst h0
    have cO:=λwx=>xU a wx ha
    rcases hO:q7 a with _|_
    ·rw[hO]at cO
     have HO:=Lib.hid cO;have HR:Hid (R=false):=Lib.hid (by rw[← hR];unfold qa;simp[hO]);clear hR cO hO
     go_enter Tryz.func162,Tryz.ntmps162
     go_wp2_with (first
      | (go_at_call 139;refine (HT.out _).mono ?_;rintro e w1 ⟨rfl,rfl⟩)
      | (go_at_call 133;refine (HO.out _).mono ?_;rintro e w2 ⟨rfl,rfl⟩))
     go_ret
     exact ⟨by rw[HR.out];rfl,(Kept.refl No w).alloc _⟩
    ·rw[hO]at cO
     have HO:=Lib.hid cO;have HR:Hid (R=b.toList.isEmpty):=Lib.hid (by rw[← hR];unfold qa;simp[hO]);rw[heb]at HR;clear hR cO hO
     go_enter Tryz.func162,Tryz.ntmps162
     go_wp2_with (first
      | (go_at_call 139;refine (HT.out _).mono ?_;rintro e w1 ⟨rfl,rfl⟩)
      | (go_at_call 133;refine (HO.out _).mono ?_;rintro e w2 ⟨rfl,rfl⟩))
     go_ret
     exact ⟨by rw[HR.out];rfl,(Kept.refl No w).alloc _⟩
   ·have HR:Hid (R=false):=Lib.hid (by rw[← hR];unfold qa;simp[h0])
    have hz:((n:Int) == 0)=false:=by simp;omega
    clear hR h0
    go_enter Tryz.func162,Tryz.ntmps162
    go_wp2_with (go_at_call 139;refine (HT.out _).mono ?_;rintro e w1 ⟨rfl,rfl⟩)
    go_ret
    exact ⟨by rw[HR.out];rfl,(Kept.refl No w).alloc _⟩
  ·by_cases h0:n=0
   ·subst h0
    by_cases hs:a.size≤65535
    ·have HR:Hid (R=b.toList.isEmpty):=Lib.hid (by rw[← hR];unfold qa;simp[hs])
     have hsz:(a.size:Int)≤65535:=by omega
     rw[heb]at HR;clear hR
     go_enter Tryz.func162,Tryz.ntmps162
     go_wp2_with (go_at_call 139;refine (HT.out _).mono ?_;rintro e w1 ⟨rfl,rfl⟩)
     go_ret
     exact ⟨by rw[HR.out];rfl,(Kept.refl No w).alloc _⟩
    ·have HR:Hid (R=false):=Lib.hid (by rw[← hR];unfold qa;simp[hs])
     have hsz:(65535:Int)<a.size:=by omega
     have hd:decide ((a.size:Int)≤65535)=false:=by simp;omega
     clear hR
     go_enter Tryz.func162,Tryz.ntmps162
     go_wp2_with (go_at_call 139;refine (HT.out _).mono ?_;rintro e w1 ⟨rfl,rfl⟩)
     go_ret
     exact ⟨by rw[HR.out];rfl,(Kept.refl No w).alloc _⟩
   ·have HR:Hid (R=false):=Lib.hid (by rw[← hR];unfold qa;simp[h0])
    have hz:((n:Int) == 0)=false:=by simp;omega
    clear hR h0
    go_enter Tryz.func162,Tryz.ntmps162
    go_wp2_with (go_at_call 139;refine (HT.out _).mono ?_;rintro e w1 ⟨rfl,rfl⟩)
    go_ret
    exact ⟨by rw[HR.out];rfl,(Kept.refl No w).alloc _⟩
  ·by_cases h0:n=0
   ·subst h0
    have cO:=λwx=>xU a wx ha
    have HP:=Lib.hid (λwx=>xU b wx hb);rcases hO:q7 a with _|_
    ·rw[hO]at cO
     have HO:=Lib.hid cO;have HR:Hid (R=false):=Lib.hid (by rw[← hR];unfold qa;simp[hO]);clear hR cO hO
     go_enter Tryz.func162,Tryz.ntmps162
     go_wp2_with (first
      | (go_at_call 139;refine (HT.out _).mono ?_;rintro e w1 ⟨rfl,rfl⟩)
      | (go_at_call 133;with_reducible refine (HO.out _).mono ?_;rintro e w2 ⟨rfl,rfl⟩))
     go_ret
     exact ⟨by rw[HR.out];rfl,(Kept.refl No w).alloc _⟩
    ·rw[hO]at cO
     have HO:=Lib.hid cO;have HR:Hid (R=q7 b):=Lib.hid (by rw[← hR];unfold qa;simp[hO]);clear hR cO hO;generalize q7 b=B at *
     go_enter Tryz.func162,Tryz.ntmps162
     go_wp2_with (first
      | (go_at_call 139;refine (HT.out _).mono ?_;rintro e w1 ⟨rfl,rfl⟩)
      | (go_at_call 133;with_reducible refine (HO.out _).mono ?_;rintro e w2 ⟨rfl,rfl⟩)
      | (go_at_call 133;refine (HP.out _).mono ?_;rintro e w2 ⟨rfl,rfl⟩))
     go_ret
     exact ⟨by rw[HR.out];rfl,(Kept.refl No w).alloc _⟩
   ·have HR:Hid (R=false):=Lib.hid (by rw[← hR];unfold qa;simp[h0])
    have hz:((n:Int) == 0)=false:=by simp;omega
    clear hR h0
    go_enter Tryz.func162,Tryz.ntmps162
    go_wp2_with (go_at_call 139;refine (HT.out _).mono ?_;rintro e w1 ⟨rfl,rfl⟩)
    go_ret
    exact ⟨by rw[HR.out];rfl,(Kept.refl No w).alloc _⟩
def lev:List UInt8→List (List UInt8)
 | []=>[[]]
 | b :: t=>if b=47 then [] :: lev t else match lev t with
  | []=>[[b]]
  | h :: r=>(b :: h) :: r
theorem j47 (p:List UInt8) (h:47 ∉ p):lev p=[p]:=by
 induction p with
 | nil=>rfl
 | cons b t ih =>
  have hb:¬ b=47:=λe=>h (by simp[e])
  rw[lev,if_neg hb,ih (λhm=>h (List.mem_cons_of_mem _ hm))]
theorem j9b (p q:List UInt8) (h:47 ∉ p):lev (p++47 :: q)=p :: lev q:=by
 induction p with
 | nil=>rw[List.nil_append,lev,if_pos rfl]
 | cons b t ih =>
  have hb:¬ b=47:=λe=>h (by simp[e])
  rw[List.cons_append,lev,if_neg hb,ih (λhm=>h (List.mem_cons_of_mem _ hm))]
theorem jDg (l:List UInt8):(lev l).length≤l.length+1:=by
 induction l with
 | nil=>simp[lev]
 | cons b t ih =>
  rw[lev]
  split
  ·simp;omega
  ·split
   ·simp
   ·rename_i e;rw[e]at ih;simp at ih ⊢;omega
theorem jDh (l x:List UInt8) (h:x∈lev l):x.length≤l.length:=by
 induction l generalizing x with
 | nil=>simp[lev]at h;simp[h]
 | cons b t ih =>
  rw[lev]at h
  split at h
  ·rcases List.mem_cons.1 h with rfl|h
   ·simp
   ·have:=ih x h;simp;omega
  ·split at h
   ·simp at h;simp[h]
   ·rename_i e
    rcases List.mem_cons.1 h with rfl|h
    ·rename_i hh rr;have:=ih hh (by rw[e];simp);simp;omega
    ·have:=ih x (by rw[e];simp[h]);simp;omega
theorem j36 (c:UInt8):∀ (l:List UInt8) (i:Nat),Lib.indexByte l c=i→c ∉ l.take i∧l=l.take i++c :: l.drop (i+1):=by
 intro l
 induction l with
 | nil=>intro i h;simp[Lib.indexByte]at h
 | cons b t ih =>
  intro i h;unfold Lib.indexByte at h
  by_cases hb:b=c
  ·rw[if_pos (by simpa using hb)]at h
   have:i=0:=by omega
   subst this hb;simp
  ·rw[if_neg (by simpa using hb)]at h
   split at h
   ·omega
   ·obtain ⟨i',rfl⟩:∃ i',i=i'+1:=⟨i - 1,by
     rename_i hm
     have:Lib.indexByte t c≠-1:=by simpa using hm
     by_cases h0:i=0
     ·subst h0;exact absurd (by omega) this
     ·omega⟩
    have:=ih i' (by omega)
    refine ⟨by simp[this.1];exact λe=>hb e.symm,?_⟩;simp only[List.take_succ_cons,List.drop_succ_cons,List.cons_append];rw[← this.2]
theorem j2c (c:UInt8) (l:List UInt8):Lib.indexByte l c = -1↔c ∉ l:=by
 induction l with
 | nil=>simp[Lib.indexByte]
 | cons b t ih =>
  unfold Lib.indexByte
  by_cases hb:b=c
  ·simp[hb]
  ·rw[if_neg (by simpa using hb)]
   by_cases hm:Lib.indexByte t c = -1
   ·rw[if_pos (by simpa using hm)]
    have:=ih.1 hm
    simp[this];exact λe=>hb e.symm
   ·rw[if_neg (by simpa using hm)]
    have h1:c∈t:=Decidable.of_not_not λh=>hm (ih.2 h)
    constructor
    ·intro h
     rw[← Lib.index_one]at h
     have:=Lib.index_ge t [c]
     omega
    ·intro h;simp[h1]at h
theorem jCp:∀ (k:Nat) (l:List UInt8),l.count 47≤k→Lib.splitK [47] 0 k l=lev l:=by
 intro k
 induction k with
 | zero =>
  intro l h;have hn:47 ∉ l:=List.count_eq_zero.1 (by omega);rw[j47 l hn]
  rfl
 | succ k ih =>
  intro l h;unfold Lib.splitK;rw[Lib.index_one]
  by_cases hm:Lib.indexByte l 47 = -1
  ·rw[if_pos (by simpa using hm),j47 l ((j2c 47 l).1 hm)]
  ·rw[if_neg (by simpa using hm)]
   have hge:=Lib.index_ge l [47];rw[Lib.index_one]at hge;obtain ⟨i,hi⟩:∃ i:Nat,Lib.indexByte l 47=i:=⟨(Lib.indexByte l 47).toNat,by omega⟩
   obtain ⟨h1,h2⟩:=j36 47 l i hi;rw[hi,Int.toNat_natCast]
   have hc:(l.drop (i+1)).count 47≤k:=by
    have:l.count 47=(l.take i).count 47+(1+(l.drop (i+1)).count 47):=by
     conv=>lhs;rw[h2]
     rw[List.count_append,List.count_cons];simp;omega
    omega
   rw[show i+([47]:List UInt8).length=i+1 from rfl,Nat.add_zero,ih _ hc]
   conv=>rhs;rw[h2]
   rw[j9b _ _ h1]
def xg (r:List UInt8):List UInt8:=r.takeWhile (· != 47)
def vV (r:List UInt8):List UInt8:=(r.dropWhile (· != 47)).drop 1
theorem j62 (p q:List UInt8) (h:47 ∉ p):xg (p++47 :: q)=p∧vV (p++47 :: q)=q:=by
 have hp:∀ a∈p,(a != 47)=true:=λa ha=>by
  have:a≠47:=λe=>h (by rw[← e];exact ha)
  simpa using this
 constructor
 ·unfold xg
  rw[List.takeWhile_append_of_pos hp];simp
 ·unfold vV
  rw[List.dropWhile_append_of_pos hp];simp
theorem j4k (p:List UInt8) (h:47 ∉ p):xg p=p∧vV p=[]:=by
 have hp:∀ a∈p,(a != 47)=true:=λa ha=>by
  have:a≠47:=λe=>h (by rw[← e];exact ha)
  simpa using this
 constructor
 ·unfold xg
  have:=List.takeWhile_append_of_pos (l₂:=[]) hp
  simpa using this
 ·unfold vV
  have:=List.dropWhile_append_of_pos (l₂:=[]) hp
  simp at this;rw[this]
  rfl
theorem jLe (l:List UInt8):Lib.cut l [47]=(xg l,vV l,l.contains 47):=by
 unfold Lib.cut;rw[Lib.index_one]
 by_cases hm:Lib.indexByte l 47 = -1
 ·have hn:=(j2c 47 l).1 hm
  rw[if_neg (by omega),(j4k l hn).1,(j4k l hn).2];simp[hn]
 ·have hge:=Lib.index_ge l [47]
  rw[Lib.index_one]at hge;obtain ⟨i,hi⟩:∃ i:Nat,Lib.indexByte l 47=i:=⟨(Lib.indexByte l 47).toNat,by omega⟩
  obtain ⟨h1,h2⟩:=j36 47 l i hi;have hw:=j62 _ (l.drop (i+1)) h1;rw[← h2]at hw;have hmem:47∈l:=by rw[h2];simp
  rw[if_pos (by omega),hi,Int.toNat_natCast,hw.1,hw.2];simp[hmem]
def jF9 (s:ByteArray) (i:Nat):Prop :=
 128≤(Utf8.decode s i).1∧(Lib.validRune (Utf8.decode s i).1=true)∧1≤(Utf8.decode s i).2∧i+(Utf8.decode s i).2≤s.size∧∀ j,i≤j→j<i+(Utf8.decode s i).2→∀ b,s.data.toList[j]?=some b→128≤b.toNat
theorem jAi (s:ByteArray) (j:Nat) (b:UInt8) (h:s.data.toList[j]?=some b):(s.get! j).toNat=b.toNat:=by
 rw[← Lib.getD_get!'];rw[List.getD_eq_getElem?_getD,h]
 rfl
theorem jJk (s:ByteArray) (i:Nat) (h:i<s.size) (h8:128≤(s.get! i).toNat):jF9 s i:=by
 unfold jF9;rw[Lib.decode_at];have g1:=jAi s;generalize hb0:(s.get! i).toNat=b0 at *;generalize hb1:(s.get! (i+1)).toNat=b1 at *;generalize hb2:(s.get! (i+2)).toNat=b2 at *;generalize hb3:(s.get! (i+3)).toNat=b3 at *;have u1:b1<256:=by rw[← hb1];exact xp _
 have u0:b0<256:=by rw[← hb0];exact xp _
 have one:∀ j,i≤j→j<i+1→∀ b,s.data.toList[j]?=some b→128≤b.toNat:=by
  intro j h1 h2 b hb;obtain rfl:j=i:=by omega
  rw[← g1 _ _ hb,hb0];exact h8
 have two:b1 / 64=2→∀ j,i≤j→j<i+2→∀ b,s.data.toList[j]?=some b→128≤b.toNat:=by
  intro hc j h1 h2 b hb;rcases (show j=i∨j=i+1 from by omega) with rfl|rfl
  ·rw[← g1 _ _ hb,hb0];exact h8
  ·rw[← g1 _ _ hb,hb1];omega
 have three:b1 / 64=2→b2 / 64=2→∀ j,i≤j→j<i+3→∀ b,s.data.toList[j]?=some b→128≤b.toNat:=by
  intro hc hd j h1 h2 b hb;rcases (show j=i∨j=i+1∨j=i+2 from by omega) with rfl|rfl|rfl
  ·rw[← g1 _ _ hb,hb0];exact h8
  ·rw[← g1 _ _ hb,hb1];omega
  ·rw[← g1 _ _ hb,hb2];omega
 have four:b1 / 64=2→b2 / 64=2→b3 / 64=2→∀ j,i≤j→j<i+4→∀ b,s.data.toList[j]?=some b→128≤b.toNat:=by
  intro hc hd he j h1 h2 b hb;rcases (show j=i∨j=i+1∨j=i+2∨j=i+3 from by omega) with rfl|rfl|rfl|rfl
  ·rw[← g1 _ _ hb,hb0];exact h8
  ·rw[← g1 _ _ hb,hb1];omega
  ·rw[← g1 _ _ hb,hb2];omega
  ·rw[← g1 _ _ hb,hb3];omega
 clear g1;unfold Lib.decodeN;rw[if_neg (by omega)]
 split
 ·rename_i c
  split
  ·exact ⟨by omega,by unfold Lib.validRune;simp;omega,by omega,by omega,two c.2.2⟩
  ·exact ⟨by decide,by decide,by decide,by omega,one⟩
 ·split
  ·rename_i c
   split
   ·exact ⟨by omega,by unfold Lib.validRune;simp;omega,by omega,by omega,three c.2.1.2 c.2.2.2⟩
   ·exact ⟨by decide,by decide,by decide,by omega,one⟩
  ·split
   ·rename_i c
    split
    ·exact ⟨by omega,by unfold Lib.validRune;simp;omega,by omega,by omega,four c.2.1.2 c.2.2.1.2 c.2.2.2.2⟩
    ·exact ⟨by decide,by decide,by decide,by omega,one⟩
   ·exact ⟨by decide,by decide,by decide,by omega,one⟩
def W2:ByteArray:=⟨#[43,35]⟩
set_option maxRecDepth 1000000 in
theorem j7o (w:World):Calls Tryz.prog 236 #[.string ⟨#[43,35]⟩,.int .i32 65533] w λe w'=>e=.returned (.int .i64 (-1))∧Kept No w w':=by
 have h0:=λty=>run_next_ascii (P:=Tryz.prog) w ⟨#[43,35]⟩ 0 ty (by decide) (by decide)
 have h1:=λty=>run_next_ascii (P:=Tryz.prog) w ⟨#[43,35]⟩ 1 ty (by decide) (by decide)
 have h2:=λty=>run_next_end (P:=Tryz.prog) w ⟨#[43,35]⟩ 2 ty (by decide)
 have e0:(((⟨#[43,35]⟩:ByteArray)[0]'(by decide)).toNat:Int)=43:=by decide
 have e1:(((⟨#[43,35]⟩:ByteArray)[1]'(by decide)).toNat:Int)=35:=by decide
 rw[e0]at h0;rw[e1]at h1;clear e0 e1
 go_enter Tryz.func236,Tryz.ntmps236
 go_wp2
 refine wp_loop_rounds 3 ?_
 repeat (rw[rounds_succ];go_wp2)
 go_ret
 exact ⟨rfl,(Kept.refl No w).alloc _⟩
set_option maxRecDepth 1000000 in
theorem j6r (r:Nat) (w:World) (h1:128≤r) (h2:Lib.validRune r=true) (h3:r≠65533):Calls Tryz.prog 236 #[.string ⟨#[43,35]⟩,.int .i32 r] w λe w'=>e=.returned (.int .i64 (-1))∧Kept No w w':=by
 have hr:((r:Int) == 65533)=false:=by simp;omega
 have h1z:(128:Int)≤r:=by omega
 have hv:Utf8.valid r=true:=by
  unfold Lib.validRune at h2;simp at h2;simp[Utf8.valid];omega
 have he:=encode_facts (r:Int) hv h1z;have HV:=Lib.hid h2;clear h2 h3 hv;generalize hR:Utf8.encode (r:Int)=R at *;obtain ⟨he1,he2,he3⟩:=he;rcases (show R.size=2∨3≤R.size from by omega) with hz|hz
 ·have hlt:1<R.size:=by omega
  have hL:128≤(R[1]'hlt).toNat:=by
   have:=he3 (by omega)
   have e:R.size - 1=1:=by omega
   simp only[e]at this;exact this
  have hne:((35:Int) != ((R[1]'hlt).toNat:Int))=true:=by simp;omega
  have hltI:(1:Int)<R.size:=by omega
  have he35:(((⟨#[43,35]⟩:ByteArray)[1]'(by decide)).toNat:Int)=35:=by decide
  clear he3 he1 he2
  go_enter Tryz.func236,Tryz.ntmps236
  go_wp2_with (go_at_call 245;refine (Tryz.utf8_ValidRune _ _).mono ?_;rintro e w' ⟨rfl,hw⟩;rw[hw,HV.out])
  go_step3
  go_wp2
  refine wp_loop_rounds 1 ?_;rw[rounds_succ]
  go_wp2
  go_step3
  go_wp2
  go_quiet (fail)
  go_wp2
  have hkq:=(Kept.refl No w).drewN nq;generalize w.drewN nq=wq at *
  go_quiet ((go_at_call 201;exact Calls.quiet_of_same (Tryz.strings_IndexByte _ _ _)))
  go_wp2
  simp only[go_sem]
  go_ret
  exact ⟨rfl,hkq.drewN _⟩
 ·have hlast:((2:Int)≤(R.size:Int) - 1):=by omega
  clear he3 he1
  go_enter Tryz.func236,Tryz.ntmps236
  go_wp2_with (go_at_call 245;refine (Tryz.utf8_ValidRune _ _).mono ?_;rintro e w' ⟨rfl,hw⟩;rw[hw,HV.out])
  go_step3
  go_wp2
  refine wp_loop_rounds 1 ?_;rw[rounds_succ]
  go_wp2
  try rw[Exit.noGoto_ret]
  go_ret
  exact ⟨rfl,Kept.refl _ _⟩
theorem j7n (r:Nat) (w:World) (h1:128≤r) (h2:Lib.validRune r=true):Calls Tryz.prog 236 #[.string ⟨#[43,35]⟩,.int .i32 r] w λe w'=>e=.returned (.int .i64 (-1))∧Kept No w w':=by
 by_cases h:r=65533
 ·subst h;exact j7o w
 ·exact j6r r w h1 h2 h
theorem jC7 {s:ByteArray} {i n:Nat} {c:List UInt8} (h:Lib.NoAny s.data.toList c i) (hc:∀ b∈c,b.toNat<128) (hh:∀ j,i≤j→j<i+n→∀ b,s.data.toList[j]?=some b→128≤b.toNat):Lib.NoAny s.data.toList c (i+n):=by
 intro j x hj hx
 by_cases hji:j<i
 ·exact h j x hji hx
 ·have h8:=hh j (by omega) hj x hx
  have:x ∉ c:=λhm=>by have:=hc x hm;omega
  simpa using this
theorem j5a {w w':World} (h:Kept No w w') (s:ByteArray) (p:Nat):Kept No w (w'.iterAt w.heap.size s p):=by
 refine ⟨h.os,h.tape,h.output,by simpa [World.iterAt] using h.size,λk hk hn=>?_⟩;rw[← h.block k hk hn];simp only[World.iterAt];rw[Array.getElem?_setIfInBounds_ne (by omega)]
set_option maxRecDepth 1000000 in
theorem j6q (s:ByteArray) (w:World) (h8:s.size≤8) :
  Calls Tryz.prog 230 #[.string s,.string ⟨#[43,35]⟩] w λe w'=>e=.returned (.int .i64 (Lib.indexAny s.data.toList [43,35]))∧Kept No w w':=by
 have h8z:decide ((8:Int)<(s.size:Int))=false:=decide_eq_false (by omega)
 go_enter Tryz.func230,Tryz.ntmps230
 go_wp2_with (go_at_call 237;refine (Tryz.strings_shouldUseASCIISet _ _).mono ?_;rintro e w' ⟨rfl,hw⟩;rw[hw,h8z])
 go_loopg [9,10] s.size (λg _ _ wx=>∃ i:Nat,i+g=s.size∧wx.heap[w.heap.size]?=some (.stringIter s i)∧Kept No w wx∧Hid (Lib.NoAny s.data.toList [43,35] i))
 case atStart=>exact ⟨0,by omega,World.iter_heap _ _ _,(Kept.refl No w).alloc _,Lib.hid (Lib.NoAny.zero _ _)⟩
 case round =>
  obtain ⟨i,hig,hit,hk,HN⟩:=hrel;cases gk with
  | zero =>
   obtain rfl:i=s.size:=by omega
   have hnx:=λty=>Lib.run_next_end_at (P:=Tryz.prog) wr w.heap.size s s.size ty hit (by omega)
   clear hit
   go_wp2
   go_ret
   exact ⟨by rw[Lib.indexAny_none (by rw[← Lib.size_eq];exact HN.out)];rfl,hk⟩
  | succ g =>
   have hi:i<s.size:=by omega
   have hb0:s.data.toList[i]?=some (s[i]'hi):=Lib.data_getElem? s i hi
   by_cases h128:(s[i]'hi).toNat<128
   ·have hnx:=λty=>Lib.run_next_ascii_at (P:=Tryz.prog) wr w.heap.size s i ty hit hi h128
    have hit2:=Lib.iterAt_heap wr w.heap.size s i (i+1) hit;have hk2:=j5a hk s (i+1);generalize wr.iterAt w.heap.size s (i+1)=wn at *;have Hx:=Lib.hid hb0;generalize s[i]'hi=x at *;have hcon:=Lib.contains_iff_indexByte [43,35] x;have hback:((x.toNat:Int)).toNat.toUInt8=x:=by simp
    have HI:=Lib.hid hit2;clear hit hit2 hb0;cases hin:([43,35]:List UInt8).contains x
    ·rw[hin]at hcon
     have hlt:Lib.indexByte [43,35] x<0:=by have:=of_decide_eq_false hcon.symm;omega
     have HH:=Lib.hid hin;clear hcon hin
     go_wp2_with (go_at_call 236;refine (Tryz.strings_IndexRune_ascii _ _ _ (by omega) (by omega)).mono ?_;rintro e w' ⟨rfl,hw⟩;rw[hw,hback])
     go_roundg g
     case measure=>omega
     case rel=>exact ⟨i+1,by omega,HI.out,hk2,Lib.hid (HN.out.succ Hx.out HH.out)⟩
    ·rw[hin]at hcon
     have hge:(0:Int)≤Lib.indexByte [43,35] x:=of_decide_eq_true hcon.symm;have HH:=Lib.hid hin;clear hcon hin
     go_wp2_with (go_at_call 236;refine (Tryz.strings_IndexRune_ascii _ _ _ (by omega) (by omega)).mono ?_;rintro e w' ⟨rfl,hw⟩;rw[hw,hback])
     go_ret
     exact ⟨by rw[Lib.indexAny_hit HN.out Hx.out HH.out];rfl,hk2⟩
   ·have hg:(s.get! i).toNat=(s[i]'hi).toNat:=jAi s i _ hb0
    obtain ⟨q1,q2,q3,q4,q5⟩:=jJk s i hi (by omega);have hnx:=λty=>Lib.run_next_any_at (P:=Tryz.prog) wr w.heap.size s i ty hit hi
    have hit2:=Lib.iterAt_heap wr w.heap.size s i (i+(Utf8.decode s i).2) hit;have hk2:=j5a hk s (i+(Utf8.decode s i).2);generalize wr.iterAt w.heap.size s (i+(Utf8.decode s i).2)=wn at *;generalize (Utf8.decode s i).2=n at *;generalize (Utf8.decode s i).1=r at *;have HI:=Lib.hid hit2;have HQ:=Lib.hid q5;have HV:=Lib.hid q2;clear hit hit2 hb0 hg q5 h128 q2
    go_wp2_with (go_at_call 236;refine (j7n r _ q1 HV.out).mono ?_;rintro e w5 ⟨rfl,hk5⟩)
    go_roundg (s.size - (i+n))
    case measure=>omega
    case rel=>exact ⟨i+n,by omega,(hk5.block _ (Array.getElem?_eq_some_iff.1 HI.out).1 (λf=>f)).trans HI.out,hk2.trans hk5,Lib.hid (jC7 HN.out (by decide) HQ.out)⟩
theorem jId:∀ (j:Nat) b,(⟨#[43,35]⟩:ByteArray).data.toList[j]?=some b→b.toNat<128:=by
 intro j b hb;have h1:b∈([43,35]:List UInt8):=List.mem_of_getElem? hb;have h2:b=43∨b=35:=by simpa using h1
 rcases h2 with rfl|rfl<;>decide
theorem jIf:(Tryz.prog.info? (Tryz.lays153_ren.t 116)).map (λi=>(i.zero,i.size))=some (some (.agg (Array.replicate 256 (.bool false))),256):=by kernel_rfl
theorem j98 (s:ByteArray) (w:World) (hs:s.size<4294967281) :
  Calls Tryz.prog 230 #[.string s,.string ⟨#[43,35]⟩] w λe w'=>e=.returned (.int .i64 (Lib.indexAny s.data.toList [43,35]))∧Kept No w w':=by
 by_cases h8:s.size≤8
 ·exact j6q s w h8
 ·refine (Tryz.strings_IndexAny_long (Go.zero_of_info jIf).1 s ⟨#[43,35]⟩ w (by decide) (by omega) hs (by decide) jId).mono ?_
  rintro e w1 ⟨rfl,rfl⟩;exact ⟨rfl,((Kept.refl No w).alloc _).alloc _⟩
theorem j5j (s:ByteArray) (w:World) (hs:s.size<4294967281) :
  Calls Tryz.prog 220 #[.string s,.string ⟨#[43,35]⟩] w λe w'=>e=.returned (.bool (Lib.containsAny s.data.toList [43,35]))∧Kept No w w':=by
 have c:=j98 s w hs;unfold Lib.containsAny;generalize Lib.indexAny s.data.toList [43,35]=I at *;have HC:=Lib.hid c;clear c
 go_enter Tryz.func220,Tryz.ntmps220
 go_wp2_with (go_at_call 230;refine HC.out.mono ?_;rintro e w1 ⟨rfl,hk⟩)
 go_ret
 exact ⟨rfl,hk⟩
def vO (l:List UInt8):Bool:=l.contains 43||l.contains 35
theorem j4n (l:List UInt8):Lib.containsAny l [43,35]=vO l:=by
 unfold Lib.containsAny vO
 induction l with
 | nil=>rfl
 | cons b t ih =>
  have hge:=Lib.indexAny_ge [43,35] t;unfold Lib.indexAny
  by_cases hb:([43,35]:List UInt8).contains b=true
  ·rw[if_pos hb]
   have:b=43∨b=35:=by simpa using hb
   rcases this with rfl|rfl<;>simp
  ·rw[if_neg hb]
   have hn:¬ (b=43∨b=35):=by simpa using hb
   have h1:((43:UInt8) == b)=false:=by simp;intro e;exact hn (.inl e.symm)
   have h2:((35:UInt8) == b)=false:=by simp;intro e;exact hn (.inr e.symm)
   rw[List.contains_cons,List.contains_cons,h1,h2,Bool.false_or,Bool.false_or,← ih]
   by_cases hm:Lib.indexAny t [43,35] = -1
   ·simp[hm]
   ·rw[if_neg (by simpa using hm)]
    by_cases h0:0≤Lib.indexAny t [43,35]
    ·rw[decide_eq_true h0,decide_eq_true (by omega)]
    ·omega
theorem j7l (s:ByteArray) (w:World) (hs:s.size<4294967281) :
  Calls Tryz.prog 203 #[.string s] w λe w'=>e=.returned (.bool (vO s.data.toList))∧Kept No w w':=by
 have c:=j5j s w hs;rw[j4n]at c;generalize vO s.data.toList=B at *;have HC:=Lib.hid c;clear c
 go_enter Tryz.func203,Tryz.ntmps203
 go_wp2_with (go_at_call 220;refine HC.out.mono ?_;rintro e w1 ⟨rfl,hk⟩)
 go_ret
 exact ⟨rfl,hk⟩
def xm (L:List (List UInt8)):List Value:=L.map λl=>.string ⟨l.toArray⟩
theorem j9r (L:List (List UInt8)):(xm L).length=L.length:=by simp[xm]
theorem j5g (s:ByteArray):(Lib.splitB ⟨#[47]⟩ 0 (Lib.countB s ⟨#[47]⟩) s).map Value.string=xm (lev s.data.toList):=by
 have h1:=Lib.splitB_data ⟨#[47]⟩ 0 (Lib.countB s ⟨#[47]⟩) s;have h2:Lib.countB s ⟨#[47]⟩=s.data.toList.count 47:=Lib.count_one 47 s.data.toList;have h3:Lib.splitK (⟨#[47]⟩:ByteArray).data.toList 0 (Lib.countB s ⟨#[47]⟩) s.data.toList=lev s.data.toList:=jCp _ _ (by rw[h2];exact Nat.le_refl _);rw[h3]at h1;rw[← h1];unfold xm;rw[List.map_map];refine List.map_congr_left λx _=>?_
 simp
theorem jBd (s:ByteArray):Lib.countB s ⟨#[47]⟩+1=(lev s.data.toList).length:=by
 rw[← j9r,← j5g,List.length_map,Lib.splitB_all ⟨#[47]⟩ (by decide) 0 _ s rfl]
theorem jAl:(Tryz.prog.info? 9).map (λi=>(i.zero,i.size,i.bytes))=some (some (.string ByteArray.empty),1,16):=by kernel_rfl
theorem j95 (s:ByteArray) (w:World) (hs:s.size<4294967281) :
  Calls Tryz.prog 231 #[.string s,.string ⟨#[47]⟩,.int .i64 0,.int .i64 (-1)] w λe w' =>
   e=.returned (.slice (some ⟨w.heap.size,0,none⟩) (lev s.data.toList).length (lev s.data.toList).length)∧w'=w.alloc (.cells (xm (lev s.data.toList)).toArray 9):=by
 have hle:=Lib.countB_le ⟨#[47]⟩ (by decide) s.size s (Nat.le_refl _);have hlen:=Lib.splitB_all ⟨#[47]⟩ (by decide) 0 _ s rfl
 have c:=Any.strings_genSplit_core Tryz.lays221 jAl s ⟨#[47]⟩ 0 (-1) (Lib.countB s ⟨#[47]⟩+1) w hs (by decide) (Nat.zero_le _)
  (λx c _=>by
   have h:=Tryz.strings_Index_one x 47 (w.alloc (.cells c 9));rw[← Lib.index_one]at h;exact h)
  (by
   have h:=Tryz.strings_Count_one s 47 w
   have e:(Lib.countByte s.data.toList 47:Int)=(Lib.countB s ⟨#[47]⟩:Nat):=by
    have:=Lib.count_one 47 s.data.toList
    unfold Lib.countByte;rw[← this]
   rw[e]at h;exact h)
  (by decide) (by decide) (by rw[if_pos (by decide)];omega)
 rw[Nat.add_sub_cancel,hlen]at c
 have e2:Lib.cellsOf (Lib.splitB ⟨#[47]⟩ 0 (Lib.countB s ⟨#[47]⟩) s) (Lib.countB s ⟨#[47]⟩+1)=(xm (lev s.data.toList)).toArray:=by
  rw[← j5g,← hlen];exact Lib.cellsOf_full _
 rw[e2,jBd]at c;exact c
def jNi (w:World) (L:List (List UInt8)) (e:Ending) (w':World):Prop:=∃ a,e=.returned (.slice a L.length L.length)∧Row w' a (xm L)∧Kept No w w'
theorem jF2 (s:ByteArray) (w:World) (hs:s.size<4294967281) :
  Calls Tryz.prog 222 #[.string s,.string ⟨#[47]⟩] w (jNi w (lev s.data.toList)):=by
 have c:=Lib.hid (j95 s w hs);generalize lev s.data.toList=L at *
 go_enter Tryz.func222,Tryz.ntmps222
 go_wp2_with (go_at_call 231;go_loud (refine c.out.mono ?_);rintro e w' ⟨rfl,hw⟩;rw[hw])
 go_ret
 exact ⟨_,rfl,.of_cells (qn w _ _ _ rfl),(Kept.refl No w).alloc _⟩
set_option maxRecDepth 100000 in
theorem jA7 (s:ByteArray) (w:World) (hs:s.size<4294967281) :
  Calls Tryz.prog 232 #[.string s,.string ⟨#[47]⟩] w λe w'=>e=.returned (.tuple #[.string ⟨(xg s.data.toList).toArray⟩,.string ⟨(vV s.data.toList).toArray⟩,.bool (s.data.toList.contains 47)])∧Kept No w w':=by
 have hc:=jLe s.data.toList;have hI:=Tryz.stringslite_Index_one s 47;rw[← Lib.index_one]at hI;have hcut:((⟨#[47]⟩:ByteArray)).data.toList=[47]:=rfl;rcases Lib.indexB_cases s ⟨#[47]⟩ with hix|⟨i,hix,hroom⟩
 ·obtain ⟨e1,e2,e3⟩:=Lib.cutB_miss s ⟨#[47]⟩ hix
  rw[hcut,hc]at e1 e2 e3;rw[e1,e2]
  try rw[show s.data.toList.contains 47=true from e3]
  try rw[show s.data.toList.contains 47=false from e3]
  have hI2:=Lib.hid (λwx=>(by have:=hI wx;rw[show Lib.index s.data.toList [47] = -1 from hix]at this;exact this:Calls Tryz.prog 243 #[.string s,.string ⟨#[47]⟩] wx λe w'=>e=.returned (.int .i64 (-1))∧w'=wx));clear hI hc e1 e2 e3 hix
  go_enter Tryz.func232,Tryz.ntmps232
  go_wp2_with (go_at_call 243;refine (hI2.out _).mono ?_;rintro e w' ⟨rfl,hw⟩;rw[hw])
  go_ret3
  exact ⟨rfl,Kept.refl _ _⟩
 ·obtain ⟨e1,e2,e3⟩:=Lib.cutB_hit s ⟨#[47]⟩ i hix
  rw[hcut,hc]at e1 e2 e3;rw[e1,e2]
  try rw[show s.data.toList.contains 47=true from e3]
  try rw[show s.data.toList.contains 47=false from e3]
  have hI2:=Lib.hid (λwx=>(by have:=hI wx;rw[show Lib.index s.data.toList [47]=i from hix]at this;exact this:Calls Tryz.prog 243 #[.string s,.string ⟨#[47]⟩] wx λe w'=>e=.returned (.int .i64 i)∧w'=wx));have hr2:i+1≤s.size:=hroom;have c1:(0:Int)≤↑i:=by omega
  have c2:(↑i:Int)≤↑s.size:=by omega
  have c3:(0:Int)≤↑i+1:=by omega
  have c4:(↑i+1:Int)≤↑s.size:=by omega
  clear hI hc e1 e2 e3 hix hroom
  go_enter Tryz.func232,Tryz.ntmps232
  go_wp2_with (go_at_call 243;refine (hI2.out _).mono ?_;rintro e w' ⟨rfl,hw⟩;rw[hw])
  go_quiet (fail)
  go_wp2
  go_ret3
  exact ⟨rfl,(Kept.refl No w).drewN _⟩
theorem jIn (s:ByteArray) (w:World) (hs:s.size<4294967281) :
  Calls Tryz.prog 223 #[.string s,.string ⟨#[47]⟩] w λe w'=>e=.returned (.tuple #[.string ⟨(xg s.data.toList).toArray⟩,.string ⟨(vV s.data.toList).toArray⟩,.bool (s.data.toList.contains 47)])∧Kept No w w':=by
 have c:=Lib.hid (jA7 s w hs);generalize xg s.data.toList=a at *;generalize vV s.data.toList=b at *;generalize s.data.toList.contains 47=B at *
 go_enter Tryz.func223,Tryz.ntmps223
 go_wp2_with (go_at_call 232;refine c.out.mono ?_;rintro e w' ⟨rfl,hk⟩)
 go_ret3
 exact ⟨rfl,hk⟩
theorem j75 (s p:ByteArray) (w:World):Calls Tryz.prog 204 #[.string s,.string p] w λe w'=>e=.returned (.bool (p.data.toList.isPrefixOf s.data.toList))∧w=w' :=
 (Tryz.strings_HasPrefix s p w).mono λe w' ⟨h1,h2⟩=>⟨h1,h2.symm⟩
theorem j7v (s:ByteArray) (w:World) (hs:s.size<4294967281):Calls Tryz.prog 224 #[.string s] w λe w'=>e=.returned (.string s)∧Kept No w w':=by
 have c:=Lib.hid (Tryz.stringslite_Clone s w (by omega))
 go_enter Tryz.func224,Tryz.ntmps224
 go_wp2_with (go_at_call 233;refine c.out.mono ?_;rintro e w' ⟨rfl,hb⟩)
 go_ret
 exact ⟨rfl,.of_below hb⟩
def vp (s:ByteArray):Bool:=q7 s&&(decide (0<s.size)&&!vO s.data.toList)
theorem vU {s:ByteArray} (h:q7 s=true):s.size≤65535:=by
 unfold q7 at h;simp at h;exact h.1
theorem xh {s:ByteArray} (h:s.size=0):s=⟨#[]⟩:=ByteArray.ext (Array.eq_empty_of_size_eq_zero h)
theorem j0m {s:ByteArray} (h:0<s.size):s.toList.isEmpty=false:=by
 rw[Lib.toList_data]
 have:s.data.toList.length=s.size:=qQ s
 cases hl:s.data.toList with
 | nil=>rw[hl]at this;simp at this;omega
 | cons _ _=>rfl
theorem j70 (s:ByteArray) (w:World) (hs:s.size≤9223372036854775807) (hT:Tabs w) :
  Calls Tryz.prog 186 #[.string s] w λe w'=>e=.returned (.bool (vp s))∧Kept No w w':=by
 unfold vp
 by_cases h0:s.size=0
 ·obtain rfl:=xh h0
  go_enter Tryz.func186,Tryz.ntmps186
  go_wp2
  go_ret
  exact ⟨by simp[ByteArray.size],Kept.refl _ _⟩
 ·have hE:=j0m (s:=s) (by omega)
  have hd:decide (0<s.size)=true:=by simp;omega
  rw[hd];have cO:=zY s w hs hT;rcases hO:q7 s with _|_
  ·rw[hO]at cO
   have HO:=Lib.hid cO;clear cO hO
   go_enter Tryz.func186,Tryz.ntmps186
   go_wp2_with (go_at_call 183;refine HO.out.mono ?_;rintro e w1 ⟨rfl,hk⟩)
   go_ret
   exact ⟨rfl,hk⟩
  ·rw[hO]at cO
   have HO:=Lib.hid cO;have cW:=Lib.hid (λwx=>j7l s wx (by have:=vU hO;omega));clear cO hO;generalize vO s.data.toList=B at *
   go_enter Tryz.func186,Tryz.ntmps186
   go_wp2_with (first
    | (go_at_call 183;refine HO.out.mono ?_;rintro e w1 ⟨rfl,hk⟩)
    | (go_at_call 203;refine (cW.out _).mono ?_;rintro e w2 ⟨rfl,hk2⟩))
   go_ret
   exact ⟨by simp,hk.trans hk2⟩
def vN:List (List UInt8)→Bool
 | []=>true
 | x :: r=>(!vO x||(x == [43]||(x == [35]&&r.isEmpty)))&&vN r
def vh (l:List UInt8):Bool:=!l.isEmpty&&vN (lev l)
set_option maxRecDepth 100000 in
theorem j8a (s:ByteArray) (w:World) (hs:s.size<4294967281) :
  Calls Tryz.prog 205 #[.string s] w λe w'=>e=.returned (.bool (vh s.data.toList))∧Kept No w w':=by
 unfold vh
 by_cases h0:s.size=0
 ·obtain rfl:=xh h0
  go_enter Tryz.func205,Tryz.ntmps205
  go_wp2
  go_ret
  exact ⟨rfl,Kept.refl _ _⟩
 ·have hE:=j0m (s:=s) (by omega)
  have hE2:s.data.toList.isEmpty=false:=by rw[← Lib.toList_data];exact hE
  rw[hE2];have cS:=jF2 s w hs;have hll:=jDg s.data.toList;have hlm:=jDh s.data.toList;have hsz:=qQ s;rw[hsz]at hll hlm;generalize lev s.data.toList=L at *;have HS:=Lib.hid cS;have HM:=Lib.hid hlm;generalize hC:vN L=C;have HC:=Lib.hid hC;clear cS hlm hC hsz hE2
  go_enter Tryz.func205,Tryz.ntmps205
  go_wp2_with (go_at_call 222;refine HS.out.mono ?_;rintro e w1 ⟨a,rfl,hr,hk⟩)
  go_loopw [12] (λi wr=>∃ j:Nat,i=.int .i64 j∧j≤L.length∧Hid (vN (L.drop j)=C)∧Kept No w1 wr) (λi _=>L.length - (intOf i).toNat)
  case atStart=>exact ⟨0,rfl,by omega,Lib.hid (by rw[List.drop_zero];exact HC.out),Kept.refl _ _⟩
  case round =>
   obtain ⟨j,rfl,hj,HD,hk1⟩:=hrel
   by_cases hlt:j<L.length
   ·have hdr:L.drop j=L[j] :: L.drop (j+1):=List.drop_eq_getElem_cons hlt
    obtain ⟨b,off,rfl,hb,hc⟩:=(hr.keptNo hk1).at_ (k:=j) (by simpa [xm] using hlt);have hx:(xm L)[j]'(by simpa [xm] using hlt)=.string ⟨L[j].toArray⟩:=by simp[xm]
    rw[hx]at hc;have hxl:L[j].length≤s.size:=HM.out _ (List.getElem_mem hlt);have HX:=Lib.hid hdr;clear hx hdr;generalize L[j]=x at *;have cW:=λwx=>j7l ⟨x.toArray⟩ wx (by show x.toArray.size<_;simp;omega)
    rw[show (⟨x.toArray⟩:ByteArray).data.toList=x from rfl]at cW;rcases hW:vO x with _|_
    ·rw[hW]at cW
     have HW:=Lib.hid cW;have HN:Hid (vN (L.drop (j+1))=C):=Lib.hid (by have:=HD.out;rw[HX.out,vN,hW]at this;simpa using this);clear cW hW
     go_wp2_with (go_at_call 203;refine (HW.out _).mono ?_;rintro e w2 ⟨rfl,hk2⟩)
     go_roundw
     case rel=>exact ⟨j+1,by go_num,by omega,HN,hk1.trans hk2⟩
     case measure=>simp[intOf];omega
    ·rw[hW]at cW
     have HW:=Lib.hid cW;have HWW:=Lib.hid hW;clear cW hW
     go_wp2_with (go_at_call 203;refine (HW.out _).mono ?_;rintro e w2 ⟨rfl,hk2⟩)
     ·have h1:(x == [43])=true:=by assumption
      have HN:Hid (vN (L.drop (j+1))=C):=Lib.hid (by have:=HD.out;rw[HX.out,vN,h1]at this;simpa using this)
      go_roundw
      case rel=>exact ⟨j+1,by go_num,by omega,HN,hk1.trans hk2⟩
      case measure=>simp[intOf];omega
     ·have h1:(x == [43])=false:=by assumption
      have h2:x=[35]:=by assumption
      have h3:((j:Int) != (L.length:Int) - 1)=true:=by assumption
      have h4:(L.drop (j+1)).isEmpty=false:=by
       have h5:(j:Int)≠(L.length:Int) - 1:=by simpa using h3
       cases hd:L.drop (j+1) with
       | nil=>have:=congrArg List.length hd;simp at this;omega
       | cons _ _=>rfl
      have HN:Hid (C=false):=Lib.hid (by have:=HD.out;rw[HX.out,vN,h1,h4,HWW.out]at this;simpa using this.symm);clear h1 h2 h3 h4
      go_ret
      exact ⟨by rw[HN.out];rfl,hk.trans (hk1.trans hk2)⟩
     ·have h1:(x == [43])=false:=by assumption
      have h2:x=[35]:=by assumption
      have h3:((j:Int) != (L.length:Int) - 1)=false:=by assumption
      have h4:(L.drop (j+1)).isEmpty=true:=by
       have h5:(j:Int)=(L.length:Int) - 1:=by simpa using h3
       rw[List.drop_of_length_le (by omega)]
       rfl
      have HN:Hid (vN (L.drop (j+1))=C):=Lib.hid (by have:=HD.out;rw[HX.out,vN,h1,h4,h2]at this;simpa using this);clear h1 h2 h3 h4
      go_roundw
      case rel=>exact ⟨j+1,by go_num,by omega,HN,hk1.trans hk2⟩
      case measure=>simp[intOf];omega
     ·have h1:(x == [43])=false:=by assumption
      have h2:¬ x=[35]:=by assumption
      have h3:(x == [35])=false:=by simpa using h2
      have HN:Hid (C=false):=Lib.hid (by have:=HD.out;rw[HX.out,vN,h1,h3,HWW.out]at this;simpa using this.symm);clear h1 h2 h3
      go_ret
      exact ⟨by rw[HN.out];rfl,hk.trans (hk1.trans hk2)⟩
   ·have HN:Hid (C=true):=Lib.hid (by rw[← HD.out,List.drop_of_length_le (by omega)];rfl)
    go_wp2
    go_ret
    exact ⟨by rw[HN.out];rfl,hk.trans hk1⟩
def j51:List UInt8:=[36,115,104,97,114,101,47]
def vD (l:List UInt8):Bool:=j51.isPrefixOf l
theorem j52 {l:List UInt8} (h:vD l=true):7≤l.length:=by
 unfold vD at h
 have:=List.IsPrefix.length_le (List.isPrefixOf_iff_prefix.1 h)
 simpa [j51] using this
def behind (l:List UInt8):List UInt8:=l.drop 7
def j50 (l:List UInt8):Bool:=!(xg (behind l)).isEmpty&&(!vO (xg (behind l))&&vh (vV (behind l)))
def qW (s:ByteArray):Bool:=q7 s&&if vD s.data.toList then j50 s.data.toList else vh s.data.toList
theorem jCs (r:List UInt8):(xg r).length≤r.length:=by
 unfold xg;exact (List.takeWhile_prefix _).length_le
theorem j9t (r:List UInt8):(vV r).length≤r.length:=by
  unfold vV
  have:(r.dropWhile (· != 47)).length≤r.length:=(List.dropWhile_suffix _).length_le
  simp;omega
theorem j6o (s:ByteArray) (w:World) (hs:s.size<4294967281) (h7:7≤s.size) :
  Calls Tryz.prog 206 #[.string s] w λe w'=>e=.returned (.tuple #[.string ⟨(xg (behind s.data.toList)).toArray⟩,.string ⟨(vV (behind s.data.toList)).toArray⟩])∧Kept No w w':=by
 have hx:s.extract 7 s.size=⟨(behind s.data.toList).toArray⟩:=by
  have hsz:=qQ s;rw[Lib.extract_eq];unfold behind;rw[List.take_of_length_le (by rw[List.length_drop];omega)]
 have c:=λwx=>jIn ⟨(behind s.data.toList).toArray⟩ wx (by
  have hsz:=qQ s;show (behind s.data.toList).toArray.size<_;unfold behind;rw[List.size_toArray,List.length_drop];omega)
 rw[show (⟨(behind s.data.toList).toArray⟩:ByteArray).data.toList=behind s.data.toList from rfl]at c;generalize behind s.data.toList=r at *;have HC:=Lib.hid c;have h7z:(7:Int)≤s.size:=by omega
 clear c
 go_enter Tryz.func206,Tryz.ntmps206
 go_wp2_with (go_at_call 223;(first|rw[hx]|skip);refine (HC.out _).mono ?_;rintro e w1 ⟨rfl,hk⟩)
 go_ret2
 exact ⟨rfl,hk⟩
theorem xX (s:ByteArray) (r:List UInt8) (h:r.length≤s.data.toList.length) (hs:s.size<4294967281):(⟨r.toArray⟩:ByteArray).size<4294967281:=by
 rw[qQ]at h;show r.toArray.size<_;rw[List.size_toArray];omega
theorem j08 (l:List UInt8):(behind l).length≤l.length:=by unfold behind;rw[List.length_drop];omega
set_option maxRecDepth 100000 in
theorem j6g (s:ByteArray) (w:World) (hs:s.size≤9223372036854775807) (hT:Tabs w) :
  Calls Tryz.prog 187 #[.string s] w λe w'=>e=.returned (.bool (qW s))∧Kept No w w':=by
 unfold qW;have cO:=zY s w hs hT;rcases hO:q7 s with _|_
 ·rw[hO]at cO
  have HO:=Lib.hid cO;rw[Bool.false_and];clear cO hO
  go_enter Tryz.func187,Tryz.ntmps187
  go_wp2_with (go_at_call 183;refine HO.out.mono ?_;rintro e w1 ⟨rfl,hk⟩)
  go_ret
  exact ⟨rfl,hk⟩
 ·rw[hO]at cO
  have HO:=Lib.hid cO;have hz:=vU hO;clear cO hO;have cP:=λwx=>j75 s ⟨#[36,115,104,97,114,101,47]⟩ wx
  rcases hS:vD s.data.toList with _|_
  ·rw[show ((⟨#[36,115,104,97,114,101,47]⟩:ByteArray).data.toList.isPrefixOf s.data.toList)=false from hS]at cP
   have HP:=Lib.hid cP;have HL:=Lib.hid (λwx=>j8a s wx (by omega));generalize hB:(true&&if false=true then j50 s.data.toList else vh s.data.toList)=B;have HB:Hid (B=vh s.data.toList):=Lib.hid (by rw[← hB];simp);clear cP hS hB;generalize vh s.data.toList=C at *
   go_enter Tryz.func187,Tryz.ntmps187
   go_wp2_with (first
    | (go_at_call 183;refine HO.out.mono ?_;rintro e w1 ⟨rfl,hk⟩)
    | (go_at_call 204;refine (HP.out _).mono ?_;rintro e w2 ⟨rfl,rfl⟩)
    | (go_at_call 205;refine (HL.out _).mono ?_;rintro e w3 ⟨rfl,hk3⟩))
   go_ret
   exact ⟨by rw[HB.out];rfl,hk.trans hk3⟩
  ·rw[show ((⟨#[36,115,104,97,114,101,47]⟩:ByteArray).data.toList.isPrefixOf s.data.toList)=true from hS]at cP
   have HP:=Lib.hid cP;have h7:=j52 hS;rw[qQ]at h7;have HH:=Lib.hid (λwx=>j6o s wx (by omega) h7);have hwl:(xg (behind s.data.toList)).length≤s.data.toList.length:=Nat.le_trans (jCs _) (j08 _);have htl:(vV (behind s.data.toList)).length≤s.data.toList.length:=Nat.le_trans (j9t _) (j08 _);have cW:=λwx=>j7l ⟨(xg (behind s.data.toList)).toArray⟩ wx (xX s _ hwl (by omega))
   have cL:=λwx=>j8a ⟨(vV (behind s.data.toList)).toArray⟩ wx (xX s _ htl (by omega))
   rw[show (⟨(xg (behind s.data.toList)).toArray⟩:ByteArray).data.toList=xg (behind s.data.toList) from rfl]at cW;rw[show (⟨(vV (behind s.data.toList)).toArray⟩:ByteArray).data.toList=vV (behind s.data.toList) from rfl]at cL;generalize hB:(true&&if true=true then j50 s.data.toList else vh s.data.toList)=B;have hB2:B=(!(xg (behind s.data.toList)).isEmpty&&(!vO (xg (behind s.data.toList))&&vh (vV (behind s.data.toList)))):=by rw[← hB];rfl
   clear cP hS hB hwl htl h7;generalize xg (behind s.data.toList)=u at *;generalize vV (behind s.data.toList)=v at *;generalize vh v=C at *;have HL:=Lib.hid cL;clear cL;cases u with
   | nil =>
    have HB:Hid (B=false):=Lib.hid (by rw[hB2];rfl);clear hB2 cW
    go_enter Tryz.func187,Tryz.ntmps187
    go_wp2_with (first
     | (go_at_call 183;refine HO.out.mono ?_;rintro e w1 ⟨rfl,hk⟩)
     | (go_at_call 204;refine (HP.out _).mono ?_;rintro e w2 ⟨rfl,rfl⟩)
     | (go_at_call 206;refine (HH.out _).mono ?_;rintro e w3 ⟨rfl,hk3⟩))
    go_ret
    exact ⟨by rw[HB.out];rfl,hk.trans hk3⟩
   | cons c t =>
    rcases hW:vO (c :: t) with _|_
    ·have HB:Hid (B=C):=Lib.hid (by rw[hB2,hW];simp)
     rw[hW]at cW;have HW:=Lib.hid cW;clear hB2 cW hW
     go_enter Tryz.func187,Tryz.ntmps187
     go_wp2_with (first
      | (go_at_call 183;refine HO.out.mono ?_;rintro e w1 ⟨rfl,hk⟩)
      | (go_at_call 204;refine (HP.out _).mono ?_;rintro e w2 ⟨rfl,rfl⟩)
      | (go_at_call 206;refine (HH.out _).mono ?_;rintro e w3 ⟨rfl,hk3⟩)
      | (go_at_call 203;refine (HW.out _).mono ?_;rintro e w4 ⟨rfl,hk4⟩)
      | (go_at_call 205;refine (HL.out _).mono ?_;rintro e w5 ⟨rfl,hk5⟩))
     go_ret
     exact ⟨by rw[HB.out];rfl,((hk.trans hk3).trans hk4).trans hk5⟩
    ·have HB:Hid (B=false):=Lib.hid (by rw[hB2,hW];simp)
     rw[hW]at cW;have HW:=Lib.hid cW;clear hB2 cW hW
     go_enter Tryz.func187,Tryz.ntmps187
     go_wp2_with (first
      | (go_at_call 183;refine HO.out.mono ?_;rintro e w1 ⟨rfl,hk⟩)
      | (go_at_call 204;refine (HP.out _).mono ?_;rintro e w2 ⟨rfl,rfl⟩)
      | (go_at_call 206;refine (HH.out _).mono ?_;rintro e w3 ⟨rfl,hk3⟩)
      | (go_at_call 203;refine (HW.out _).mono ?_;rintro e w4 ⟨rfl,hk4⟩))
     go_ret
     exact ⟨by rw[HB.out];rfl,(hk.trans hk3).trans hk4⟩
def vG (s:ByteArray):Bool:=vD s.data.toList&&qW s
theorem j3x {s:ByteArray} (h:qW s=true):s.size≤65535:=by
 unfold qW at h;simp at h;exact vU h.1
def j1u (s:ByteArray):Value:=if vG s then .tuple #[.string ⟨(xg (behind s.data.toList)).toArray⟩,.string ⟨(vV (behind s.data.toList)).toArray⟩,.bool true] else .tuple #[.string ⟨#[]⟩,.string ⟨#[]⟩,.bool false]
set_option maxRecDepth 100000 in
theorem jCl (s:ByteArray) (w:World) (hs:s.size≤9223372036854775807) (hT:Tabs w) :
  Calls Tryz.prog 207 #[.string s] w λe w'=>e=.returned (j1u s)∧Kept No w w':=by
 unfold j1u vG;have cP:=λwx=>j75 s ⟨#[36,115,104,97,114,101,47]⟩ wx
 rcases hS:vD s.data.toList with _|_
 ·rw[show ((⟨#[36,115,104,97,114,101,47]⟩:ByteArray).data.toList.isPrefixOf s.data.toList)=false from hS]at cP
  have HP:=Lib.hid cP;rw[Bool.false_and,if_neg (by simp)];clear cP hS
  go_enter Tryz.func207,Tryz.ntmps207
  go_wp2_with (go_at_call 204;refine (HP.out _).mono ?_;rintro e w2 ⟨rfl,rfl⟩)
  go_ret3
  exact ⟨rfl,Kept.refl _ _⟩
 ·rw[show ((⟨#[36,115,104,97,114,101,47]⟩:ByteArray).data.toList.isPrefixOf s.data.toList)=true from hS]at cP
  have HP:=Lib.hid cP;have cF:=j6g s w hs hT;rw[Bool.true_and];rcases hF:qW s with _|_
  ·rw[hF]at cF
   have HF:=Lib.hid cF;rw[if_neg (by simp)];clear cP hS cF hF
   go_enter Tryz.func207,Tryz.ntmps207
   go_wp2_with (first
    | (go_at_call 204;refine (HP.out _).mono ?_;rintro e w2 ⟨rfl,rfl⟩)
    | (go_at_call 187;refine HF.out.mono ?_;rintro e w1 ⟨rfl,hk⟩))
   go_ret3
   exact ⟨rfl,hk⟩
  ·rw[hF]at cF
   have HF:=Lib.hid cF;have hz:=j3x hF;rw[if_pos rfl];have h7:=j52 hS;rw[qQ]at h7;have HH:=Lib.hid (λwx=>j6o s wx (by omega) h7);have hwl:(xg (behind s.data.toList)).length≤s.data.toList.length:=Nat.le_trans (jCs _) (j08 _);have htl:(vV (behind s.data.toList)).length≤s.data.toList.length:=Nat.le_trans (j9t _) (j08 _);have HU:=Lib.hid (λwx=>j7v ⟨(xg (behind s.data.toList)).toArray⟩ wx (xX s _ hwl (by omega)));have HV:=Lib.hid (λwx=>j7v ⟨(vV (behind s.data.toList)).toArray⟩ wx (xX s _ htl (by omega)));clear cP hS cF hF hwl htl h7;generalize (⟨(xg (behind s.data.toList)).toArray⟩:ByteArray)=u at *;generalize (⟨(vV (behind s.data.toList)).toArray⟩:ByteArray)=v at *
   go_enter Tryz.func207,Tryz.ntmps207
   go_wp2_with (first
    | (go_at_call 204;refine (HP.out _).mono ?_;rintro e w2 ⟨rfl,rfl⟩)
    | (go_at_call 187;refine HF.out.mono ?_;rintro e w1 ⟨rfl,hk⟩)
    | (go_at_call 206;refine (HH.out _).mono ?_;rintro e w3 ⟨rfl,hk3⟩)
    | (go_at_call 224;with_reducible refine (HU.out _).mono ?_;rintro e w4 ⟨rfl,hk4⟩)
    | (go_at_call 224;refine (HV.out _).mono ?_;rintro e w5 ⟨rfl,hk5⟩))
   go_ret3
   exact ⟨rfl,((hk.trans hk3).trans hk4).trans hk5⟩
theorem jKe {w:World} {a:Option Addr} {L:List (List UInt8)} (h:Row w a (xm L)) (j:Nat) (hj:j<L.length):∃ b off,a=some ⟨b,off,none⟩∧w.cell? ⟨b,off+j,none⟩=some (.string ⟨L[j].toArray⟩):=by
 obtain ⟨b,off,ha,hb,hc⟩:=h.at_ (k:=j) (by simpa [xm] using hj);refine ⟨b,off,ha,?_⟩;rw[hc];simp[xm]
theorem jW {w w':World} {base:Nat} {e:TypeId} {size n:Nat} {v:Value} {xs:List Value} (h:w.ownsRow base e size v n xs) (hk:Kept No w w'):w'.ownsRow base e size v n xs:=by
 refine ⟨h.1,?_⟩;rcases h.2 with hn|⟨g,cap,cur,hv,hb,hg,rest⟩
 ·exact .inl hn
 ·exact .inr ⟨g,cap,cur,hv,hb,(hk.block g (Array.getElem?_eq_some_iff.1 hg).1 (λf=>f)).trans hg,rest⟩
theorem jF3 (s:ByteArray) (k:Nat) (h:k<s.size):s.data.toList.take (k+1)=s.data.toList.take k++[s[k]]:=by
 rw[List.take_succ_eq_append_getElem (by simpa using h)];rfl
theorem j4d (s:ByteArray) (c:UInt8) (w:World) (hs:s.size≤9223372036854775807) :
  Calls Tryz.prog 174 #[.string s,.int .u8 c.toNat] w λe w'=>e=.returned (.bool (s.data.toList.contains c))∧w=w':=by
 generalize hB:s.data.toList.contains c=B;have HB:=Lib.hid hB;clear hB
 go_enter Tryz.func174,Tryz.ntmps174
 go_wp2
 go_loop [5] (λi=>∃ j:Nat,j≤s.size∧i=.int .i64 j∧Hid (c ∉ s.data.toList.take j)) (λi=>s.size - (intOf i).toNat)
 case atStart=>exact ⟨0,by omega,rfl,Lib.hid (by simp)⟩
 case round =>
  obtain ⟨j,hj,rfl,HN⟩:=hrel
  by_cases hlt:j<s.size
  ·have HT:=Lib.hid (jF3 s j hlt)
   have HM:Hid (s[j]∈s.data.toList):=Lib.hid (by have:s.data.toList[j]?=some s[j]:=Lib.data_getElem? s j hlt;exact List.mem_of_getElem? this)
   by_cases he:s[j]=c
   ·have hb:((s[j].toNat:Int) == (c.toNat:Int))=true:=by rw[he];simp
    have HC:Hid (B=true):=Lib.hid (by rw[← HB.out];have:=HM.out;rw[he]at this;simpa using this);clear he
    go_wp2
    go_ret
    exact ⟨by rw[HC.out];rfl,rfl⟩
   ·have hb:((s[j].toNat:Int) == (c.toNat:Int))=false:=by
     have:s[j].toNat≠c.toNat:=λh=>he (UInt8.toNat_inj.1 h)
     simp;omega
    have HN2:Hid (c ∉ s.data.toList.take (j+1)):=Lib.hid (by rw[HT.out];have:=HN.out;simp[this];exact λe=>he e.symm)
    go_wp2
    go_round
    case rel=>exact ⟨j+1,by omega,by go_num,HN2⟩
    case measure=>simp[intOf];omega
  ·have HC:Hid (B=false):=Lib.hid (by rw[← HB.out];have:=HN.out;rw[List.take_of_length_le (by rw[qQ];omega)]at this;simpa using this)
   go_wp2
   go_ret
   exact ⟨by rw[HC.out];rfl,rfl⟩
theorem j8f (s:ByteArray) (w:World) (hs:s.size≤9223372036854775807) :
  Calls Tryz.prog 140 #[.string s] w λe w'=>e=.returned (.bool (vO s.data.toList))∧w=w':=by
 unfold vO;have dc1:∀ wx,Calls Tryz.prog 174 #[.string s,.int .u8 43] wx λe w'=>e=.returned (.bool (s.data.toList.contains 43))∧wx=w':=λwx=>j4d s 43 wx hs
 have c1:=Lib.hid dc1;clear dc1;have dc2:∀ wx,Calls Tryz.prog 174 #[.string s,.int .u8 35] wx λe w'=>e=.returned (.bool (s.data.toList.contains 35))∧wx=w':=λwx=>j4d s 35 wx hs
 have c2:=Lib.hid dc2;clear dc2;generalize s.data.toList.contains 43=B1 at *;generalize s.data.toList.contains 35=B2 at *;cases B1
 all_goals
  go_enter Tryz.func140,Tryz.ntmps140
  go_wp2_with (first
   | (go_at_call 174;(with_reducible refine (c1.out _).mono ?_);rintro e w1 ⟨rfl,rfl⟩)
   | (go_at_call 174;(with_reducible refine (c2.out _).mono ?_);rintro e w1 ⟨rfl,rfl⟩))
  go_ret
  exact ⟨by first|rfl|simp,rfl⟩
theorem j4z (s:ByteArray) (w:World) (hs:s.size≤9223372036854775807) :
  Calls Tryz.prog 147 #[.string s] w λe w'=>e=.returned (.bool (vp s))∧Kept No w w':=by
 unfold vp;have cO:=λwx=>xU s wx hs
 rcases hO:q7 s with _|_
 ·rw[hO]at cO
  have HO:=Lib.hid cO;rw[Bool.false_and];clear cO hO
  go_enter Tryz.func147,Tryz.ntmps147
  go_wp2_with (go_at_call 133;refine (HO.out _).mono ?_;rintro e w1 ⟨rfl,rfl⟩)
  go_ret
  exact ⟨rfl,Kept.refl _ _⟩
 ·rw[hO]at cO
  have HO:=Lib.hid cO;rw[Bool.true_and];clear cO hO
  by_cases h0:0<s.size
  ·rw[decide_eq_true h0,Bool.true_and]
   have HW:=Lib.hid (λwx=>j8f s wx hs);have h0z:(0:Int)<s.size:=by omega
   generalize vO s.data.toList=B at *
   go_enter Tryz.func147,Tryz.ntmps147
   go_wp2_with (first
    | (go_at_call 133;refine (HO.out _).mono ?_;rintro e w1 ⟨rfl,rfl⟩)
    | (go_at_call 140;refine (HW.out _).mono ?_;rintro e w2 ⟨rfl,rfl⟩))
   go_ret
   exact ⟨rfl,Kept.refl _ _⟩
  ·rw[decide_eq_false h0,Bool.false_and]
   obtain rfl:=xh (s:=s) (by omega)
   go_enter Tryz.func147,Tryz.ntmps147
   go_wp2_with (go_at_call 133;refine (HO.out _).mono ?_;rintro e w1 ⟨rfl,rfl⟩)
   go_ret
   exact ⟨rfl,Kept.refl _ _⟩
def j55 (id n:Nat) (a:ByteArray):Bool :=
 if id∈[1,23,25,36,37,40,41,42] then decide (n≤1)
 else if id∈[11,33,35,39] then !decide (n=0)
 else if id=8 then vp a
 else true
def xf (id n:Nat) (a b:ByteArray):Bool:=xu id n a b&&j55 id n a
theorem jIp (n:Nat):decide ((n:Int)≤1)=decide (n≤1):=by
 by_cases h:n≤1
 ·rw[decide_eq_true h,decide_eq_true (by omega)]
 ·rw[decide_eq_false h,decide_eq_false (by omega)]
theorem jIq (n:Nat):decide ((n:Int)<2)=decide (n≤1):=by
 by_cases h:n≤1
 ·rw[decide_eq_true h,decide_eq_true (by omega)]
 ·rw[decide_eq_false h,decide_eq_false (by omega)]
theorem jDi (n:Nat):((n:Int) != 0) = !decide (n=0):=by
 by_cases h:n=0<;>simp[h]
set_option maxRecDepth 100000 in
theorem jCc (id n:Nat) (a b:ByteArray) (w:World) (hT:Tabs w) (h8:id<256) (hn:n<4294967296) (ha:a.size≤9223372036854775807) (hb:b.size≤9223372036854775807) :
  Calls Tryz.prog 180 #[.agg #[.int .u8 id,.int .u32 n,.string a,.string b]] w λe w'=>e=.returned (.bool (xf id n a b))∧Kept No w w':=by
 unfold xf;have cR:=λwx hT=>j76 id n a b wx hT h8 hn ha hb
 rcases hR:xu id n a b with _|_
 ·rw[hR]at cR
  have HR:=Lib.hid cR;rw[Bool.false_and];clear cR hR
  go_enter Tryz.func180,Tryz.ntmps180
  go_wp2_with (go_at_call 189;refine (HR.out _ (hT.kept ((Kept.refl No w).alloc _))).mono ?_;rintro e w2 ⟨rfl,hk2⟩)
  go_ret
  exact ⟨rfl,((Kept.refl No w).alloc _).trans hk2⟩
 rw[hR]at cR;have HR:=Lib.hid cR;rw[Bool.true_and];clear cR hR;have cN:=λwx hT=>j70 a wx ha hT
 generalize hV:j55 id n a=V
 by_cases h1:id=1∨id=23∨id=25∨id=36∨id=37∨id=40∨id=41∨id=42
 ·rcases h1 with rfl|rfl|rfl|rfl|rfl|rfl|rfl|rfl
  all_goals
   have HV:Hid (V=decide (n≤1)):=Lib.hid (by rw[← hV];rfl);have HQ:=Lib.hid (jIp n);clear hV cN
   go_enter Tryz.func180,Tryz.ntmps180
   go_wp2_with (first
    | (go_at_call 189;refine (HR.out _ (hT.kept ((Kept.refl No w).alloc _))).mono ?_;rintro e w2 ⟨rfl,hk2⟩;have hc0:=qR hk2 0;have hc1:=qR hk2 1;have hc2:=qR hk2 2;simp at hc0 hc1 hc2))
   go_ret
   exact ⟨by rw[HV.out,← HQ.out];rfl,((Kept.refl No w).alloc _).trans hk2⟩
 by_cases h2:id=11∨id=33∨id=35∨id=39
 ·rcases h2 with rfl|rfl|rfl|rfl
  all_goals
   have HV:Hid (V = !decide (n=0)):=Lib.hid (by rw[← hV];rfl);have HQ:=Lib.hid (jDi n);clear hV cN
   go_enter Tryz.func180,Tryz.ntmps180
   go_wp2_with (first
    | (go_at_call 189;refine (HR.out _ (hT.kept ((Kept.refl No w).alloc _))).mono ?_;rintro e w2 ⟨rfl,hk2⟩;have hc0:=qR hk2 0;have hc1:=qR hk2 1;have hc2:=qR hk2 2;simp at hc0 hc1 hc2))
   go_ret
   exact ⟨by rw[HV.out,← HQ.out];rfl,((Kept.refl No w).alloc _).trans hk2⟩
 by_cases h3:id=8
 ·subst h3
  have HV:Hid (V=vp a):=Lib.hid (by rw[← hV];rfl);generalize vp a=NB at *;have HN:=Lib.hid cN;clear hV cN
  go_enter Tryz.func180,Tryz.ntmps180
  go_wp2_with (first
   | (go_at_call 189;refine (HR.out _ (hT.kept ((Kept.refl No w).alloc _))).mono ?_;rintro e w2 ⟨rfl,hk2⟩;have hc0:=qR hk2 0;have hc1:=qR hk2 1;have hc2:=qR hk2 2;simp at hc0 hc1 hc2)
   | (go_at_call 186;refine (HN.out _ ((hT.kept ((Kept.refl No w).alloc _)).kept hk2)).mono ?_;rintro e w3 ⟨rfl,hk3⟩))
  go_ret
  exact ⟨by rw[HV.out];rfl,(((Kept.refl No w).alloc _).trans hk2).trans hk3⟩
 have HV:Hid (V=true):=Lib.hid (by rw[← hV];unfold j55;rw[if_neg (by simp;omega),if_neg (by simp;omega),if_neg h3]);have b1:((id:Int) == 1)=false:=by simp;omega
 have b23:((id:Int) == 23)=false:=by simp;omega
 have b25:((id:Int) == 25)=false:=by simp;omega
 have b36:((id:Int) == 36)=false:=by simp;omega
 have b37:((id:Int) == 37)=false:=by simp;omega
 have b40:((id:Int) == 40)=false:=by simp;omega
 have b41:((id:Int) == 41)=false:=by simp;omega
 have b42:((id:Int) == 42)=false:=by simp;omega
 have b11:((id:Int) == 11)=false:=by simp;omega
 have b33:((id:Int) == 33)=false:=by simp;omega
 have b35:((id:Int) == 35)=false:=by simp;omega
 have b39:((id:Int) == 39)=false:=by simp;omega
 have b8:((id:Int) == 8)=false:=by simp;omega
 clear hV cN h1 h2 h3
 go_enter Tryz.func180,Tryz.ntmps180
 go_wp2_with (first
  | (go_at_call 189;refine (HR.out _ (hT.kept ((Kept.refl No w).alloc _))).mono ?_;rintro e w2 ⟨rfl,hk2⟩;have hc0:=qR hk2 0;have hc1:=qR hk2 1;have hc2:=qR hk2 2;simp at hc0 hc1 hc2))
 go_ret
 exact ⟨by rw[HV.out];rfl,((Kept.refl No w).alloc _).trans hk2⟩
set_option maxRecDepth 100000 in
theorem jCj (id n:Nat) (a b:ByteArray) (w:World) (h8:id<256) (hn:n<4294967296) (ha:a.size≤9223372036854775807) (hb:b.size≤9223372036854775807) :
  Calls Tryz.prog 146 #[.agg #[.int .u8 id,.int .u32 n,.string a,.string b]] w λe w'=>e=.returned (.bool (xf id n a b))∧Kept No w w':=by
 unfold xf;have cR:=λwx=>j7c id n a b wx h8 hn ha hb
 rcases hR:xu id n a b with _|_
 ·rw[hR]at cR
  have HR:=Lib.hid cR;rw[Bool.false_and];clear cR hR
  go_enter Tryz.func146,Tryz.ntmps146
  go_wp2_with (go_at_call 162;refine (HR.out _).mono ?_;rintro e w2 ⟨rfl,hk2⟩)
  go_ret
  exact ⟨rfl,((Kept.refl No w).alloc _).trans hk2⟩
 rw[hR]at cR;have HR:=Lib.hid cR;rw[Bool.true_and];clear cR hR;have cN:=λwx=>j4z a wx ha
 generalize hV:j55 id n a=V
 by_cases h1:id=1∨id=23∨id=25∨id=36∨id=37∨id=40∨id=41∨id=42
 ·rcases h1 with rfl|rfl|rfl|rfl|rfl|rfl|rfl|rfl
  all_goals
   have HV:Hid (V=decide (n≤1)):=Lib.hid (by rw[← hV];rfl);have HQ:=Lib.hid (jIq n);clear hV cN
   go_enter Tryz.func146,Tryz.ntmps146
   go_wp2_with (first
    | (go_at_call 162;refine (HR.out _).mono ?_;rintro e w2 ⟨rfl,hk2⟩;have hc0:=qR hk2 0;have hc1:=qR hk2 1;have hc2:=qR hk2 2;simp at hc0 hc1 hc2))
   go_ret
   exact ⟨by rw[HV.out,← HQ.out];rfl,((Kept.refl No w).alloc _).trans hk2⟩
 by_cases h2:id=11∨id=33∨id=35∨id=39
 ·rcases h2 with rfl|rfl|rfl|rfl
  all_goals
   have HV:Hid (V = !decide (n=0)):=Lib.hid (by rw[← hV];rfl);have HQ:=Lib.hid (jDi n);clear hV cN
   go_enter Tryz.func146,Tryz.ntmps146
   go_wp2_with (first
    | (go_at_call 162;refine (HR.out _).mono ?_;rintro e w2 ⟨rfl,hk2⟩;have hc0:=qR hk2 0;have hc1:=qR hk2 1;have hc2:=qR hk2 2;simp at hc0 hc1 hc2))
   go_ret
   exact ⟨by rw[HV.out,← HQ.out];rfl,((Kept.refl No w).alloc _).trans hk2⟩
 by_cases h3:id=8
 ·subst h3
  have HV:Hid (V=vp a):=Lib.hid (by rw[← hV];rfl);generalize vp a=NB at *;have HN:=Lib.hid cN;clear hV cN
  go_enter Tryz.func146,Tryz.ntmps146
  go_wp2_with (first
   | (go_at_call 162;refine (HR.out _).mono ?_;rintro e w2 ⟨rfl,hk2⟩;have hc0:=qR hk2 0;have hc1:=qR hk2 1;have hc2:=qR hk2 2;simp at hc0 hc1 hc2)
   | (go_at_call 147;refine (HN.out _).mono ?_;rintro e w3 ⟨rfl,hk3⟩))
  go_ret
  exact ⟨by rw[HV.out];rfl,(((Kept.refl No w).alloc _).trans hk2).trans hk3⟩
 have HV:Hid (V=true):=Lib.hid (by rw[← hV];unfold j55;rw[if_neg (by simp;omega),if_neg (by simp;omega),if_neg h3]);have b1:((id:Int) == 1)=false:=by simp;omega
 have b23:((id:Int) == 23)=false:=by simp;omega
 have b25:((id:Int) == 25)=false:=by simp;omega
 have b36:((id:Int) == 36)=false:=by simp;omega
 have b37:((id:Int) == 37)=false:=by simp;omega
 have b40:((id:Int) == 40)=false:=by simp;omega
 have b41:((id:Int) == 41)=false:=by simp;omega
 have b42:((id:Int) == 42)=false:=by simp;omega
 have b11:((id:Int) == 11)=false:=by simp;omega
 have b33:((id:Int) == 33)=false:=by simp;omega
 have b35:((id:Int) == 35)=false:=by simp;omega
 have b39:((id:Int) == 39)=false:=by simp;omega
 have b8:((id:Int) == 8)=false:=by simp;omega
 clear hV cN h1 h2 h3
 go_enter Tryz.func146,Tryz.ntmps146
 go_wp2_with (first
  | (go_at_call 162;refine (HR.out _).mono ?_;rintro e w2 ⟨rfl,hk2⟩;have hc0:=qR hk2 0;have hc1:=qR hk2 1;have hc2:=qR hk2 2;simp at hc0 hc1 hc2))
 go_ret
 exact ⟨by rw[HV.out];rfl,((Kept.refl No w).alloc _).trans hk2⟩
theorem jN8 (id n:Nat) (a b:ByteArray) (w:World) :
  Calls Tryz.prog 97 #[.agg #[.int .u8 id,.int .u32 n,.string a,.string b]] w λe w'=>e=.returned (.agg #[.int .u8 id,.int .u32 n,.string a,.string b])∧Kept No w w':=by
 go_enter Tryz.func97,Tryz.ntmps97
 go_wp2
 exact bodyPost_ret (v:=.agg #[.int .u8 id,.int .u32 n,.string a,.string b]) (by simp[results,Tryz.results97,go_sem]) rfl ⟨rfl,((Kept.refl No w).alloc _).alloc _⟩
end Go.Proofs.YtdeecgmihfakgaaGreatDoor
