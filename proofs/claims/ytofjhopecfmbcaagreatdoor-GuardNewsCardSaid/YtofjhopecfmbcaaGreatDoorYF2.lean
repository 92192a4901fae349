import Derived.Test.YtofjhopecfmbcaaGreatDoorText
import Derived.Test.YtofjhopecfmbcaaGreatDoorShelf
import Derived.Test.YtofjhopecfmbcaaGreatDoorPrp
import Derived.Lib.SplitLaws
import Derived.Lib.Split
import Derived.Lib.IndexBytes
import Derived.Lib.Hide
import Derived.Lib.DecodeN
import Derived.Laws.RangeAny
import Derived.Lib.OthersKept
import Derived.Lib.IndexAny
import Derived.Laws.Runes
import Derived.Lib.RuneBytes
import Derived.Deep.LoopGhost
import Derived.Deep.QuietTactic
import Derived.BigQuiet
import Derived.Shelf.Strings.IndexAnyAll
import Derived.WalkMore
import Derived.Shelf.Strings.Split
import Derived.Shelf.Strings.SplitCore
import Derived.Lib.CutLaws
namespace Go.Proofs.YtofjhopecfmbcaaGreatDoor
open Go.RowKit
set_option linter.unusedVariables false
set_option linter.unusedSimpArgs false
theorem Kept.of_below {w w':World} (h:Below w.heap.size w w'):Kept No w w':=⟨h.os,h.tape,h.output,h.size,fun k hk _=>h.block k hk⟩
def Tabs (w:World):Prop:=Lib.Utf8Tabs (Tryz.laysValid_ren.g 3) (Tryz.laysValid_ren.g 4) w
theorem cell_lt {w:World} {b o:Nat} {v:Value} (h:w.cell? ⟨b,o,none⟩=some v):b < w.heap.size:=by
 rcases Nat.lt_or_ge b w.heap.size with hlt|hge
 ·exact hlt
 ·simp[World.cell?,Array.getElem?_eq_none hge]at h
theorem Tabs.kept {w w':World} (h:Tabs w) (hk:Kept No w w'):Tabs w' :=
  ⟨fun c hc=>(hk.cell (p:=⟨_,c,none⟩) (cell_lt (h.1 c hc)) (fun f=>f)).trans (h.1 c hc),
   fun i hi=>⟨(hk.cell (p:=⟨_,2 * i,none⟩) (cell_lt (h.2 i hi).1) (fun f=>f)).trans (h.2 i hi).1,(hk.cell (p:=⟨_,2 * i+1,none⟩) (cell_lt (h.2 i hi).2) (fun f=>f)).trans (h.2 i hi).2⟩⟩
theorem indexByte_lt (l:List UInt8) (c:UInt8):(Lib.indexByte l c < 0)↔c ∉ l:=by
 have key:∀ l:List UInt8,-1≤Lib.indexByte l c∧((Lib.indexByte l c = -1)↔c ∉ l):=by
  intro l
  induction l with
  | nil=>simp[Lib.indexByte]
  | cons b t ih =>
   unfold Lib.indexByte
   by_cases hb:b=c
   ·simp[hb]
   ·rw[if_neg (by simpa using hb)]
    by_cases ht:Lib.indexByte t c = -1
    ·rw[if_pos (by simpa using ht)]
     exact ⟨by omega,by have:=ih.2.1 ht;simp[this];exact fun e=>hb e.symm⟩
    ·rw[if_neg (by simpa using ht)]
     refine ⟨by have:=ih.1;omega,?_⟩
     have h2:c∈t:=by
      rcases Decidable.em (c∈t) with h|h
      ·exact h
      ·exact absurd (ih.2.2 h) ht
     have h3:=ih.1;constructor
     ·intro e;omega
     ·intro e;simp[h2]at e
 have:=key l
 constructor
 ·intro h;exact this.2.1 (by omega)
 ·intro h;have:=this.2.2 h;omega
def okText (s:ByteArray):Bool:=decide (s.size≤65535)&&isText s.data.toList
set_option maxRecDepth 100000 in
set_option maxHeartbeats 1000000 in
theorem right_any (s:ByteArray) (w:World) (hs:s.size≤9223372036854775807) (hT:Tabs w) :
  Calls Tryz.prog 126 #[.string s] w fun e w'=>e=.returned (.bool (okText s))∧Kept No w w':=by
 have cV:Calls Tryz.prog 146 #[.string s] w _:=Any.utf8_ValidString Tryz.laysValid s w hs hT;have cI:=Tryz.strings_IndexByte s 0;have hz:(0:Int).toNat.toUInt8=0:=rfl;have hI:=indexByte_lt s.data.toList 0;rw[hz]at cI;have hV:Lib.validD s.data.toList=true∨Lib.validD s.data.toList=false:=by cases Lib.validD s.data.toList<;>simp
 have hC:s.data.toList.contains 0=decide (0∈s.data.toList):=by rw[Bool.eq_iff_iff,List.contains_iff_mem];simp
 unfold okText isText;rw[hC];generalize Lib.validD s.data.toList=V at *;generalize Lib.indexByte s.data.toList 0=I at *;have HV:=Lib.hid cV;have HI:=Lib.hid cI;clear cV cI hz hC
 by_cases h0:s.size≤65535
 ·have h0z:(s.size:Int)≤65535:=by omega
  rw[decide_eq_true h0];rcases hV with rfl|rfl
  ·by_cases hi:I < 0
   ·have hm:¬ (0∈s.data.toList):=hI.1 hi
    rw[decide_eq_false hm];clear hI hm h0
    go_enter Tryz.func126,Tryz.ntmps126
    go_wp2_with (first
     | (go_at_call 146;refine HV.out.mono ?_;rintro e w1 ⟨rfl,hb⟩)
     | (go_at_call 147;refine (HI.out _).mono ?_;rintro e w2 ⟨rfl,rfl⟩))
    go_ret
    exact ⟨rfl,.of_below hb⟩
   ·have hm:0∈s.data.toList:=Decidable.of_not_not fun h=>hi (hI.2 h)
    rw[decide_eq_true hm];have hi':0≤I:=by omega
    have hd:decide (I < 0)=false:=decide_eq_false hi;clear hI hm h0 hi
    go_enter Tryz.func126,Tryz.ntmps126
    go_wp2_with (first
     | (go_at_call 146;refine HV.out.mono ?_;rintro e w1 ⟨rfl,hb⟩)
     | (go_at_call 147;refine (HI.out _).mono ?_;rintro e w2 ⟨rfl,rfl⟩))
    go_ret
    exact ⟨by first|rfl|(show Ending.returned (.bool (decide (I < 0)))=_;rw[hd];rfl),.of_below hb⟩
  ·clear hI h0
   go_enter Tryz.func126,Tryz.ntmps126
   go_wp2_with (first
    | (go_at_call 146;refine HV.out.mono ?_;rintro e w1 ⟨rfl,hb⟩))
   go_ret
   exact ⟨rfl,.of_below hb⟩
 ·have h0z:(65535:Int) < s.size:=by omega
  rw[decide_eq_false h0];clear hI h0 hV
  go_enter Tryz.func126,Tryz.ntmps126
  go_wp2
  go_ret
  exact ⟨rfl,Kept.refl _ _⟩
def noTexts (a b:ByteArray):Bool:=a.toList.isEmpty&&b.toList.isEmpty
def numB (n most:Nat) (a b:ByteArray):Bool:=decide (n≤most)&&noTexts a b
set_option maxRecDepth 100000 in
set_option maxHeartbeats 1000000 in
theorem number_any (id n most:Nat) (a b:ByteArray) (w:World) :
  Calls Tryz.prog 179 #[.agg #[.int .u8 id,.int .u32 n,.string a,.string b],.int .u32 most] w fun e w'=>e=.returned (.bool (numB n most a b))∧Kept No w w':=by
 unfold numB noTexts;generalize hB:(decide (n≤most)&&(a.toList.isEmpty&&b.toList.isEmpty))=B
 by_cases h1:n≤most
 ·have h1z:(n:Int)≤most:=by omega
  rcases ha:a.toList.isEmpty with _|_
  ·have HB:Hid (B=false):=Lib.hid (by rw[← hB,ha];simp)
   clear hB
   go_enter Tryz.func179,Tryz.ntmps179
   go_wp2
   go_ret
   exact ⟨by rw[HB.out];rfl,(Kept.refl No w).alloc _⟩
  ·have HB:Hid (B=b.toList.isEmpty):=Lib.hid (by rw[← hB,ha,decide_eq_true h1];simp)
   clear hB
   go_enter Tryz.func179,Tryz.ntmps179
   go_wp2
   go_ret
   exact ⟨by rw[HB.out];rfl,(Kept.refl No w).alloc _⟩
 ·have h1z:(most:Int) < n:=by omega
  have hd:decide ((n:Int)≤(most:Int))=false:=by simp;omega
  have HB:Hid (B=false):=Lib.hid (by rw[← hB,decide_eq_false h1];simp);clear hB
  go_enter Tryz.func179,Tryz.ntmps179
  go_wp2
  go_ret
  exact ⟨by rw[HB.out];rfl,(Kept.refl No w).alloc _⟩
def rightT (t n:Nat) (a b:ByteArray):Bool :=
 if t=1 then numB n 255 a b
 else if t=2 then numB n 65535 a b
 else if t=3 then numB n 4294967295 a b
 else if t=4 then numB n 268435455 a b
 else if t=5 then decide (n=0)&&(okText a&&b.toList.isEmpty)
 else if t=6 then decide (n=0)&&(decide (a.size≤65535)&&b.toList.isEmpty)
 else if t=7 then decide (n=0)&&(okText a&&okText b)
 else false
def rightB (id n:Nat) (a b:ByteArray):Bool:=rightT (typL id) n a b
theorem box_cell {w w':World} {t:TypeId} {cs:Array Value} (hk:Kept No (w.alloc (.cells cs t)) w') (i:Nat):w'.cell? ⟨w.heap.size,i,none⟩=cs[i]? :=
 ((Blk.new w t cs).kept hk (fun f=>f)).cell i
set_option maxRecDepth 100000 in
set_option maxHeartbeats 4000000 in
theorem pright_any (id n:Nat) (a b:ByteArray) (w:World) (hT:Tabs w) (h8:id < 256) (hn:n < 4294967296) (ha:a.size≤9223372036854775807) (hb:b.size≤9223372036854775807) :
  Calls Tryz.prog 160 #[.agg #[.int .u8 id,.int .u32 n,.string a,.string b]] w fun e w'=>e=.returned (.bool (rightB id n a b))∧Kept No w w':=by
 have cT:=type_any id;have ht:=typL_le id;unfold rightB;generalize typL id=t at *;have HT:=Lib.hid cT;clear cT;have HN:=Lib.hid (fun most wx=>number_any id n most a b wx);rcases (show t=0∨t=1∨t=2∨t=3∨t=4∨t=5∨t=6∨t=7 from by omega) with rfl|rfl|rfl|rfl|rfl|rfl|rfl|rfl
 ·go_enter Tryz.func160,Tryz.ntmps160
  go_wp2_with (go_at_call 178;refine (HT.out _).mono ?_;rintro e w1 ⟨rfl,rfl⟩)
  go_ret
  exact ⟨rfl,(Kept.refl No w).alloc _⟩
 ·have HM:=Lib.hid (fun wx=>(HN.out 255 wx))
  generalize hR:rightT 1 n a b=R;have HR:=Lib.hid hR;clear hR
  go_enter Tryz.func160,Tryz.ntmps160
  go_wp2_with (first
   | (go_at_call 178;refine (HT.out _).mono ?_;rintro e w1 ⟨rfl,rfl⟩)
   | (go_at_call 179;refine (HM.out _).mono ?_;rintro e w2 ⟨rfl,hk2⟩))
  go_ret
  exact ⟨by rw[← HR.out];rfl,((Kept.refl No w).alloc _).trans hk2⟩
 ·have HM:=Lib.hid (fun wx=>(HN.out 65535 wx))
  generalize hR:rightT 2 n a b=R;have HR:=Lib.hid hR;clear hR
  go_enter Tryz.func160,Tryz.ntmps160
  go_wp2_with (first
   | (go_at_call 178;refine (HT.out _).mono ?_;rintro e w1 ⟨rfl,rfl⟩)
   | (go_at_call 179;refine (HM.out _).mono ?_;rintro e w2 ⟨rfl,hk2⟩))
  go_ret
  exact ⟨by rw[← HR.out];rfl,((Kept.refl No w).alloc _).trans hk2⟩
 ·have HM:=Lib.hid (fun wx=>(HN.out 4294967295 wx))
  generalize hR:rightT 3 n a b=R;have HR:=Lib.hid hR;clear hR
  go_enter Tryz.func160,Tryz.ntmps160
  go_wp2_with (first
   | (go_at_call 178;refine (HT.out _).mono ?_;rintro e w1 ⟨rfl,rfl⟩)
   | (go_at_call 179;refine (HM.out _).mono ?_;rintro e w2 ⟨rfl,hk2⟩))
  go_ret
  exact ⟨by rw[← HR.out];rfl,((Kept.refl No w).alloc _).trans hk2⟩
 ·have HM:=Lib.hid (fun wx=>(HN.out 268435455 wx))
  generalize hR:rightT 4 n a b=R;have HR:=Lib.hid hR;clear hR
  go_enter Tryz.func160,Tryz.ntmps160
  go_wp2_with (first
   | (go_at_call 178;refine (HT.out _).mono ?_;rintro e w1 ⟨rfl,rfl⟩)
   | (go_at_call 179;refine (HM.out _).mono ?_;rintro e w2 ⟨rfl,hk2⟩))
  go_ret
  exact ⟨by rw[← HR.out];rfl,((Kept.refl No w).alloc _).trans hk2⟩
 ·generalize hR:rightT 5 n a b=R
  by_cases h0:n=0
  ·subst h0
   have cO:=fun wx hT=>right_any a wx ha hT
   rcases hO:okText a with _|_
   ·rw[hO]at cO
    have HO:=Lib.hid cO;have HR:Hid (R=false):=Lib.hid (by rw[← hR];unfold rightT;simp[hO]);clear hR cO hO
    go_enter Tryz.func160,Tryz.ntmps160
    go_wp2_with (first
     | (go_at_call 178;refine (HT.out _).mono ?_;rintro e w1 ⟨rfl,rfl⟩)
     | (go_at_call 126;refine (HO.out _ (hT.kept ((Kept.refl No w).alloc _))).mono ?_;rintro e w2 ⟨rfl,hk2⟩;have hc3:=box_cell hk2 3;simp at hc3))
    go_ret
    exact ⟨by rw[HR.out];rfl,((Kept.refl No w).alloc _).trans hk2⟩
   ·rw[hO]at cO
    have HO:=Lib.hid cO;have HR:Hid (R=b.toList.isEmpty):=Lib.hid (by rw[← hR];unfold rightT;simp[hO]);clear hR cO hO
    go_enter Tryz.func160,Tryz.ntmps160
    go_wp2_with (first
     | (go_at_call 178;refine (HT.out _).mono ?_;rintro e w1 ⟨rfl,rfl⟩)
     | (go_at_call 126;refine (HO.out _ (hT.kept ((Kept.refl No w).alloc _))).mono ?_;rintro e w2 ⟨rfl,hk2⟩;have hc3:=box_cell hk2 3;simp at hc3))
    go_ret
    exact ⟨by rw[HR.out];rfl,((Kept.refl No w).alloc _).trans hk2⟩
  ·have HR:Hid (R=false):=Lib.hid (by rw[← hR];unfold rightT;simp[h0])
   have hz:((n:Int) == 0)=false:=by simp;omega
   clear hR h0
   go_enter Tryz.func160,Tryz.ntmps160
   go_wp2_with (go_at_call 178;refine (HT.out _).mono ?_;rintro e w1 ⟨rfl,rfl⟩)
   go_ret
   exact ⟨by rw[HR.out];rfl,(Kept.refl No w).alloc _⟩
 ·generalize hR:rightT 6 n a b=R
  by_cases h0:n=0
  ·subst h0
   by_cases hs:a.size≤65535
   ·have HR:Hid (R=b.toList.isEmpty):=Lib.hid (by rw[← hR];unfold rightT;simp[hs])
    have hsz:(a.size:Int)≤65535:=by omega
    clear hR
    go_enter Tryz.func160,Tryz.ntmps160
    go_wp2_with (go_at_call 178;refine (HT.out _).mono ?_;rintro e w1 ⟨rfl,rfl⟩)
    go_ret
    exact ⟨by rw[HR.out];rfl,(Kept.refl No w).alloc _⟩
   ·have HR:Hid (R=false):=Lib.hid (by rw[← hR];unfold rightT;simp[hs])
    have hsz:(65535:Int) < a.size:=by omega
    have hd:decide ((a.size:Int)≤65535)=false:=by simp;omega
    clear hR
    go_enter Tryz.func160,Tryz.ntmps160
    go_wp2_with (go_at_call 178;refine (HT.out _).mono ?_;rintro e w1 ⟨rfl,rfl⟩)
    go_ret
    exact ⟨by rw[HR.out];rfl,(Kept.refl No w).alloc _⟩
  ·have HR:Hid (R=false):=Lib.hid (by rw[← hR];unfold rightT;simp[h0])
   have hz:((n:Int) == 0)=false:=by simp;omega
   clear hR h0
   go_enter Tryz.func160,Tryz.ntmps160
   go_wp2_with (go_at_call 178;refine (HT.out _).mono ?_;rintro e w1 ⟨rfl,rfl⟩)
   go_ret
   exact ⟨by rw[HR.out];rfl,(Kept.refl No w).alloc _⟩
 ·generalize hR:rightT 7 n a b=R
  by_cases h0:n=0
  ·subst h0
   have cO:=fun wx hT=>right_any a wx ha hT
   have cP:=Lib.hid (fun wx hT=>right_any b wx hb hT);rcases hO:okText a with _|_
   ·rw[hO]at cO
    have HO:=Lib.hid cO;have HR:Hid (R=false):=Lib.hid (by rw[← hR];unfold rightT;simp[hO]);clear hR cO hO
    go_enter Tryz.func160,Tryz.ntmps160
    go_wp2_with (first
     | (go_at_call 178;refine (HT.out _).mono ?_;rintro e w1 ⟨rfl,rfl⟩)
     | (go_at_call 126;refine (HO.out _ (hT.kept ((Kept.refl No w).alloc _))).mono ?_;rintro e w2 ⟨rfl,hk2⟩;have hc3:=box_cell hk2 3;simp at hc3))
    go_ret
    exact ⟨by rw[HR.out];rfl,((Kept.refl No w).alloc _).trans hk2⟩
   ·rw[hO]at cO
    have HO:=Lib.hid cO;have HR:Hid (R=okText b):=Lib.hid (by rw[← hR];unfold rightT;simp[hO]);clear hR cO hO;generalize okText b=B at *
    go_enter Tryz.func160,Tryz.ntmps160
    go_wp2_with (first
     | (go_at_call 178;refine (HT.out _).mono ?_;rintro e w1 ⟨rfl,rfl⟩)
     | (go_at_call 126;with_reducible refine (HO.out _ (hT.kept ((Kept.refl No w).alloc _))).mono ?_;rintro e w2 ⟨rfl,hk2⟩;have hc3:=box_cell hk2 3;simp at hc3)
     | (go_at_call 126;refine (cP.out _ ((hT.kept ((Kept.refl No w).alloc _)).kept hk2)).mono ?_;rintro e w3 ⟨rfl,hk3⟩))
    go_ret
    exact ⟨by rw[HR.out];rfl,(((Kept.refl No w).alloc _).trans hk2).trans hk3⟩
  ·have HR:Hid (R=false):=Lib.hid (by rw[← hR];unfold rightT;simp[h0])
   have hz:((n:Int) == 0)=false:=by simp;omega
   clear hR h0
   go_enter Tryz.func160,Tryz.ntmps160
   go_wp2_with (go_at_call 178;refine (HT.out _).mono ?_;rintro e w1 ⟨rfl,rfl⟩)
   go_ret
   exact ⟨by rw[HR.out];rfl,(Kept.refl No w).alloc _⟩
def lev:List UInt8→List (List UInt8)
 | []=>[[]]
 | b :: t=>if b=47 then [] :: lev t else match lev t with
  | []=>[[b]]
  | h :: r=>(b :: h) :: r
theorem lev_none (p:List UInt8) (h:47 ∉ p):lev p=[p]:=by
 induction p with
 | nil=>rfl
 | cons b t ih =>
  have hb:¬ b=47:=fun e=>h (by simp[e])
  rw[lev,if_neg hb,ih (fun hm=>h (List.mem_cons_of_mem _ hm))]
theorem lev_app (p q:List UInt8) (h:47 ∉ p):lev (p++47 :: q)=p :: lev q:=by
 induction p with
 | nil=>rw[List.nil_append,lev,if_pos rfl]
 | cons b t ih =>
  have hb:¬ b=47:=fun e=>h (by simp[e])
  rw[List.cons_append,lev,if_neg hb,ih (fun hm=>h (List.mem_cons_of_mem _ hm))]
theorem lev_len (l:List UInt8):(lev l).length≤l.length+1:=by
 induction l with
 | nil=>simp[lev]
 | cons b t ih =>
  rw[lev]
  split
  ·simp;omega
  ·split
   ·simp
   ·rename_i e;rw[e]at ih;simp at ih ⊢;omega
theorem lev_mem (l x:List UInt8) (h:x∈lev l):x.length≤l.length:=by
 induction l generalizing x with
 | nil=>simp[lev]at h;simp[h]
 | cons b t ih =>
  rw[lev]at h
  split at h
  ·rcases List.mem_cons.1 h with rfl|h
   ·simp
   ·have:=ih x h;simp;omega
  ·split at h
   ·simp at h;simp[h]
   ·rename_i e
    rcases List.mem_cons.1 h with rfl|h
    ·rename_i hh rr;have:=ih hh (by rw[e];simp);simp;omega
    ·have:=ih x (by rw[e];simp[h]);simp;omega
theorem indexByte_hit (c:UInt8):∀ (l:List UInt8) (i:Nat),Lib.indexByte l c=i→c ∉ l.take i∧l=l.take i++c :: l.drop (i+1):=by
 intro l
 induction l with
 | nil=>intro i h;simp[Lib.indexByte]at h
 | cons b t ih =>
  intro i h;unfold Lib.indexByte at h
  by_cases hb:b=c
  ·rw[if_pos (by simpa using hb)]at h
   have:i=0:=by omega
   subst this hb;simp
  ·rw[if_neg (by simpa using hb)]at h
   split at h
   ·omega
   ·obtain ⟨i',rfl⟩:∃ i',i=i'+1:=⟨i - 1,by
     rename_i hm
     have:Lib.indexByte t c≠-1:=by simpa using hm
     by_cases h0:i=0
     ·subst h0;exact absurd (by omega) this
     ·omega⟩
    have:=ih i' (by omega)
    refine ⟨by simp[this.1];exact fun e=>hb e.symm,?_⟩;simp only[List.take_succ_cons,List.drop_succ_cons,List.cons_append];rw[← this.2]
theorem indexByte_miss (c:UInt8) (l:List UInt8):Lib.indexByte l c = -1↔c ∉ l:=by
 induction l with
 | nil=>simp[Lib.indexByte]
 | cons b t ih =>
  unfold Lib.indexByte
  by_cases hb:b=c
  ·simp[hb]
  ·rw[if_neg (by simpa using hb)]
   by_cases hm:Lib.indexByte t c = -1
   ·rw[if_pos (by simpa using hm)]
    have:=ih.1 hm
    simp[this];exact fun e=>hb e.symm
   ·rw[if_neg (by simpa using hm)]
    have h1:c∈t:=Decidable.of_not_not fun h=>hm (ih.2 h)
    constructor
    ·intro h
     rw[← Lib.index_one]at h
     have:=Lib.index_ge t [c]
     omega
    ·intro h;simp[h1]at h
theorem splitK_lev:∀ (k:Nat) (l:List UInt8),l.count 47≤k→Lib.splitK [47] 0 k l=lev l:=by
 intro k
 induction k with
 | zero =>
  intro l h;have hn:47 ∉ l:=List.count_eq_zero.1 (by omega);rw[lev_none l hn]
  rfl
 | succ k ih =>
  intro l h;unfold Lib.splitK;rw[Lib.index_one]
  by_cases hm:Lib.indexByte l 47 = -1
  ·rw[if_pos (by simpa using hm),lev_none l ((indexByte_miss 47 l).1 hm)]
  ·rw[if_neg (by simpa using hm)]
   have hge:=Lib.index_ge l [47];rw[Lib.index_one]at hge;obtain ⟨i,hi⟩:∃ i:Nat,Lib.indexByte l 47=i:=⟨(Lib.indexByte l 47).toNat,by omega⟩
   obtain ⟨h1,h2⟩:=indexByte_hit 47 l i hi;rw[hi,Int.toNat_natCast]
   have hc:(l.drop (i+1)).count 47≤k:=by
    have:l.count 47=(l.take i).count 47+(1+(l.drop (i+1)).count 47):=by
     conv=>lhs;rw[h2]
     rw[List.count_append,List.count_cons];simp;omega
    omega
   rw[show i+([47]:List UInt8).length=i+1 from rfl,Nat.add_zero,ih _ hc]
   conv=>rhs;rw[h2]
   rw[lev_app _ _ h1]
def whoL (r:List UInt8):List UInt8:=r.takeWhile (· != 47)
def whatL (r:List UInt8):List UInt8:=(r.dropWhile (· != 47)).drop 1
theorem who_app (p q:List UInt8) (h:47 ∉ p):whoL (p++47 :: q)=p∧whatL (p++47 :: q)=q:=by
 have hp:∀ a∈p,(a != 47)=true:=fun a ha=>by
  have:a≠47:=fun e=>h (by rw[← e];exact ha)
  simpa using this
 constructor
 ·unfold whoL
  rw[List.takeWhile_append_of_pos hp];simp
 ·unfold whatL
  rw[List.dropWhile_append_of_pos hp];simp
theorem who_none (p:List UInt8) (h:47 ∉ p):whoL p=p∧whatL p=[]:=by
 have hp:∀ a∈p,(a != 47)=true:=fun a ha=>by
  have:a≠47:=fun e=>h (by rw[← e];exact ha)
  simpa using this
 constructor
 ·unfold whoL
  have:=List.takeWhile_append_of_pos (l₂:=[]) hp
  simpa using this
 ·unfold whatL
  have:=List.dropWhile_append_of_pos (l₂:=[]) hp
  simp at this;rw[this]
  rfl
theorem cut_eq (l:List UInt8):Lib.cut l [47]=(whoL l,whatL l,l.contains 47):=by
 unfold Lib.cut;rw[Lib.index_one]
 by_cases hm:Lib.indexByte l 47 = -1
 ·have hn:=(indexByte_miss 47 l).1 hm
  rw[if_neg (by omega),(who_none l hn).1,(who_none l hn).2];simp[hn]
 ·have hge:=Lib.index_ge l [47]
  rw[Lib.index_one]at hge;obtain ⟨i,hi⟩:∃ i:Nat,Lib.indexByte l 47=i:=⟨(Lib.indexByte l 47).toNat,by omega⟩
  obtain ⟨h1,h2⟩:=indexByte_hit 47 l i hi;have hw:=who_app _ (l.drop (i+1)) h1;rw[← h2]at hw;have hmem:47∈l:=by rw[h2];simp
  rw[if_pos (by omega),hi,Int.toNat_natCast,hw.1,hw.2];simp[hmem]
def HighAt (s:ByteArray) (i:Nat):Prop :=
 128≤(Utf8.decode s i).1∧(Lib.validRune (Utf8.decode s i).1=true)∧1≤(Utf8.decode s i).2∧i+(Utf8.decode s i).2≤s.size∧∀ j,i≤j→j < i+(Utf8.decode s i).2→∀ b,s.data.toList[j]?=some b→128≤b.toNat
theorem get_bang (s:ByteArray) (j:Nat) (b:UInt8) (h:s.data.toList[j]?=some b):(s.get! j).toNat=b.toNat:=by
 rw[← Lib.getD_get!'];rw[List.getD_eq_getElem?_getD,h]
 rfl
theorem high_at (s:ByteArray) (i:Nat) (h:i < s.size) (h8:128≤(s.get! i).toNat):HighAt s i:=by
 unfold HighAt;rw[Lib.decode_at];have g1:=get_bang s;generalize hb0:(s.get! i).toNat=b0 at *;generalize hb1:(s.get! (i+1)).toNat=b1 at *;generalize hb2:(s.get! (i+2)).toNat=b2 at *;generalize hb3:(s.get! (i+3)).toNat=b3 at *;have u1:b1 < 256:=by rw[← hb1];exact byte_lt _
 have u0:b0 < 256:=by rw[← hb0];exact byte_lt _
 have one:∀ j,i≤j→j < i+1→∀ b,s.data.toList[j]?=some b→128≤b.toNat:=by
  intro j h1 h2 b hb;obtain rfl:j=i:=by omega
  rw[← g1 _ _ hb,hb0];exact h8
 have two:b1 / 64=2→∀ j,i≤j→j < i+2→∀ b,s.data.toList[j]?=some b→128≤b.toNat:=by
  intro hc j h1 h2 b hb;rcases (show j=i∨j=i+1 from by omega) with rfl|rfl
  ·rw[← g1 _ _ hb,hb0];exact h8
  ·rw[← g1 _ _ hb,hb1];omega
 have three:b1 / 64=2→b2 / 64=2→∀ j,i≤j→j < i+3→∀ b,s.data.toList[j]?=some b→128≤b.toNat:=by
  intro hc hd j h1 h2 b hb;rcases (show j=i∨j=i+1∨j=i+2 from by omega) with rfl|rfl|rfl
  ·rw[← g1 _ _ hb,hb0];exact h8
  ·rw[← g1 _ _ hb,hb1];omega
  ·rw[← g1 _ _ hb,hb2];omega
 have four:b1 / 64=2→b2 / 64=2→b3 / 64=2→∀ j,i≤j→j < i+4→∀ b,s.data.toList[j]?=some b→128≤b.toNat:=by
  intro hc hd he j h1 h2 b hb;rcases (show j=i∨j=i+1∨j=i+2∨j=i+3 from by omega) with rfl|rfl|rfl|rfl
  ·rw[← g1 _ _ hb,hb0];exact h8
  ·rw[← g1 _ _ hb,hb1];omega
  ·rw[← g1 _ _ hb,hb2];omega
  ·rw[← g1 _ _ hb,hb3];omega
 clear g1;unfold Lib.decodeN;rw[if_neg (by omega)]
 split
 ·rename_i c
  split
  ·exact ⟨by omega,by unfold Lib.validRune;simp;omega,by omega,by omega,two c.2.2⟩
  ·exact ⟨by decide,by decide,by decide,by omega,one⟩
 ·split
  ·rename_i c
   split
   ·exact ⟨by omega,by unfold Lib.validRune;simp;omega,by omega,by omega,three c.2.1.2 c.2.2.2⟩
   ·exact ⟨by decide,by decide,by decide,by omega,one⟩
  ·split
   ·rename_i c
    split
    ·exact ⟨by omega,by unfold Lib.validRune;simp;omega,by omega,by omega,four c.2.1.2 c.2.2.1.2 c.2.2.2.2⟩
    ·exact ⟨by decide,by decide,by decide,by omega,one⟩
   ·exact ⟨by decide,by decide,by decide,by omega,one⟩
def W2:ByteArray:=⟨#[43,35]⟩
set_option maxRecDepth 1000000 in
set_option maxHeartbeats 1000000 in
theorem indexRune_err (w:World):Calls Tryz.prog 153 #[.string ⟨#[43,35]⟩,.int .i32 65533] w fun e w'=>e=.returned (.int .i64 (-1))∧Kept No w w':=by
 have h0:=fun ty=>run_next_ascii (P:=Tryz.prog) w ⟨#[43,35]⟩ 0 ty (by decide) (by decide)
 have h1:=fun ty=>run_next_ascii (P:=Tryz.prog) w ⟨#[43,35]⟩ 1 ty (by decide) (by decide)
 have h2:=fun ty=>run_next_end (P:=Tryz.prog) w ⟨#[43,35]⟩ 2 ty (by decide)
 have e0:(((⟨#[43,35]⟩:ByteArray)[0]'(by decide)).toNat:Int)=43:=by decide
 have e1:(((⟨#[43,35]⟩:ByteArray)[1]'(by decide)).toNat:Int)=35:=by decide
 rw[e0]at h0;rw[e1]at h1;clear e0 e1
 go_enter Tryz.func153,Tryz.ntmps153
 go_wp2
 refine wp_loop_rounds 3 ?_
 repeat (rw[rounds_succ];go_wp2)
 go_ret
 exact ⟨rfl,(Kept.refl No w).alloc _⟩
set_option maxRecDepth 1000000 in
set_option maxHeartbeats 1000000 in
theorem indexRune_high (r:Nat) (w:World) (h1:128≤r) (h2:Lib.validRune r=true) (h3:r≠65533):Calls Tryz.prog 153 #[.string ⟨#[43,35]⟩,.int .i32 r] w fun e w'=>e=.returned (.int .i64 (-1))∧Kept No w w':=by
 have hr:((r:Int) == 65533)=false:=by simp;omega
 have h1z:(128:Int)≤r:=by omega
 have hv:Utf8.valid r=true:=by
  unfold Lib.validRune at h2;simp at h2;simp[Utf8.valid];omega
 have he:=encode_facts (r:Int) hv h1z;have HV:=Lib.hid h2;clear h2 h3 hv;generalize hR:Utf8.encode (r:Int)=R at *;obtain ⟨he1,he2,he3⟩:=he;rcases (show R.size=2∨3≤R.size from by omega) with hz|hz
 ·have hlt:1 < R.size:=by omega
  have hL:128≤(R[1]'hlt).toNat:=by
   have:=he3 (by omega)
   have e:R.size - 1=1:=by omega
   simp only[e]at this;exact this
  have hne:((35:Int) != ((R[1]'hlt).toNat:Int))=true:=by simp;omega
  have hltI:(1:Int) < R.size:=by omega
  have he35:(((⟨#[43,35]⟩:ByteArray)[1]'(by decide)).toNat:Int)=35:=by decide
  clear he3 he1 he2
  go_enter Tryz.func153,Tryz.ntmps153
  go_wp2_with (go_at_call 169;refine (Tryz.utf8_ValidRune _ _).mono ?_;rintro e w' ⟨rfl,hw⟩;rw[hw,HV.out])
  go_step3
  go_wp2
  refine wp_loop_rounds 1 ?_;rw[rounds_succ]
  go_wp2
  go_step3
  go_wp2
  go_quiet (fail)
  go_wp2
  have hkq:=(Kept.refl No w).drewN nq;generalize w.drewN nq=wq at *
  go_quiet ((go_at_call 147;exact Calls.quiet_of_same (Tryz.strings_IndexByte _ _ _)))
  go_wp2
  simp only[go_sem]
  go_ret
  exact ⟨rfl,hkq.drewN _⟩
 ·have hlast:((2:Int)≤(R.size:Int) - 1):=by omega
  clear he3 he1
  go_enter Tryz.func153,Tryz.ntmps153
  go_wp2_with (go_at_call 169;refine (Tryz.utf8_ValidRune _ _).mono ?_;rintro e w' ⟨rfl,hw⟩;rw[hw,HV.out])
  go_step3
  go_wp2
  refine wp_loop_rounds 1 ?_;rw[rounds_succ]
  go_wp2
  try rw[Exit.noGoto_ret]
  go_ret
  exact ⟨rfl,Kept.refl _ _⟩
theorem indexRune_any (r:Nat) (w:World) (h1:128≤r) (h2:Lib.validRune r=true):Calls Tryz.prog 153 #[.string ⟨#[43,35]⟩,.int .i32 r] w fun e w'=>e=.returned (.int .i64 (-1))∧Kept No w w':=by
 by_cases h:r=65533
 ·subst h;exact indexRune_err w
 ·exact indexRune_high r w h1 h2 h
theorem noAny_skip {s:ByteArray} {i n:Nat} {c:List UInt8} (h:Lib.NoAny s.data.toList c i) (hc:∀ b∈c,b.toNat < 128) (hh:∀ j,i≤j→j < i+n→∀ b,s.data.toList[j]?=some b→128≤b.toNat):Lib.NoAny s.data.toList c (i+n):=by
 intro j x hj hx
 by_cases hji:j < i
 ·exact h j x hji hx
 ·have h8:=hh j (by omega) hj x hx
  have:x ∉ c:=fun hm=>by have:=hc x hm;omega
  simpa using this
theorem kept_iterAt {w w':World} (h:Kept No w w') (s:ByteArray) (p:Nat):Kept No w (w'.iterAt w.heap.size s p):=by
 refine ⟨h.os,h.tape,h.output,by simpa [World.iterAt] using h.size,fun k hk hn=>?_⟩;rw[← h.block k hk hn];simp only[World.iterAt];rw[Array.getElem?_setIfInBounds_ne (by omega)]
set_option maxHeartbeats 4000000 in
set_option maxRecDepth 1000000 in
theorem indexAny_short (s:ByteArray) (w:World) (h8:s.size≤8) :
  Calls Tryz.prog 133 #[.string s,.string ⟨#[43,35]⟩] w fun e w'=>e=.returned (.int .i64 (Lib.indexAny s.data.toList [43,35]))∧Kept No w w':=by
 have h8z:decide ((8:Int) < (s.size:Int))=false:=decide_eq_false (by omega)
 go_enter Tryz.func133,Tryz.ntmps133
 go_wp2_with (go_at_call 154;refine (Tryz.strings_shouldUseASCIISet _ _).mono ?_;rintro e w' ⟨rfl,hw⟩;rw[hw,h8z])
 go_loopg [9,10] s.size (fun g _ _ wx=>∃ i:Nat,i+g=s.size∧wx.heap[w.heap.size]?=some (.stringIter s i)∧Kept No w wx∧Hid (Lib.NoAny s.data.toList [43,35] i))
 case atStart=>exact ⟨0,by omega,World.iter_heap _ _ _,(Kept.refl No w).alloc _,Lib.hid (Lib.NoAny.zero _ _)⟩
 case round =>
  obtain ⟨i,hig,hit,hk,HN⟩:=hrel;cases gk with
  | zero =>
   obtain rfl:i=s.size:=by omega
   have hnx:=fun ty=>Lib.run_next_end_at (P:=Tryz.prog) wr w.heap.size s s.size ty hit (by omega)
   clear hit
   go_wp2
   go_ret
   exact ⟨by rw[Lib.indexAny_none (by rw[← Lib.size_eq];exact HN.out)];rfl,hk⟩
  | succ g =>
   have hi:i < s.size:=by omega
   have hb0:s.data.toList[i]?=some (s[i]'hi):=Lib.data_getElem? s i hi
   by_cases h128:(s[i]'hi).toNat < 128
   ·have hnx:=fun ty=>Lib.run_next_ascii_at (P:=Tryz.prog) wr w.heap.size s i ty hit hi h128
    have hit2:=Lib.iterAt_heap wr w.heap.size s i (i+1) hit;have hk2:=kept_iterAt hk s (i+1);generalize wr.iterAt w.heap.size s (i+1)=wn at *;have Hx:=Lib.hid hb0;generalize s[i]'hi=x at *;have hcon:=Lib.contains_iff_indexByte [43,35] x;have hback:((x.toNat:Int)).toNat.toUInt8=x:=by simp
    have HI:=Lib.hid hit2;clear hit hit2 hb0;cases hin:([43,35]:List UInt8).contains x
    ·rw[hin]at hcon
     have hlt:Lib.indexByte [43,35] x < 0:=by have:=of_decide_eq_false hcon.symm;omega
     have HH:=Lib.hid hin;clear hcon hin
     go_wp2_with (go_at_call 153;refine (Tryz.strings_IndexRune_ascii _ _ _ (by omega) (by omega)).mono ?_;rintro e w' ⟨rfl,hw⟩;rw[hw,hback])
     go_roundg g
     case measure=>omega
     case rel=>exact ⟨i+1,by omega,HI.out,hk2,Lib.hid (HN.out.succ Hx.out HH.out)⟩
    ·rw[hin]at hcon
     have hge:(0:Int)≤Lib.indexByte [43,35] x:=of_decide_eq_true hcon.symm;have HH:=Lib.hid hin;clear hcon hin
     go_wp2_with (go_at_call 153;refine (Tryz.strings_IndexRune_ascii _ _ _ (by omega) (by omega)).mono ?_;rintro e w' ⟨rfl,hw⟩;rw[hw,hback])
     go_ret
     exact ⟨by rw[Lib.indexAny_hit HN.out Hx.out HH.out];rfl,hk2⟩
   ·have hg:(s.get! i).toNat=(s[i]'hi).toNat:=get_bang s i _ hb0
    obtain ⟨q1,q2,q3,q4,q5⟩:=high_at s i hi (by omega);have hnx:=fun ty=>Lib.run_next_any_at (P:=Tryz.prog) wr w.heap.size s i ty hit hi
    have hit2:=Lib.iterAt_heap wr w.heap.size s i (i+(Utf8.decode s i).2) hit;have hk2:=kept_iterAt hk s (i+(Utf8.decode s i).2);generalize wr.iterAt w.heap.size s (i+(Utf8.decode s i).2)=wn at *;generalize (Utf8.decode s i).2=n at *;generalize (Utf8.decode s i).1=r at *;have HI:=Lib.hid hit2;have HQ:=Lib.hid q5;have HV:=Lib.hid q2;clear hit hit2 hb0 hg q5 h128 q2
    go_wp2_with (go_at_call 153;refine (indexRune_any r _ q1 HV.out).mono ?_;rintro e w5 ⟨rfl,hk5⟩)
    go_roundg (s.size - (i+n))
    case measure=>omega
    case rel=>exact ⟨i+n,by omega,(hk5.block _ (Array.getElem?_eq_some_iff.1 HI.out).1 (fun f=>f)).trans HI.out,hk2.trans hk5,Lib.hid (noAny_skip HN.out (by decide) HQ.out)⟩
theorem w2_ascii:∀ (j:Nat) b,(⟨#[43,35]⟩:ByteArray).data.toList[j]?=some b→b.toNat < 128:=by
 intro j b hb;have h1:b∈([43,35]:List UInt8):=List.mem_of_getElem? hb;have h2:b=43∨b=35:=by simpa using h1
 rcases h2 with rfl|rfl<;>decide
theorem zero_set:(Tryz.prog.info? (Tryz.lays153_ren.t 116)).map (fun i=>(i.zero,i.size))=some (some (.agg (Array.replicate 256 (.bool false))),256):=by kernel_rfl
theorem indexAny_any (s:ByteArray) (w:World) (hs:s.size < 4294967281) :
  Calls Tryz.prog 133 #[.string s,.string ⟨#[43,35]⟩] w fun e w'=>e=.returned (.int .i64 (Lib.indexAny s.data.toList [43,35]))∧Kept No w w':=by
 by_cases h8:s.size≤8
 ·exact indexAny_short s w h8
 ·refine (Tryz.strings_IndexAny_long (Go.zero_of_info zero_set).1 s ⟨#[43,35]⟩ w (by decide) (by omega) hs (by decide) w2_ascii).mono ?_
  rintro e w1 ⟨rfl,rfl⟩;exact ⟨rfl,((Kept.refl No w).alloc _).alloc _⟩
theorem containsAny_any (s:ByteArray) (w:World) (hs:s.size < 4294967281) :
  Calls Tryz.prog 95 #[.string s,.string ⟨#[43,35]⟩] w fun e w'=>e=.returned (.bool (Lib.containsAny s.data.toList [43,35]))∧Kept No w w':=by
 have c:=indexAny_any s w hs;unfold Lib.containsAny;generalize Lib.indexAny s.data.toList [43,35]=I at *;have HC:=Lib.hid c;clear c
 go_enter Tryz.func95,Tryz.ntmps95
 go_wp2_with (go_at_call 133;refine HC.out.mono ?_;rintro e w1 ⟨rfl,hk⟩)
 go_ret
 exact ⟨rfl,hk⟩
def wildL (l:List UInt8):Bool:=l.contains 43||l.contains 35
theorem containsAny_wild (l:List UInt8):Lib.containsAny l [43,35]=wildL l:=by
 unfold Lib.containsAny wildL
 induction l with
 | nil=>rfl
 | cons b t ih =>
  have hge:=Lib.indexAny_ge [43,35] t;unfold Lib.indexAny
  by_cases hb:([43,35]:List UInt8).contains b=true
  ·rw[if_pos hb]
   have:b=43∨b=35:=by simpa using hb
   rcases this with rfl|rfl<;>simp
  ·rw[if_neg hb]
   have hn:¬ (b=43∨b=35):=by simpa using hb
   have h1:((43:UInt8) == b)=false:=by simp;intro e;exact hn (.inl e.symm)
   have h2:((35:UInt8) == b)=false:=by simp;intro e;exact hn (.inr e.symm)
   rw[List.contains_cons,List.contains_cons,h1,h2,Bool.false_or,Bool.false_or,← ih]
   by_cases hm:Lib.indexAny t [43,35] = -1
   ·simp[hm]
   ·rw[if_neg (by simpa using hm)]
    by_cases h0:0≤Lib.indexAny t [43,35]
    ·rw[decide_eq_true h0,decide_eq_true (by omega)]
    ·omega
theorem wild_any (s:ByteArray) (w:World) (hs:s.size < 4294967281) :
  Calls Tryz.prog 68 #[.string s] w fun e w'=>e=.returned (.bool (wildL s.data.toList))∧Kept No w w':=by
 have c:=containsAny_any s w hs;rw[containsAny_wild]at c;generalize wildL s.data.toList=B at *;have HC:=Lib.hid c;clear c
 go_enter Tryz.func68,Tryz.ntmps68
 go_wp2_with (go_at_call 95;refine HC.out.mono ?_;rintro e w1 ⟨rfl,hk⟩)
 go_ret
 exact ⟨rfl,hk⟩
def strsL (L:List (List UInt8)):List Value:=L.map fun l=>.string ⟨l.toArray⟩
theorem strsL_length (L:List (List UInt8)):(strsL L).length=L.length:=by simp[strsL]
theorem split_cells (s:ByteArray):(Lib.splitB ⟨#[47]⟩ 0 (Lib.countB s ⟨#[47]⟩) s).map Value.string=strsL (lev s.data.toList):=by
 have h1:=Lib.splitB_data ⟨#[47]⟩ 0 (Lib.countB s ⟨#[47]⟩) s;have h2:Lib.countB s ⟨#[47]⟩=s.data.toList.count 47:=Lib.count_one 47 s.data.toList;have h3:Lib.splitK (⟨#[47]⟩:ByteArray).data.toList 0 (Lib.countB s ⟨#[47]⟩) s.data.toList=lev s.data.toList:=splitK_lev _ _ (by rw[h2];exact Nat.le_refl _);rw[h3]at h1;rw[← h1];unfold strsL;rw[List.map_map];refine List.map_congr_left fun x _=>?_
 simp
theorem split_count (s:ByteArray):Lib.countB s ⟨#[47]⟩+1=(lev s.data.toList).length:=by
 rw[← strsL_length,← split_cells,List.length_map,Lib.splitB_all ⟨#[47]⟩ (by decide) 0 _ s rfl]
theorem info_str:(Tryz.prog.info? 9).map (fun i=>(i.zero,i.size,i.bytes))=some (some (.string ByteArray.empty),1,16):=by kernel_rfl
theorem genSplit_any (s:ByteArray) (w:World) (hs:s.size < 4294967281) :
  Calls Tryz.prog 167 #[.string s,.string ⟨#[47]⟩,.int .i64 0,.int .i64 (-1)] w fun e w' =>
   e=.returned (.slice (some ⟨w.heap.size,0,none⟩) (lev s.data.toList).length (lev s.data.toList).length)∧w'=w.alloc (.cells (strsL (lev s.data.toList)).toArray 9):=by
 have hle:=Lib.countB_le ⟨#[47]⟩ (by decide) s.size s (Nat.le_refl _);have hlen:=Lib.splitB_all ⟨#[47]⟩ (by decide) 0 _ s rfl
 have c:=Any.strings_genSplit_core Tryz.lays221 info_str s ⟨#[47]⟩ 0 (-1) (Lib.countB s ⟨#[47]⟩+1) w hs (by decide) (Nat.zero_le _)
  (fun x c _=>by
   have h:=Tryz.strings_Index_one x 47 (w.alloc (.cells c 9));rw[← Lib.index_one]at h;exact h)
  (by
   have h:=Tryz.strings_Count_one s 47 w
   have e:(Lib.countByte s.data.toList 47:Int)=(Lib.countB s ⟨#[47]⟩:Nat):=by
    have:=Lib.count_one 47 s.data.toList
    unfold Lib.countByte;rw[← this]
   rw[e]at h;exact h)
  (by decide) (by decide) (by rw[if_pos (by decide)];omega)
 rw[Nat.add_sub_cancel,hlen]at c
 have e2:Lib.cellsOf (Lib.splitB ⟨#[47]⟩ 0 (Lib.countB s ⟨#[47]⟩) s) (Lib.countB s ⟨#[47]⟩+1)=(strsL (lev s.data.toList)).toArray:=by
  rw[← split_cells,← hlen];exact Lib.cellsOf_full _
 rw[e2,split_count]at c;exact c
def LevIs (w:World) (L:List (List UInt8)) (e:Ending) (w':World):Prop:=∃ a,e=.returned (.slice a L.length L.length)∧Row w' a (strsL L)∧Kept No w w'
theorem split_any (s:ByteArray) (w:World) (hs:s.size < 4294967281) :
  Calls Tryz.prog 151 #[.string s,.string ⟨#[47]⟩] w (LevIs w (lev s.data.toList)):=by
 have c:=Lib.hid (genSplit_any s w hs);generalize lev s.data.toList=L at *
 go_enter Tryz.func151,Tryz.ntmps151
 go_wp2_with (go_at_call 167;go_loud (refine c.out.mono ?_);rintro e w' ⟨rfl,hw⟩;rw[hw])
 go_ret
 exact ⟨_,rfl,.of_cells (new_cells w _ _ _ rfl),(Kept.refl No w).alloc _⟩
set_option maxRecDepth 100000 in
set_option maxHeartbeats 2000000 in
theorem cutlite_any (s:ByteArray) (w:World) (hs:s.size < 4294967281) :
  Calls Tryz.prog 152 #[.string s,.string ⟨#[47]⟩] w fun e w'=>e=.returned (.tuple #[.string ⟨(whoL s.data.toList).toArray⟩,.string ⟨(whatL s.data.toList).toArray⟩,.bool (s.data.toList.contains 47)])∧Kept No w w':=by
 have hc:=cut_eq s.data.toList;have hI:=Tryz.stringslite_Index_one s 47;rw[← Lib.index_one]at hI;have hcut:((⟨#[47]⟩:ByteArray)).data.toList=[47]:=rfl;rcases Lib.indexB_cases s ⟨#[47]⟩ with hix|⟨i,hix,hroom⟩
 ·obtain ⟨e1,e2,e3⟩:=Lib.cutB_miss s ⟨#[47]⟩ hix
  rw[hcut,hc]at e1 e2 e3;rw[e1,e2]
  try rw[show s.data.toList.contains 47=true from e3]
  try rw[show s.data.toList.contains 47=false from e3]
  have hI2:=Lib.hid (fun wx=>(by have:=hI wx;rw[show Lib.index s.data.toList [47] = -1 from hix]at this;exact this:Calls Tryz.prog 168 #[.string s,.string ⟨#[47]⟩] wx fun e w'=>e=.returned (.int .i64 (-1))∧w'=wx));clear hI hc e1 e2 e3 hix
  go_enter Tryz.func152,Tryz.ntmps152
  go_wp2_with (go_at_call 168;refine (hI2.out _).mono ?_;rintro e w' ⟨rfl,hw⟩;rw[hw])
  go_ret3
  exact ⟨rfl,Kept.refl _ _⟩
 ·obtain ⟨e1,e2,e3⟩:=Lib.cutB_hit s ⟨#[47]⟩ i hix
  rw[hcut,hc]at e1 e2 e3;rw[e1,e2]
  try rw[show s.data.toList.contains 47=true from e3]
  try rw[show s.data.toList.contains 47=false from e3]
  have hI2:=Lib.hid (fun wx=>(by have:=hI wx;rw[show Lib.index s.data.toList [47]=i from hix]at this;exact this:Calls Tryz.prog 168 #[.string s,.string ⟨#[47]⟩] wx fun e w'=>e=.returned (.int .i64 i)∧w'=wx));have hr2:i+1≤s.size:=hroom;have c1:(0:Int)≤↑i:=by omega
  have c2:(↑i:Int)≤↑s.size:=by omega
  have c3:(0:Int)≤↑i+1:=by omega
  have c4:(↑i+1:Int)≤↑s.size:=by omega
  clear hI hc e1 e2 e3 hix hroom
  go_enter Tryz.func152,Tryz.ntmps152
  go_wp2_with (go_at_call 168;refine (hI2.out _).mono ?_;rintro e w' ⟨rfl,hw⟩;rw[hw])
  go_quiet (fail)
  go_wp2
  go_ret3
  exact ⟨rfl,(Kept.refl No w).drewN _⟩
theorem cut_any (s:ByteArray) (w:World) (hs:s.size < 4294967281) :
  Calls Tryz.prog 132 #[.string s,.string ⟨#[47]⟩] w fun e w'=>e=.returned (.tuple #[.string ⟨(whoL s.data.toList).toArray⟩,.string ⟨(whatL s.data.toList).toArray⟩,.bool (s.data.toList.contains 47)])∧Kept No w w':=by
 have c:=Lib.hid (cutlite_any s w hs);generalize whoL s.data.toList=a at *;generalize whatL s.data.toList=b at *;generalize s.data.toList.contains 47=B at *
 go_enter Tryz.func132,Tryz.ntmps132
 go_wp2_with (go_at_call 152;refine c.out.mono ?_;rintro e w' ⟨rfl,hk⟩)
 go_ret3
 exact ⟨rfl,hk⟩
theorem prefix_any (s p:ByteArray) (w:World):Calls Tryz.prog 92 #[.string s,.string p] w fun e w'=>e=.returned (.bool (p.data.toList.isPrefixOf s.data.toList))∧w=w' :=
 (Tryz.strings_HasPrefix s p w).mono fun e w' ⟨h1,h2⟩=>⟨h1,h2.symm⟩
theorem clone_any (s:ByteArray) (w:World) (hs:s.size < 4294967281):Calls Tryz.prog 57 #[.string s] w fun e w'=>e=.returned (.string s)∧Kept No w w':=by
 have c:=Lib.hid (Tryz.stringslite_Clone s w (by omega))
 go_enter Tryz.func57,Tryz.ntmps57
 go_wp2_with (go_at_call 82;refine c.out.mono ?_;rintro e w' ⟨rfl,hb⟩)
 go_ret
 exact ⟨rfl,.of_below hb⟩
def nameB (s:ByteArray):Bool:=okText s&&(decide (0 < s.size)&&!wildL s.data.toList)
theorem okText_size {s:ByteArray} (h:okText s=true):s.size≤65535:=by
 unfold okText at h;simp at h;exact h.1
theorem empty_of {s:ByteArray} (h:s.size=0):s=⟨#[]⟩:=ByteArray.ext (Array.eq_empty_of_size_eq_zero h)
theorem isEmpty_of {s:ByteArray} (h:0 < s.size):s.toList.isEmpty=false:=by
 rw[Lib.toList_data]
 have:s.data.toList.length=s.size:=sz_list s
 cases hl:s.data.toList with
 | nil=>rw[hl]at this;simp at this;omega
 | cons _ _=>rfl
set_option maxHeartbeats 1000000 in
theorem name_any (s:ByteArray) (w:World) (hs:s.size≤9223372036854775807) (hT:Tabs w) :
  Calls Tryz.prog 84 #[.string s] w fun e w'=>e=.returned (.bool (nameB s))∧Kept No w w':=by
 unfold nameB
 by_cases h0:s.size=0
 ·obtain rfl:=empty_of h0
  go_enter Tryz.func84,Tryz.ntmps84
  go_wp2
  go_ret
  exact ⟨by simp[ByteArray.size],Kept.refl _ _⟩
 ·have hE:=isEmpty_of (s:=s) (by omega)
  have hd:decide (0 < s.size)=true:=by simp;omega
  rw[hd];have cO:=right_any s w hs hT;rcases hO:okText s with _|_
  ·rw[hO]at cO
   have HO:=Lib.hid cO;clear cO hO
   go_enter Tryz.func84,Tryz.ntmps84
   go_wp2_with (go_at_call 126;refine HO.out.mono ?_;rintro e w1 ⟨rfl,hk⟩)
   go_ret
   exact ⟨rfl,hk⟩
  ·rw[hO]at cO
   have HO:=Lib.hid cO;have cW:=Lib.hid (fun wx=>wild_any s wx (by have:=okText_size hO;omega));clear cO hO;generalize wildL s.data.toList=B at *
   go_enter Tryz.func84,Tryz.ntmps84
   go_wp2_with (first
    | (go_at_call 126;refine HO.out.mono ?_;rintro e w1 ⟨rfl,hk⟩)
    | (go_at_call 68;refine (cW.out _).mono ?_;rintro e w2 ⟨rfl,hk2⟩))
   go_ret
   exact ⟨by simp,hk.trans hk2⟩
def okLev:List (List UInt8)→Bool
 | []=>true
 | x :: r=>(!wildL x||(x == [43]||(x == [35]&&r.isEmpty)))&&okLev r
def plainL (l:List UInt8):Bool:=!l.isEmpty&&okLev (lev l)
set_option maxRecDepth 100000 in
set_option maxHeartbeats 1000000 in
theorem plain_any (s:ByteArray) (w:World) (hs:s.size < 4294967281) :
  Calls Tryz.prog 131 #[.string s] w fun e w'=>e=.returned (.bool (plainL s.data.toList))∧Kept No w w':=by
 unfold plainL
 by_cases h0:s.size=0
 ·obtain rfl:=empty_of h0
  go_enter Tryz.func131,Tryz.ntmps131
  go_wp2
  go_ret
  exact ⟨rfl,Kept.refl _ _⟩
 ·have hE:=isEmpty_of (s:=s) (by omega)
  have hE2:s.data.toList.isEmpty=false:=by rw[← Lib.toList_data];exact hE
  rw[hE2];have cS:=split_any s w hs;have hll:=lev_len s.data.toList;have hlm:=lev_mem s.data.toList;have hsz:=sz_list s;rw[hsz]at hll hlm;generalize lev s.data.toList=L at *;have HS:=Lib.hid cS;have HM:=Lib.hid hlm;generalize hC:okLev L=C;have HC:=Lib.hid hC;clear cS hlm hC hsz hE2
  go_enter Tryz.func131,Tryz.ntmps131
  go_wp2_with (go_at_call 151;refine HS.out.mono ?_;rintro e w1 ⟨a,rfl,hr,hk⟩)
  go_loopw [12] (fun i wr=>∃ j:Nat,i=.int .i64 j∧j≤L.length∧Hid (okLev (L.drop j)=C)∧Kept No w1 wr) (fun i _=>L.length - (intOf i).toNat)
  case atStart=>exact ⟨0,rfl,by omega,Lib.hid (by rw[List.drop_zero];exact HC.out),Kept.refl _ _⟩
  case round =>
   obtain ⟨j,rfl,hj,HD,hk1⟩:=hrel
   by_cases hlt:j < L.length
   ·have hdr:L.drop j=L[j] :: L.drop (j+1):=List.drop_eq_getElem_cons hlt
    obtain ⟨b,off,rfl,hb,hc⟩:=(hr.keptNo hk1).at_ (k:=j) (by simpa [strsL] using hlt);have hx:(strsL L)[j]'(by simpa [strsL] using hlt)=.string ⟨L[j].toArray⟩:=by simp[strsL]
    rw[hx]at hc;have hxl:L[j].length≤s.size:=HM.out _ (List.getElem_mem hlt);have HX:=Lib.hid hdr;clear hx hdr;generalize L[j]=x at *;have cW:=fun wx=>wild_any ⟨x.toArray⟩ wx (by show x.toArray.size < _;simp;omega)
    rw[show (⟨x.toArray⟩:ByteArray).data.toList=x from rfl]at cW;rcases hW:wildL x with _|_
    ·rw[hW]at cW
     have HW:=Lib.hid cW;have HN:Hid (okLev (L.drop (j+1))=C):=Lib.hid (by have:=HD.out;rw[HX.out,okLev,hW]at this;simpa using this);clear cW hW
     go_wp2_with (go_at_call 68;refine (HW.out _).mono ?_;rintro e w2 ⟨rfl,hk2⟩)
     go_roundw
     case rel=>exact ⟨j+1,by go_num,by omega,HN,hk1.trans hk2⟩
     case measure=>simp[intOf];omega
    ·rw[hW]at cW
     have HW:=Lib.hid cW;have HWW:=Lib.hid hW;clear cW hW
     go_wp2_with (go_at_call 68;refine (HW.out _).mono ?_;rintro e w2 ⟨rfl,hk2⟩)
     ·have h1:(x == [43])=true:=by assumption
      have HN:Hid (okLev (L.drop (j+1))=C):=Lib.hid (by have:=HD.out;rw[HX.out,okLev,h1]at this;simpa using this)
      go_roundw
      case rel=>exact ⟨j+1,by go_num,by omega,HN,hk1.trans hk2⟩
      case measure=>simp[intOf];omega
     ·have h1:(x == [43])=false:=by assumption
      have h2:x=[35]:=by assumption
      have h3:((j:Int) != (L.length:Int) - 1)=true:=by assumption
      have h4:(L.drop (j+1)).isEmpty=false:=by
       have h5:(j:Int)≠(L.length:Int) - 1:=by simpa using h3
       cases hd:L.drop (j+1) with
       | nil=>have:=congrArg List.length hd;simp at this;omega
       | cons _ _=>rfl
      have HN:Hid (C=false):=Lib.hid (by have:=HD.out;rw[HX.out,okLev,h1,h4,HWW.out]at this;simpa using this.symm);clear h1 h2 h3 h4
      go_ret
      exact ⟨by rw[HN.out];rfl,hk.trans (hk1.trans hk2)⟩
     ·have h1:(x == [43])=false:=by assumption
      have h2:x=[35]:=by assumption
      have h3:((j:Int) != (L.length:Int) - 1)=false:=by assumption
      have h4:(L.drop (j+1)).isEmpty=true:=by
       have h5:(j:Int)=(L.length:Int) - 1:=by simpa using h3
       rw[List.drop_of_length_le (by omega)]
       rfl
      have HN:Hid (okLev (L.drop (j+1))=C):=Lib.hid (by have:=HD.out;rw[HX.out,okLev,h1,h4,h2]at this;simpa using this);clear h1 h2 h3 h4
      go_roundw
      case rel=>exact ⟨j+1,by go_num,by omega,HN,hk1.trans hk2⟩
      case measure=>simp[intOf];omega
     ·have h1:(x == [43])=false:=by assumption
      have h2:¬ x=[35]:=by assumption
      have h3:(x == [35])=false:=by simpa using h2
      have HN:Hid (C=false):=Lib.hid (by have:=HD.out;rw[HX.out,okLev,h1,h3,HWW.out]at this;simpa using this.symm);clear h1 h2 h3
      go_ret
      exact ⟨by rw[HN.out];rfl,hk.trans (hk1.trans hk2)⟩
   ·have HN:Hid (C=true):=Lib.hid (by rw[← HD.out,List.drop_of_length_le (by omega)];rfl)
    go_wp2
    go_ret
    exact ⟨by rw[HN.out];rfl,hk.trans hk1⟩
def shareW:List UInt8:=[36,115,104,97,114,101,47]
def isShare (l:List UInt8):Bool:=shareW.isPrefixOf l
theorem share_len {l:List UInt8} (h:isShare l=true):7≤l.length:=by
 unfold isShare at h
 have:=List.IsPrefix.length_le (List.isPrefixOf_iff_prefix.1 h)
 simpa [shareW] using this
def behind (l:List UInt8):List UInt8:=l.drop 7
def shareB (l:List UInt8):Bool:=!(whoL (behind l)).isEmpty&&(!wildL (whoL (behind l))&&plainL (whatL (behind l)))
def filterB (s:ByteArray):Bool:=okText s&&if isShare s.data.toList then shareB s.data.toList else plainL s.data.toList
theorem who_le (r:List UInt8):(whoL r).length≤r.length:=by
 unfold whoL;exact (List.takeWhile_prefix _).length_le
theorem what_le (r:List UInt8):(whatL r).length≤r.length:=by
  unfold whatL
  have:(r.dropWhile (· != 47)).length≤r.length:=(List.dropWhile_suffix _).length_le
  simp;omega
theorem halves_any (s:ByteArray) (w:World) (hs:s.size < 4294967281) (h7:7≤s.size) :
  Calls Tryz.prog 94 #[.string s] w fun e w'=>e=.returned (.tuple #[.string ⟨(whoL (behind s.data.toList)).toArray⟩,.string ⟨(whatL (behind s.data.toList)).toArray⟩])∧Kept No w w':=by
 have hx:s.extract 7 s.size=⟨(behind s.data.toList).toArray⟩:=by
  have hsz:=sz_list s;rw[Lib.extract_eq];unfold behind;rw[List.take_of_length_le (by rw[List.length_drop];omega)]
 have c:=fun wx=>cut_any ⟨(behind s.data.toList).toArray⟩ wx (by
  have hsz:=sz_list s;show (behind s.data.toList).toArray.size < _;unfold behind;rw[List.size_toArray,List.length_drop];omega)
 rw[show (⟨(behind s.data.toList).toArray⟩:ByteArray).data.toList=behind s.data.toList from rfl]at c;generalize behind s.data.toList=r at *;have HC:=Lib.hid c;have h7z:(7:Int)≤s.size:=by omega
 clear c
 go_enter Tryz.func94,Tryz.ntmps94
 go_wp2_with (go_at_call 132;(first|rw[hx]|skip);refine (HC.out _).mono ?_;rintro e w1 ⟨rfl,hk⟩)
 go_ret2
 exact ⟨rfl,hk⟩
theorem size_of_list (s:ByteArray) (r:List UInt8) (h:r.length≤s.data.toList.length) (hs:s.size < 4294967281):(⟨r.toArray⟩:ByteArray).size < 4294967281:=by
 rw[sz_list]at h;show r.toArray.size < _;rw[List.size_toArray];omega
theorem behind_le (l:List UInt8):(behind l).length≤l.length:=by unfold behind;rw[List.length_drop];omega
set_option maxRecDepth 100000 in
set_option maxHeartbeats 1000000 in
theorem filter_any (s:ByteArray) (w:World) (hs:s.size≤9223372036854775807) (hT:Tabs w) :
  Calls Tryz.prog 93 #[.string s] w fun e w'=>e=.returned (.bool (filterB s))∧Kept No w w':=by
 unfold filterB;have cO:=right_any s w hs hT;rcases hO:okText s with _|_
 ·rw[hO]at cO
  have HO:=Lib.hid cO;rw[Bool.false_and];clear cO hO
  go_enter Tryz.func93,Tryz.ntmps93
  go_wp2_with (go_at_call 126;refine HO.out.mono ?_;rintro e w1 ⟨rfl,hk⟩)
  go_ret
  exact ⟨rfl,hk⟩
 ·rw[hO]at cO
  have HO:=Lib.hid cO;have hz:=okText_size hO;clear cO hO;have cP:=fun wx=>prefix_any s ⟨#[36,115,104,97,114,101,47]⟩ wx
  rcases hS:isShare s.data.toList with _|_
  ·rw[show ((⟨#[36,115,104,97,114,101,47]⟩:ByteArray).data.toList.isPrefixOf s.data.toList)=false from hS]at cP
   have HP:=Lib.hid cP;have HL:=Lib.hid (fun wx=>plain_any s wx (by omega));generalize hB:(true&&if false=true then shareB s.data.toList else plainL s.data.toList)=B;have HB:Hid (B=plainL s.data.toList):=Lib.hid (by rw[← hB];simp);clear cP hS hB;generalize plainL s.data.toList=C at *
   go_enter Tryz.func93,Tryz.ntmps93
   go_wp2_with (first
    | (go_at_call 126;refine HO.out.mono ?_;rintro e w1 ⟨rfl,hk⟩)
    | (go_at_call 92;refine (HP.out _).mono ?_;rintro e w2 ⟨rfl,rfl⟩)
    | (go_at_call 131;refine (HL.out _).mono ?_;rintro e w3 ⟨rfl,hk3⟩))
   go_ret
   exact ⟨by rw[HB.out];rfl,hk.trans hk3⟩
  ·rw[show ((⟨#[36,115,104,97,114,101,47]⟩:ByteArray).data.toList.isPrefixOf s.data.toList)=true from hS]at cP
   have HP:=Lib.hid cP;have h7:=share_len hS;rw[sz_list]at h7;have HH:=Lib.hid (fun wx=>halves_any s wx (by omega) h7);have hwl:(whoL (behind s.data.toList)).length≤s.data.toList.length:=Nat.le_trans (who_le _) (behind_le _);have htl:(whatL (behind s.data.toList)).length≤s.data.toList.length:=Nat.le_trans (what_le _) (behind_le _);have cW:=fun wx=>wild_any ⟨(whoL (behind s.data.toList)).toArray⟩ wx (size_of_list s _ hwl (by omega))
   have cL:=fun wx=>plain_any ⟨(whatL (behind s.data.toList)).toArray⟩ wx (size_of_list s _ htl (by omega))
   rw[show (⟨(whoL (behind s.data.toList)).toArray⟩:ByteArray).data.toList=whoL (behind s.data.toList) from rfl]at cW;rw[show (⟨(whatL (behind s.data.toList)).toArray⟩:ByteArray).data.toList=whatL (behind s.data.toList) from rfl]at cL;generalize hB:(true&&if true=true then shareB s.data.toList else plainL s.data.toList)=B;have hB2:B=(!(whoL (behind s.data.toList)).isEmpty&&(!wildL (whoL (behind s.data.toList))&&plainL (whatL (behind s.data.toList)))):=by rw[← hB];rfl
   clear cP hS hB hwl htl h7;generalize whoL (behind s.data.toList)=u at *;generalize whatL (behind s.data.toList)=v at *;generalize plainL v=C at *;have HL:=Lib.hid cL;clear cL;cases u with
   | nil =>
    have HB:Hid (B=false):=Lib.hid (by rw[hB2];rfl);clear hB2 cW
    go_enter Tryz.func93,Tryz.ntmps93
    go_wp2_with (first
     | (go_at_call 126;refine HO.out.mono ?_;rintro e w1 ⟨rfl,hk⟩)
     | (go_at_call 92;refine (HP.out _).mono ?_;rintro e w2 ⟨rfl,rfl⟩)
     | (go_at_call 94;refine (HH.out _).mono ?_;rintro e w3 ⟨rfl,hk3⟩))
    go_ret
    exact ⟨by rw[HB.out];rfl,hk.trans hk3⟩
   | cons c t =>
    rcases hW:wildL (c :: t) with _|_
    ·have HB:Hid (B=C):=Lib.hid (by rw[hB2,hW];simp)
     rw[hW]at cW;have HW:=Lib.hid cW;clear hB2 cW hW
     go_enter Tryz.func93,Tryz.ntmps93
     go_wp2_with (first
      | (go_at_call 126;refine HO.out.mono ?_;rintro e w1 ⟨rfl,hk⟩)
      | (go_at_call 92;refine (HP.out _).mono ?_;rintro e w2 ⟨rfl,rfl⟩)
      | (go_at_call 94;refine (HH.out _).mono ?_;rintro e w3 ⟨rfl,hk3⟩)
      | (go_at_call 68;refine (HW.out _).mono ?_;rintro e w4 ⟨rfl,hk4⟩)
      | (go_at_call 131;refine (HL.out _).mono ?_;rintro e w5 ⟨rfl,hk5⟩))
     go_ret
     exact ⟨by rw[HB.out];rfl,((hk.trans hk3).trans hk4).trans hk5⟩
    ·have HB:Hid (B=false):=Lib.hid (by rw[hB2,hW];simp)
     rw[hW]at cW;have HW:=Lib.hid cW;clear hB2 cW hW
     go_enter Tryz.func93,Tryz.ntmps93
     go_wp2_with (first
      | (go_at_call 126;refine HO.out.mono ?_;rintro e w1 ⟨rfl,hk⟩)
      | (go_at_call 92;refine (HP.out _).mono ?_;rintro e w2 ⟨rfl,rfl⟩)
      | (go_at_call 94;refine (HH.out _).mono ?_;rintro e w3 ⟨rfl,hk3⟩)
      | (go_at_call 68;refine (HW.out _).mono ?_;rintro e w4 ⟨rfl,hk4⟩))
     go_ret
     exact ⟨by rw[HB.out];rfl,(hk.trans hk3).trans hk4⟩
def sharedB (s:ByteArray):Bool:=isShare s.data.toList&&filterB s
theorem filterB_size {s:ByteArray} (h:filterB s=true):s.size≤65535:=by
 unfold filterB at h;simp at h;exact okText_size h.1
def sharedV (s:ByteArray):Value:=if sharedB s then .tuple #[.string ⟨(whoL (behind s.data.toList)).toArray⟩,.string ⟨(whatL (behind s.data.toList)).toArray⟩,.bool true] else .tuple #[.string ⟨#[]⟩,.string ⟨#[]⟩,.bool false]
set_option maxRecDepth 100000 in
set_option maxHeartbeats 1000000 in
theorem shared_any (s:ByteArray) (w:World) (hs:s.size≤9223372036854775807) (hT:Tabs w) :
  Calls Tryz.prog 67 #[.string s] w fun e w'=>e=.returned (sharedV s)∧Kept No w w':=by
 unfold sharedV sharedB;have cP:=fun wx=>prefix_any s ⟨#[36,115,104,97,114,101,47]⟩ wx
 rcases hS:isShare s.data.toList with _|_
 ·rw[show ((⟨#[36,115,104,97,114,101,47]⟩:ByteArray).data.toList.isPrefixOf s.data.toList)=false from hS]at cP
  have HP:=Lib.hid cP;rw[Bool.false_and,if_neg (by simp)];clear cP hS
  go_enter Tryz.func67,Tryz.ntmps67
  go_wp2_with (go_at_call 92;refine (HP.out _).mono ?_;rintro e w2 ⟨rfl,rfl⟩)
  go_ret3
  exact ⟨rfl,Kept.refl _ _⟩
 ·rw[show ((⟨#[36,115,104,97,114,101,47]⟩:ByteArray).data.toList.isPrefixOf s.data.toList)=true from hS]at cP
  have HP:=Lib.hid cP;have cF:=filter_any s w hs hT;rw[Bool.true_and];rcases hF:filterB s with _|_
  ·rw[hF]at cF
   have HF:=Lib.hid cF;rw[if_neg (by simp)];clear cP hS cF hF
   go_enter Tryz.func67,Tryz.ntmps67
   go_wp2_with (first
    | (go_at_call 92;refine (HP.out _).mono ?_;rintro e w2 ⟨rfl,rfl⟩)
    | (go_at_call 93;refine HF.out.mono ?_;rintro e w1 ⟨rfl,hk⟩))
   go_ret3
   exact ⟨rfl,hk⟩
  ·rw[hF]at cF
   have HF:=Lib.hid cF;have hz:=filterB_size hF;rw[if_pos rfl];have h7:=share_len hS;rw[sz_list]at h7;have HH:=Lib.hid (fun wx=>halves_any s wx (by omega) h7);have hwl:(whoL (behind s.data.toList)).length≤s.data.toList.length:=Nat.le_trans (who_le _) (behind_le _);have htl:(whatL (behind s.data.toList)).length≤s.data.toList.length:=Nat.le_trans (what_le _) (behind_le _);have HU:=Lib.hid (fun wx=>clone_any ⟨(whoL (behind s.data.toList)).toArray⟩ wx (size_of_list s _ hwl (by omega)));have HV:=Lib.hid (fun wx=>clone_any ⟨(whatL (behind s.data.toList)).toArray⟩ wx (size_of_list s _ htl (by omega)));clear cP hS cF hF hwl htl h7;generalize (⟨(whoL (behind s.data.toList)).toArray⟩:ByteArray)=u at *;generalize (⟨(whatL (behind s.data.toList)).toArray⟩:ByteArray)=v at *
   go_enter Tryz.func67,Tryz.ntmps67
   go_wp2_with (first
    | (go_at_call 92;refine (HP.out _).mono ?_;rintro e w2 ⟨rfl,rfl⟩)
    | (go_at_call 93;refine HF.out.mono ?_;rintro e w1 ⟨rfl,hk⟩)
    | (go_at_call 94;refine (HH.out _).mono ?_;rintro e w3 ⟨rfl,hk3⟩)
    | (go_at_call 57;with_reducible refine (HU.out _).mono ?_;rintro e w4 ⟨rfl,hk4⟩)
    | (go_at_call 57;refine (HV.out _).mono ?_;rintro e w5 ⟨rfl,hk5⟩))
   go_ret3
   exact ⟨rfl,((hk.trans hk3).trans hk4).trans hk5⟩
theorem own_keptNo {w w':World} {base:Nat} {e:TypeId} {size n:Nat} {v:Value} {xs:List Value} (h:w.ownsRow base e size v n xs) (hk:Kept No w w'):w'.ownsRow base e size v n xs:=by
 refine ⟨h.1,?_⟩;rcases h.2 with hn|⟨g,cap,cur,hv,hb,hg,rest⟩
 ·exact .inl hn
 ·exact .inr ⟨g,cap,cur,hv,hb,(hk.block g (Array.getElem?_eq_some_iff.1 hg).1 (fun f=>f)).trans hg,rest⟩
def valueV (id n:Nat) (a:ByteArray):Bool :=
 if id∈[1,23,25,36,37,40,41,42] then decide (n≤1)
 else if id∈[11,33,35,39] then !decide (n=0)
 else if id=8 then nameB a
 else true
def valueB (id n:Nat) (a b:ByteArray):Bool:=rightB id n a b&&valueV id n a
theorem dec_le1 (n:Nat):decide ((n:Int)≤1)=decide (n≤1):=by
 by_cases h:n≤1
 ·rw[decide_eq_true h,decide_eq_true (by omega)]
 ·rw[decide_eq_false h,decide_eq_false (by omega)]
theorem ne_zero (n:Nat):((n:Int) != 0) = !decide (n=0):=by
 by_cases h:n=0<;>simp[h]
set_option maxRecDepth 100000 in
set_option maxHeartbeats 8000000 in
theorem pvalue_any (id n:Nat) (a b:ByteArray) (w:World) (hT:Tabs w) (h8:id < 256) (hn:n < 4294967296) (ha:a.size≤9223372036854775807) (hb:b.size≤9223372036854775807) :
  Calls Tryz.prog 140 #[.agg #[.int .u8 id,.int .u32 n,.string a,.string b]] w fun e w'=>e=.returned (.bool (valueB id n a b))∧Kept No w w':=by
 unfold valueB;have cR:=fun wx hT=>pright_any id n a b wx hT h8 hn ha hb
 rcases hR:rightB id n a b with _|_
 ·rw[hR]at cR
  have HR:=Lib.hid cR;rw[Bool.false_and];clear cR hR
  go_enter Tryz.func140,Tryz.ntmps140
  go_wp2_with (go_at_call 160;refine (HR.out _ (hT.kept ((Kept.refl No w).alloc _))).mono ?_;rintro e w2 ⟨rfl,hk2⟩)
  go_ret
  exact ⟨rfl,((Kept.refl No w).alloc _).trans hk2⟩
 rw[hR]at cR;have HR:=Lib.hid cR;rw[Bool.true_and];clear cR hR;have cN:=fun wx hT=>name_any a wx ha hT
 generalize hV:valueV id n a=V
 by_cases h1:id=1∨id=23∨id=25∨id=36∨id=37∨id=40∨id=41∨id=42
 ·rcases h1 with rfl|rfl|rfl|rfl|rfl|rfl|rfl|rfl
  all_goals
   have HV:Hid (V=decide (n≤1)):=Lib.hid (by rw[← hV];rfl);have HQ:=Lib.hid (dec_le1 n);clear hV cN
   go_enter Tryz.func140,Tryz.ntmps140
   go_wp2_with (first
    | (go_at_call 160;refine (HR.out _ (hT.kept ((Kept.refl No w).alloc _))).mono ?_;rintro e w2 ⟨rfl,hk2⟩;have hc0:=box_cell hk2 0;have hc1:=box_cell hk2 1;have hc2:=box_cell hk2 2;simp at hc0 hc1 hc2))
   go_ret
   exact ⟨by rw[HV.out,← HQ.out];rfl,((Kept.refl No w).alloc _).trans hk2⟩
 by_cases h2:id=11∨id=33∨id=35∨id=39
 ·rcases h2 with rfl|rfl|rfl|rfl
  all_goals
   have HV:Hid (V = !decide (n=0)):=Lib.hid (by rw[← hV];rfl);have HQ:=Lib.hid (ne_zero n);clear hV cN
   go_enter Tryz.func140,Tryz.ntmps140
   go_wp2_with (first
    | (go_at_call 160;refine (HR.out _ (hT.kept ((Kept.refl No w).alloc _))).mono ?_;rintro e w2 ⟨rfl,hk2⟩;have hc0:=box_cell hk2 0;have hc1:=box_cell hk2 1;have hc2:=box_cell hk2 2;simp at hc0 hc1 hc2))
   go_ret
   exact ⟨by rw[HV.out,← HQ.out];rfl,((Kept.refl No w).alloc _).trans hk2⟩
 by_cases h3:id=8
 ·subst h3
  have HV:Hid (V=nameB a):=Lib.hid (by rw[← hV];rfl);generalize nameB a=NB at *;have HN:=Lib.hid cN;clear hV cN
  go_enter Tryz.func140,Tryz.ntmps140
  go_wp2_with (first
   | (go_at_call 160;refine (HR.out _ (hT.kept ((Kept.refl No w).alloc _))).mono ?_;rintro e w2 ⟨rfl,hk2⟩;have hc0:=box_cell hk2 0;have hc1:=box_cell hk2 1;have hc2:=box_cell hk2 2;simp at hc0 hc1 hc2)
   | (go_at_call 84;refine (HN.out _ ((hT.kept ((Kept.refl No w).alloc _)).kept hk2)).mono ?_;rintro e w3 ⟨rfl,hk3⟩))
  go_ret
  exact ⟨by rw[HV.out];rfl,(((Kept.refl No w).alloc _).trans hk2).trans hk3⟩
 have HV:Hid (V=true):=Lib.hid (by rw[← hV];unfold valueV;rw[if_neg (by simp;omega),if_neg (by simp;omega),if_neg h3]);have b1:((id:Int) == 1)=false:=by simp;omega
 have b23:((id:Int) == 23)=false:=by simp;omega
 have b25:((id:Int) == 25)=false:=by simp;omega
 have b36:((id:Int) == 36)=false:=by simp;omega
 have b37:((id:Int) == 37)=false:=by simp;omega
 have b40:((id:Int) == 40)=false:=by simp;omega
 have b41:((id:Int) == 41)=false:=by simp;omega
 have b42:((id:Int) == 42)=false:=by simp;omega
 have b11:((id:Int) == 11)=false:=by simp;omega
 have b33:((id:Int) == 33)=false:=by simp;omega
 have b35:((id:Int) == 35)=false:=by simp;omega
 have b39:((id:Int) == 39)=false:=by simp;omega
 have b8:((id:Int) == 8)=false:=by simp;omega
 clear hV cN h1 h2 h3
 go_enter Tryz.func140,Tryz.ntmps140
 go_wp2_with (first
  | (go_at_call 160;refine (HR.out _ (hT.kept ((Kept.refl No w).alloc _))).mono ?_;rintro e w2 ⟨rfl,hk2⟩;have hc0:=box_cell hk2 0;have hc1:=box_cell hk2 1;have hc2:=box_cell hk2 2;simp at hc0 hc1 hc2))
 go_ret
 exact ⟨by rw[HV.out];rfl,((Kept.refl No w).alloc _).trans hk2⟩
end Go.Proofs.YtofjhopecfmbcaaGreatDoor
