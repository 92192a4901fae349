import Derived.Lib.Hide
import Derived.Test.YtofjhopecfmbcaaGreatDoorBase
import Derived.Test.YtofjhopecfmbcaaGreatDoorChecked
import Derived.Deep.DeepCutAuto
import Derived.Deep.CutBlock
namespace Go.Proofs.YtofjhopecfmbcaaGreatDoor
set_option linter.unusedVariables false
set_option linter.unusedSimpArgs false
def sp4 (k:Int):List (Nat × Nat) :=
 if k=2 then [(0,5)]
 else if k=4∨k=5∨k=6∨k=7∨k=14 then [(0,0)]
 else if k=9 then [(0,2),(128,128)]
 else []
def sp5 (k:Int):List (Nat × Nat) :=
 if k=2 then [(0,0),(128,138),(140,140),(144,144),(149,149),(151,151),(153,157),(159,159)]
 else if k=4∨k=5 then [(0,0),(16,16),(128,128),(131,131),(135,135),(144,145),(151,151),(153,153)]
 else if k=6∨k=7 then [(0,0),(146,146)]
 else if k=9 then [(0,2),(128,128),(131,131),(135,135),(143,143),(145,145),(151,151),(158,158),(161,162)]
 else if k=11 then [(0,0),(17,17),(128,128),(131,131),(135,135),(143,143),(145,145)]
 else if k=14 then [(0,0),(4,4),(128,131),(135,135),(137,137),(139,139),(141,144),(147,162)]
 else if k=15 then [(0,0),(24,25)]
 else []
def sp (v k:Int):List (Nat × Nat):=if v=4 then sp4 k else if v=5 then sp5 k else []
def sps:List (List (Nat × Nat)):=[[],[(0,5)],[(0,0)],[(0,2),(128,128)],
 [(0,0),(128,138),(140,140),(144,144),(149,149),(151,151),(153,157),(159,159)],
 [(0,0),(16,16),(128,128),(131,131),(135,135),(144,145),(151,151),(153,153)],
 [(0,0),(146,146)],
 [(0,2),(128,128),(131,131),(135,135),(143,143),(145,145),(151,151),(158,158),(161,162)],
 [(0,0),(17,17),(128,128),(131,131),(135,135),(143,143),(145,145)],
 [(0,0),(4,4),(128,131),(135,135),(137,137),(139,139),(141,144),(147,162)],
 [(0,0),(24,25)]]
theorem sp_mem (v k:Int):sp v k∈sps:=by
 unfold sp sp4 sp5
 repeat' split
 all_goals decide
def knownB (l:List (Nat × Nat)) (c:Nat):Bool:=l.any fun p=>decide (p.1≤c)&&decide (c≤p.2)
def spOk (l:List (Nat × Nat)):Bool:=decide (l.length≤9)&&l.all (fun p=>decide (p.1≤p.2)&&decide (p.2≤162))
theorem sp_ok (v k:Int):spOk (sp v k)=true:=by
 have:∀ l∈sps,spOk l=true:=by decide
 exact this _ (sp_mem v k)
theorem sp_len (v k:Int):(sp v k).length≤9:=by
 have h:=sp_ok v k;unfold spOk at h;simp only[Bool.and_eq_true,decide_eq_true_eq]at h;exact h.1
theorem sp_get (v k:Int) (i:Nat) (h:i < (sp v k).length):(sp v k)[i].1≤(sp v k)[i].2∧(sp v k)[i].2≤162:=by
 have h':=sp_ok v k;unfold spOk at h';simp only[Bool.and_eq_true,decide_eq_true_eq,List.all_eq_true]at h';exact h'.2 _ (List.getElem_mem h)
theorem known_take (l:List (Nat × Nat)) (c i:Nat) (h:i < l.length):knownB (l.take (i+1)) c=(knownB (l.take i) c||(decide (l[i].1≤c)&&decide (c≤l[i].2))):=by
 unfold knownB;rw[List.take_succ_eq_append_getElem h,List.any_append];simp
theorem known_full (l:List (Nat × Nat)) (c i:Nat) (h:l.length≤i):knownB (l.take i) c=knownB l c:=by rw[List.take_of_length_le h]
theorem known_of (l:List (Nat × Nat)) (c i:Nat) (h:i < l.length) (h1:l[i].1≤c) (h2:c≤l[i].2):knownB l c=true:=by
 unfold knownB;rw[List.any_eq_true];exact ⟨l[i],List.getElem_mem h,by simp[h1,h2]⟩
def failedB (v k:Int) (c:Nat):Bool:=knownB (sp v k) c&&(decide (128≤c)||(decide (v=4)&&(decide (k=2)&&!decide (c=0))))
theorem failed_4 (k:Int) (c:Nat) (hk:k=2) (h:knownB (sp 4 k) c=true):failedB 4 k c = !decide (c=0):=by
 subst hk;unfold failedB;rw[h]
 by_cases h0:c=0
 ·simp[h0]
 ·simp[h0]
theorem failed_else (v k:Int) (c:Nat) (hk:¬ (v=4∧k=2)) (h:knownB (sp v k) c=true):failedB v k c=decide (128≤c):=by
 unfold failedB;rw[h]
 by_cases h4:v=4
 ·by_cases h2:k=2
  ·exact absurd ⟨h4,h2⟩ hk
  ·simp[h4,h2]
 ·simp[h4]
theorem failed_no (v k:Int) (c:Nat) (h:knownB (sp v k) c=false):failedB v k c=false:=by
 unfold failedB;rw[h]
 rfl
open Go.RowKit
def spCells (l:List (Nat × Nat)):List Value:=l.flatMap fun p=>[.int .u8 p.1,.int .u8 p.2]
def SpansIs (w:World) (l:List (Nat × Nat)) (e:Ending) (w':World):Prop :=
 ∃ a,e=.returned (.slice a l.length l.length)∧Row w' a (spCells l)∧Kept No w w'
theorem spans_new (w:World) (t:TypeId) (l:List (Nat × Nat)) (n:Nat) (cs:List Value) (hn:n=l.length) (hc:cs=spCells l) :
  SpansIs w l (.returned (.slice (some ⟨w.heap.size,0,none⟩) n n)) (w.alloc (.cells cs.toArray t)):=by
 subst hn hc;exact ⟨_,rfl,.of_cells (new_cells w t _ _ rfl),(Kept.refl No w).alloc _⟩
theorem spans_none (w:World):SpansIs w [] (.returned (.slice none 0 0)) w:=⟨none,rfl,.nil _ _,.refl _ _⟩
set_option maxHeartbeats 1000000 in
theorem spans4_any (k:Int) (w:World):Calls Tryz.prog 124 #[.int .i64 k] w (SpansIs w (sp4 k)):=by
 by_cases h:k=2∨k=4∨k=5∨k=6∨k=7∨k=14∨k=9
 ·rcases h with rfl|rfl|rfl|rfl|rfl|rfl|rfl
  all_goals
   go_enter Tryz.func124,Tryz.ntmps124
   go_wp2
   go_ret
   exact spans_new w _ _ _ _ rfl rfl
 ·have e:sp4 k=[]:=by
   unfold sp4;rw[if_neg (by omega),if_neg (by omega),if_neg (by omega)]
  have b2:(k == 2)=false:=by simp;omega
  have b4:(k == 4)=false:=by simp;omega
  have b5:(k == 5)=false:=by simp;omega
  have b6:(k == 6)=false:=by simp;omega
  have b7:(k == 7)=false:=by simp;omega
  have b14:(k == 14)=false:=by simp;omega
  have b9:(k == 9)=false:=by simp;omega
  rw[e];clear e h
  go_enter Tryz.func124,Tryz.ntmps124
  go_wp2
  go_ret
  exact spans_none w
set_option maxRecDepth 100000 in
set_option maxHeartbeats 1000000 in
theorem spans5_any (k:Int) (w:World):Calls Tryz.prog 125 #[.int .i64 k] w (SpansIs w (sp5 k)):=by
 by_cases h:k=2∨k=4∨k=5∨k=6∨k=7∨k=9∨k=11∨k=14∨k=15
 ·rcases h with rfl|rfl|rfl|rfl|rfl|rfl|rfl|rfl|rfl
  all_goals
   go_enter Tryz.func125,Tryz.ntmps125
   go_wp2
   go_ret
   exact spans_new w _ _ _ _ rfl rfl
 ·have e:sp5 k=[]:=by
   unfold sp5;rw[if_neg (by omega),if_neg (by omega),if_neg (by omega),if_neg (by omega),if_neg (by omega),if_neg (by omega),if_neg (by omega)]
  have b2:(k == 2)=false:=by simp;omega
  have b4:(k == 4)=false:=by simp;omega
  have b5:(k == 5)=false:=by simp;omega
  have b6:(k == 6)=false:=by simp;omega
  have b7:(k == 7)=false:=by simp;omega
  have b9:(k == 9)=false:=by simp;omega
  have b11:(k == 11)=false:=by simp;omega
  have b14:(k == 14)=false:=by simp;omega
  have b15:(k == 15)=false:=by simp;omega
  rw[e];clear e h
  go_enter Tryz.func125,Tryz.ntmps125
  go_wp2
  go_ret
  exact spans_none w
theorem spans_any (v k:Int) (w:World):Calls Tryz.prog 83 #[.int .i64 v,.int .i64 k] w (SpansIs w (sp v k)):=by
 by_cases h4:v=4
 ·subst h4
  rw[show sp 4 k=sp4 k from rfl]
  go_enter Tryz.func83,Tryz.ntmps83
  go_wp2_with (go_at_call 124;refine (spans4_any k _).mono ?_;rintro e w1 ⟨a,rfl,hr,hk⟩)
  go_ret
  exact ⟨a,rfl,hr,hk⟩
 ·by_cases h5:v=5
  ·subst h5
   rw[show sp 5 k=sp5 k from rfl]
   go_enter Tryz.func83,Tryz.ntmps83
   go_wp2_with (go_at_call 125;refine (spans5_any k _).mono ?_;rintro e w1 ⟨a,rfl,hr,hk⟩)
   go_ret
   exact ⟨a,rfl,hr,hk⟩
  ·have e:sp v k=[]:=by unfold sp;rw[if_neg h4,if_neg h5]
   have b4:(v == 4)=false:=by simpa using h4
   have b5:(v == 5)=false:=by simpa using h5
   rw[e];clear e h4 h5
   go_enter Tryz.func83,Tryz.ntmps83
   go_wp2
   go_ret
   exact spans_none w
theorem spCells_get (l:List (Nat × Nat)) (i:Nat) (h:i < l.length):(spCells l)[i * 2]?=some (.int .u8 l[i].1)∧(spCells l)[i * 2+1]?=some (.int .u8 l[i].2):=by
 induction l generalizing i with
 | nil=>simp at h
 | cons p t ih =>
  cases i with
  | zero=>simp[spCells]
  | succ i =>
   have:=ih i (by simpa using h)
   simpa [spCells,Nat.add_mul] using this
theorem spans_at {w:World} {a:Option Addr} {l:List (Nat × Nat)} (h:Row w a (spCells l)) (i:Nat) (hi:i < l.length) :
  ∃ b off,a=some ⟨b,off,none⟩∧b < w.heap.size∧w.cell? ⟨b,off+i * 2,none⟩=some (.int .u8 l[i].1)∧w.cell? ⟨b,off+i * 2+1,none⟩=some (.int .u8 l[i].2):=by
 obtain ⟨e1,e2⟩:=spCells_get l i hi;rcases h with h|⟨b,off,ha,hb,hc⟩
 ·rw[h]at e1;simp at e1
 ·exact ⟨b,off,ha,hb,hc _ _ e1,by rw[Nat.add_assoc];exact hc _ _ e2⟩
set_option maxRecDepth 100000 in
set_option maxHeartbeats 1000000 in
theorem known_any (v k:Int) (c:Nat) (w:World) (hc:c < 256) :
  Calls Tryz.prog 59 #[.int .i64 v,.int .i64 k,.int .u8 c] w fun e w'=>e=.returned (.bool (knownB (sp v k) c))∧Kept No w w':=by
 have cs:=spans_any v k;have hl:=sp_len v k;have hg:=sp_get v k;generalize sp v k=l at *;have HS:=Lib.hid cs;have HG:=Lib.hid hg;clear cs hg
 go_enter Tryz.func59,Tryz.ntmps59
 go_wp2_with (go_at_call 83;refine (HS.out _).mono ?_;rintro e w1 ⟨a,rfl,hr,hk⟩)
 go_loopw [13] (fun i wr=>∃ j:Nat,i=.int .i64 j∧j≤l.length∧Hid (knownB (l.take j) c=false)∧Kept No w1 wr) (fun i _=>l.length - (intOf i).toNat)
 case atStart=>exact ⟨0,rfl,by omega,Lib.hid (by simp[knownB]),Kept.refl _ _⟩
 case round =>
  obtain ⟨j,rfl,hj,HN,hk1⟩:=hrel
  by_cases hlt:j < l.length
  ·obtain ⟨b,off,rfl,hb,c1,c2⟩:=spans_at (hr.keptNo hk1) j hlt
   have hgj:=HG.out j hlt;have HT:=Lib.hid (known_take l c j hlt);have HO:=Lib.hid (known_of l c j hlt);generalize l[j].1=lo at *;generalize l[j].2=hi at *;have hne:b≠wr.heap.size:=by omega
   by_cases h1:lo≤c
   ·by_cases h2:hi < c
    ·have h1z:(lo:Int)≤c:=by omega
     have h2z:(c:Int) < hi→False:=by omega
     have hd:decide ((c:Int)≤(hi:Int))=false:=by simp;omega
     have hN2:knownB (l.take (j+1)) c=false:=by rw[HT.out,HN.out];simp;omega
     have HN2:=Lib.hid hN2;clear hN2 h2z
     go_wp2
     go_roundw
     case rel=>exact ⟨j+1,by go_num,by omega,HN2,hk1.alloc _⟩
     case measure=>simp[intOf];omega
    ·have h1z:(lo:Int)≤c:=by omega
     have h2z:(c:Int)≤hi:=by omega
     have hY:=Lib.hid (HO.out h1 (by omega))
     go_wp2
     go_ret
     exact ⟨by rw[hY.out];rfl,hk.trans (hk1.alloc _)⟩
   ·have hd:decide ((lo:Int)≤(c:Int))=false:=by simp;omega
    have hN2:knownB (l.take (j+1)) c=false:=by rw[HT.out,HN.out];simp;omega
    have HN2:=Lib.hid hN2;clear hN2
    go_wp2
    go_roundw
    case rel=>exact ⟨j+1,by go_num,by omega,HN2,hk1.alloc _⟩
    case measure=>simp[intOf];omega
  ·have hF:=Lib.hid (known_full l c j (by omega))
   go_wp2
   go_ret
   exact ⟨by rw[← hF.out,HN.out];rfl,hk.trans hk1⟩
def ke (v k:Int) (c:Nat):Bool:=knownB (sp v k) c
theorem failed_any (v k:Int) (c:Nat) (w:World) (hc:c < 256) :
  Calls Tryz.prog 40 #[.int .i64 v,.int .i64 k,.int .u8 c] w fun e w'=>e=.returned (.bool (failedB v k c))∧Kept No w w':=by
 have cK:=known_any v k c w hc
 by_cases hK:knownB (sp v k) c=true
 ·rw[hK]at cK
  have HK:=Lib.hid cK;clear cK
  by_cases h4:v=4
  ·by_cases h2:k=2
   ·subst h4 h2
    have hF:=Lib.hid (failed_4 2 c rfl hK);clear hK
    have hb:((c:Int) != 0) = !decide (c=0):=by
     by_cases h0:c=0<;>simp[h0]
    have HB:=Lib.hid hb;clear hb
    go_enter Tryz.func40,Tryz.ntmps40
    go_wp2_with (go_at_call 59;refine HK.out.mono ?_;rintro e w1 ⟨rfl,hk⟩)
    go_ret
    exact ⟨by rw[hF.out,← HB.out];rfl,hk⟩
   ·have hF:=Lib.hid (failed_else v k c (by omega) hK)
    have hb2:(k == 2)=false:=by simpa using h2
    subst h4;clear hK h2
    have hb:decide (128≤(c:Int))=decide (128≤c):=by
     by_cases h0:128≤c
     ·rw[decide_eq_true h0,decide_eq_true (by omega)]
     ·rw[decide_eq_false h0,decide_eq_false (by omega)]
    have HB:=Lib.hid hb;clear hb
    go_enter Tryz.func40,Tryz.ntmps40
    go_wp2_with (go_at_call 59;refine HK.out.mono ?_;rintro e w1 ⟨rfl,hk⟩)
    go_ret
    exact ⟨by rw[hF.out,← HB.out];rfl,hk⟩
  ·have hF:=Lib.hid (failed_else v k c (by omega) hK)
   have hb4:(v == 4)=false:=by simpa using h4
   clear hK h4
   have hb:decide (128≤(c:Int))=decide (128≤c):=by
    by_cases h0:128≤c
    ·rw[decide_eq_true h0,decide_eq_true (by omega)]
    ·rw[decide_eq_false h0,decide_eq_false (by omega)]
   have HB:=Lib.hid hb;clear hb
   go_enter Tryz.func40,Tryz.ntmps40
   go_wp2_with (go_at_call 59;refine HK.out.mono ?_;rintro e w1 ⟨rfl,hk⟩)
   go_ret
   exact ⟨by rw[hF.out,← HB.out];rfl,hk⟩
 ·have hK':knownB (sp v k) c=false:=by simpa using hK
  rw[hK']at cK;have hF:=Lib.hid (failed_no v k c hK');have HK:=Lib.hid cK;clear cK hK hK'
  go_enter Tryz.func40,Tryz.ntmps40
  go_wp2_with (go_at_call 59;refine HK.out.mono ?_;rintro e w1 ⟨rfl,hk⟩)
  go_ret
  exact ⟨by rw[hF.out];rfl,hk⟩
end Go.Proofs.YtofjhopecfmbcaaGreatDoor
