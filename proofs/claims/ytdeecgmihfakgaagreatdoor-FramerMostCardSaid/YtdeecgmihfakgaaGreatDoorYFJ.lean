import Derived.Test.YtdeecgmihfakgaaGreatDoorYF2
import Derived.Deep.RegionHeld3
import Derived.IntWalk
import Derived.Test.YtdeecgmihfakgaaGreatDoorYFF
namespace Go.Proofs.YtdeecgmihfakgaaGreatDoor
open Go.RowKit
set_option linter.unusedVariables false
set_option linter.unusedSimpArgs false
theorem first_eq (s:ByteArray) (h:0 < s.size):s.data.toList=s[0] :: s.data.toList.drop 1:=by
 have hl:0 < s.data.toList.length:=by rw[sz_list];exact h
 have h1:s.data.toList=s.data.toList[0] :: s.data.toList.drop 1:=by
  have:=List.drop_eq_getElem_cons hl
  simpa using this
 have h2:s.data.toList[0]=s[0]:=by simp[ByteArray.getElem_eq_getElem_data]<;>rfl
 rw[h2]at h1;exact h1
theorem info_u8:(Tryz.prog.info? 5).map (fun i=>(i.zero,i.size,i.bytes))=some (some (.int .u8 0),1,1):=by kernel_rfl
def flat2 (l:List (Nat × Nat)):List Int:=l.flatMap fun p=>[(p.1:Int),(p.2:Int)]
def RSpansIs (w:World) (l:List (Nat × Nat)) (e:Ending) (w':World):Prop :=
 ∃ a,e=.returned (.slice a (2 * l.length) (2 * l.length))∧Row w' a (ints .i64 (flat2 l))∧Kept No w w'
theorem rspans_new (w:World) (t:TypeId) (l:List (Nat × Nat)) (n:Nat) (cs:List Value) (hn:n=2 * l.length) (hc:cs=ints .i64 (flat2 l)) :
  RSpansIs w l (.returned (.slice (some ⟨w.heap.size,0,none⟩) n n)) (w.alloc (.cells cs.toArray t)):=by
 subst hn hc;exact ⟨_,rfl,.of_cells (new_cells w t _ _ rfl),(Kept.refl No w).alloc _⟩
theorem rspans_none (w:World):RSpansIs w [] (.returned (.slice none 0 0)) w:=⟨none,rfl,.nil _ _,.refl _ _⟩
set_option maxRecDepth 100000 in
set_option maxHeartbeats 1000000 in
theorem rspans4_any (k:Int) (w:World):Calls Tryz.prog 148 #[.int .i64 4,.int .i64 k] w (RSpansIs w (sp4 k)):=by
 by_cases h:k=2∨k=4∨k=5∨k=6∨k=7∨k=14∨k=9
 ·rcases h with rfl|rfl|rfl|rfl|rfl|rfl|rfl
  all_goals
   go_enter Tryz.func148,Tryz.ntmps148
   go_wp2
   go_ret
   exact rspans_new w _ _ _ _ rfl rfl
 ·have e:sp4 k=[]:=by
   unfold sp4;rw[if_neg (by omega),if_neg (by omega),if_neg (by omega)]
  have b2:(k == 2)=false:=by simp;omega
  have b4:(k == 4)=false:=by simp;omega
  have b5:(k == 5)=false:=by simp;omega
  have b6:(k == 6)=false:=by simp;omega
  have b7:(k == 7)=false:=by simp;omega
  have b14:(k == 14)=false:=by simp;omega
  have b9:(k == 9)=false:=by simp;omega
  rw[e];clear e h
  go_enter Tryz.func148,Tryz.ntmps148
  go_wp2
  go_ret
  exact rspans_none w
set_option maxRecDepth 100000 in
set_option maxHeartbeats 1000000 in
theorem rspans5_any (k:Int) (w:World):Calls Tryz.prog 148 #[.int .i64 5,.int .i64 k] w (RSpansIs w (sp5 k)):=by
 by_cases h:k=2∨k=4∨k=5∨k=6∨k=7∨k=9∨k=11∨k=14∨k=15
 ·rcases h with rfl|rfl|rfl|rfl|rfl|rfl|rfl|rfl|rfl
  all_goals
   go_enter Tryz.func148,Tryz.ntmps148
   go_wp2
   go_ret
   exact rspans_new w _ _ _ _ rfl rfl
 ·have e:sp5 k=[]:=by
   unfold sp5;rw[if_neg (by omega),if_neg (by omega),if_neg (by omega),if_neg (by omega),if_neg (by omega),if_neg (by omega),if_neg (by omega)]
  have b2:(k == 2)=false:=by simp;omega
  have b4:(k == 4)=false:=by simp;omega
  have b5:(k == 5)=false:=by simp;omega
  have b6:(k == 6)=false:=by simp;omega
  have b7:(k == 7)=false:=by simp;omega
  have b9:(k == 9)=false:=by simp;omega
  have b11:(k == 11)=false:=by simp;omega
  have b14:(k == 14)=false:=by simp;omega
  have b15:(k == 15)=false:=by simp;omega
  rw[e];clear e h
  go_enter Tryz.func148,Tryz.ntmps148
  go_wp2
  go_ret
  exact rspans_none w
theorem rspans_any (v k:Int) (w:World):Calls Tryz.prog 148 #[.int .i64 v,.int .i64 k] w (RSpansIs w (sp v k)):=by
 by_cases h4:v=4
 ·subst h4
  exact rspans4_any k w
 ·by_cases h5:v=5
  ·subst h5
   exact rspans5_any k w
  ·have e:sp v k=[]:=by unfold sp;rw[if_neg h4,if_neg h5]
   have b4:(v == 4)=false:=by simpa using h4
   have b5:(v == 5)=false:=by simpa using h5
   have b5':(v != 5)=true:=by simpa using h5
   rw[e];clear e h4 h5
   go_enter Tryz.func148,Tryz.ntmps148
   go_wp2
   go_ret
   exact rspans_none w
theorem flat2_get (l:List (Nat × Nat)) (i:Nat) (h:i < l.length):(ints .i64 (flat2 l))[2 * i]?=some (.int .i64 l[i].1)∧(ints .i64 (flat2 l))[2 * i+1]?=some (.int .i64 l[i].2):=by
 induction l generalizing i with
 | nil=>simp at h
 | cons p t ih =>
  cases i with
  | zero=>simp[flat2,ints]
  | succ i =>
   have:=ih i (by simpa using h)
   rw[show 2 * (i+1)=2 * i+1+1 from by omega];simpa [flat2,ints] using this
theorem rspans_at {w:World} {a:Option Addr} {l:List (Nat × Nat)} (h:Row w a (ints .i64 (flat2 l))) (i:Nat) (hi:i < l.length) :
  ∃ b off,a=some ⟨b,off,none⟩∧w.cell? ⟨b,off+2 * i,none⟩=some (.int .i64 l[i].1)∧w.cell? ⟨b,off+(2 * i+1),none⟩=some (.int .i64 l[i].2):=by
 obtain ⟨e1,e2⟩:=flat2_get l i hi;rcases h with h|⟨b,off,ha,hb,hc⟩
 ·rw[h]at e1;simp at e1
 ·exact ⟨b,off,ha,hc _ _ e1,hc _ _ e2⟩
set_option maxRecDepth 100000 in
set_option maxHeartbeats 1000000 in
theorem rknown_any (v k:Int) (c:Nat) (w:World) (hc:c < 256) :
  Calls Tryz.prog 111 #[.int .i64 v,.int .i64 k,.int .u8 c] w fun e w'=>e=.returned (.bool (knownB (sp v k) c))∧Kept No w w':=by
 have cs:=rspans_any v k;have hl:=sp_len v k;have hg:=sp_get v k;generalize sp v k=l at *;have HS:=Lib.hid cs;have HG:=Lib.hid hg;clear cs hg
 go_enter Tryz.func111,Tryz.ntmps111
 go_wp2_with (go_at_call 148;refine (HS.out _).mono ?_;rintro e w1 ⟨a,rfl,hr,hk⟩)
 go_loopw [8] (fun i wr=>∃ j:Nat,i=.int .i64 ((2 * j:Nat):Int)∧j≤l.length∧Hid (knownB (l.take j) c=false)∧Kept No w1 wr) (fun i _=>2 * l.length - (intOf i).toNat)
 case atStart=>exact ⟨0,rfl,by omega,Lib.hid (by simp[knownB]),Kept.refl _ _⟩
 case round =>
  obtain ⟨j,rfl,hj,HN,hk1⟩:=hrel
  by_cases hlt:j < l.length
  ·obtain ⟨b,off,rfl,c1,c2⟩:=rspans_at (hr.keptNo hk1) j hlt
   have HT:=Lib.hid (known_take l c j hlt);have HO:=Lib.hid (known_of l c j hlt);generalize l[j].1=lo at *;generalize l[j].2=hi at *
   by_cases h1:lo≤c
   ·by_cases h2:hi < c
    ·have h1z:(lo:Int)≤c:=by omega
     have hd:decide ((c:Int)≤(hi:Int))=false:=by simp;omega
     have hN2:knownB (l.take (j+1)) c=false:=by rw[HT.out,HN.out];simp;omega
     have HN2:=Lib.hid hN2;clear hN2
     go_wp2
     go_roundw
     case rel=>exact ⟨j+1,by go_num,by omega,HN2,hk1⟩
     case measure=>simp[intOf];omega
    ·have h1z:(lo:Int)≤c:=by omega
     have h2z:(c:Int)≤hi:=by omega
     have hY:=Lib.hid (HO.out h1 (by omega))
     go_wp2
     go_ret
     exact ⟨by rw[hY.out];rfl,hk.trans hk1⟩
   ·have hd:decide ((lo:Int)≤(c:Int))=false:=by simp;omega
    have hN2:knownB (l.take (j+1)) c=false:=by rw[HT.out,HN.out];simp;omega
    have HN2:=Lib.hid hN2;clear hN2
    go_wp2
    go_roundw
    case rel=>exact ⟨j+1,by go_num,by omega,HN2,hk1⟩
    case measure=>simp[intOf];omega
  ·have hF:=Lib.hid (known_full l c j (by omega))
   go_wp2
   go_ret
   exact ⟨by rw[← hF.out,HN.out];rfl,hk.trans hk1⟩
end Go.Proofs.YtdeecgmihfakgaaGreatDoor
