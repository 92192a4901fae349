import Derived.Test.YtofjhopecfmbcaaGreatDoorPrpM
import Derived.Test.YtofjhopecfmbcaaGreatDoorBase
import Derived.Test.YtofjhopecfmbcaaGreatDoorChecked
namespace Go.Proofs.YtofjhopecfmbcaaGreatDoor
open Go.RowKit
set_option linter.unusedVariables false
set_option linter.unusedSimpArgs false
theorem type_any (id:Nat) (w:World):Calls Tryz.prog 178 #[.int .u8 id] w fun e w'=>e=.returned (.int .i64 (typL id))∧w=w':=by
 by_cases h:id=1∨id=23∨id=25∨id=36∨id=37∨id=40∨id=41∨id=42∨id=19∨id=33∨id=34∨id=35∨id=2∨id=17∨id=24∨id=39∨id=11∨id=3∨id=8∨id=18∨id=21∨id=26∨id=28∨id=31∨id=9∨id=22∨id=38
 ·rcases h with rfl|rfl|rfl|rfl|rfl|rfl|rfl|rfl|rfl|rfl|rfl|rfl|rfl|rfl|rfl|rfl|rfl|rfl|rfl|rfl|rfl|rfl|rfl|rfl|rfl|rfl|rfl
  all_goals
   go_enter Tryz.func178,Tryz.ntmps178
   go_wp2
   go_ret
   exact ⟨rfl,rfl⟩
 ·have e:typL id=0:=typL_no id (by omega)
  rw[e];have b1:((id:Int) == 1)=false:=by simp;omega
  have b23:((id:Int) == 23)=false:=by simp;omega
  have b25:((id:Int) == 25)=false:=by simp;omega
  have b36:((id:Int) == 36)=false:=by simp;omega
  have b37:((id:Int) == 37)=false:=by simp;omega
  have b40:((id:Int) == 40)=false:=by simp;omega
  have b41:((id:Int) == 41)=false:=by simp;omega
  have b42:((id:Int) == 42)=false:=by simp;omega
  have b19:((id:Int) == 19)=false:=by simp;omega
  have b33:((id:Int) == 33)=false:=by simp;omega
  have b34:((id:Int) == 34)=false:=by simp;omega
  have b35:((id:Int) == 35)=false:=by simp;omega
  have b2:((id:Int) == 2)=false:=by simp;omega
  have b17:((id:Int) == 17)=false:=by simp;omega
  have b24:((id:Int) == 24)=false:=by simp;omega
  have b39:((id:Int) == 39)=false:=by simp;omega
  have b11:((id:Int) == 11)=false:=by simp;omega
  have b3:((id:Int) == 3)=false:=by simp;omega
  have b8:((id:Int) == 8)=false:=by simp;omega
  have b18:((id:Int) == 18)=false:=by simp;omega
  have b21:((id:Int) == 21)=false:=by simp;omega
  have b26:((id:Int) == 26)=false:=by simp;omega
  have b28:((id:Int) == 28)=false:=by simp;omega
  have b31:((id:Int) == 31)=false:=by simp;omega
  have b9:((id:Int) == 9)=false:=by simp;omega
  have b22:((id:Int) == 22)=false:=by simp;omega
  have b38:((id:Int) == 38)=false:=by simp;omega
  clear e h
  go_enter Tryz.func178,Tryz.ntmps178
  go_wp2
  go_ret
  exact ⟨rfl,rfl⟩
def nats (l:List Nat):List Value:=l.map fun (n:Nat)=>.int .u8 (n:Int)
def HasIt (P:Prop) (w:World) (e:Ending) (w':World):Prop:=∃ r:Int,e=.returned (.int .i64 r)∧(0≤r↔P)∧w=w'
set_option maxHeartbeats 1000000 in
theorem index_u8 (a:Option Addr) (c:Nat) (l:List Nat) (x:Nat) (w:World) (hr:Row w a (nats l)) (hl:l.length≤1000) :
  Calls Tryz.prog 190 #[.slice a l.length c,.int .u8 x] w (HasIt (x∈l) w):=by
 go_enter Tryz.func190,Tryz.ntmps190
 go_wp2
 go_loop [5,8] (fun _ i=>∃ k:Nat,k≤l.length∧i=.int .i64 k∧Hid (x ∉ l.take k)) (fun _ i=>l.length - (intOf i).toNat)
 case atStart=>exact ⟨0,Nat.zero_le _,rfl,Lib.hid (by simp)⟩
 case round =>
  obtain ⟨k,hk,rfl,HN⟩:=hrel
  by_cases hlt:k < l.length
  ·obtain ⟨b,off,rfl,hb,hc⟩:=hr.at_ (k:=k) (by simpa [nats] using hlt)
   have hx:(nats l)[k]'(by simpa [nats] using hlt)=.int .u8 l[k]:=by simp[nats]
   rw[hx]at hc;have HM:=Lib.hid (List.getElem_mem hlt);have HT:=Lib.hid (List.take_succ_eq_append_getElem hlt);clear hx;generalize l[k]=y at *
   by_cases hxy:x=y
   ·subst hxy
    go_wp2
    go_ret
    exact ⟨k,rfl,⟨fun _=>HM.out,fun _=>by omega⟩,rfl⟩
   ·have hne:((x:Int) == (y:Int))=false:=by simp;omega
    have HN2:Hid (x ∉ l.take (k+1)):=Lib.hid (by rw[HT.out];have:=HN.out;simp[this,hxy])
    go_wp2
    go_round
    case rel=>exact ⟨k+1,by omega,by go_num,HN2⟩
    case measure=>simp[intOf];omega
  ·have HF:=Lib.hid (List.take_of_length_le (l:=l) (i:=k) (by omega))
   go_wp2
   go_ret
   exact ⟨-1,rfl,⟨fun h=>by omega,fun h=>absurd (by rw[HF.out];exact h) HN.out⟩,rfl⟩
theorem contains_u8 (a:Option Addr) (c:Nat) (l:List Nat) (x:Nat) (w:World) (hr:Row w a (nats l)) (hl:l.length≤1000) :
  Calls Tryz.prog 180 #[.slice a l.length c,.int .u8 x] w fun e w'=>e=.returned (.bool (l.contains x))∧w=w':=by
 have cI:=Lib.hid (index_u8 a c l x w hr hl)
 by_cases hm:x∈l
 ·have hb:l.contains x=true:=by simpa using hm
  rw[hb];have HM:=Lib.hid hm;clear hb hm hr
  go_enter Tryz.func180,Tryz.ntmps180
  go_wp2_with (go_at_call 190;refine cI.out.mono ?_;rintro e w' ⟨r,rfl,hr,rfl⟩;have hr2:=hr.2 HM.out;clear hr)
  go_ret
  exact ⟨rfl,rfl⟩
 ·have hb:l.contains x=false:=by simpa using hm
  rw[hb];have HM:=Lib.hid hm;clear hb hm hr
  go_enter Tryz.func180,Tryz.ntmps180
  go_wp2_with (go_at_call 190;refine cI.out.mono ?_;rintro e w' ⟨r,rfl,hr,rfl⟩;have hr2:r < 0:=(by by_cases h0:0≤r;exact absurd (hr.1 h0) HM.out;omega);have hr3:decide (0≤r)=false:=(by simp;omega);clear hr)
  go_ret
  exact ⟨by first|rfl|rw[hr3],rfl⟩
theorem among_any (a:Option Addr) (c:Nat) (l:List Nat) (x:Nat) (w:World) (hr:Row w a (nats l)) (hl:l.length≤1000) :
  Calls Tryz.prog 161 #[.int .u8 x,.slice a l.length c] w fun e w'=>e=.returned (.bool (l.contains x))∧w=w':=by
 have cI:=Lib.hid (contains_u8 a c l x w hr hl);generalize l.contains x=B at *;clear hr
 go_enter Tryz.func161,Tryz.ntmps161
 go_wp2_with (go_at_call 180;refine cI.out.mono ?_;rintro e w' ⟨rfl,rfl⟩)
 go_ret
 exact ⟨rfl,rfl⟩
theorem among_new (l:List Nat) (x n:Nat) (t:TypeId) (cs:List Value) (w:World) (hn:n=l.length) (hc:cs=nats l) (hl:l.length≤1000) :
  Calls Tryz.prog 161 #[.int .u8 x,.slice (some ⟨w.heap.size,0,none⟩) n n] (w.alloc (.cells cs.toArray t)) fun e w'=>e=.returned (.bool (l.contains x))∧w.alloc (.cells cs.toArray t)=w':=by
 subst hn hc;exact among_any _ _ l x _ (.of_cells (new_cells w t _ _ rfl)) hl
set_option maxRecDepth 100000 in
theorem for_1 (id:Nat) (w:World):Calls Tryz.prog 141 #[.int .u8 id,.int .i64 1] w fun e w'=>e=.returned (.bool ((forL 1).contains id))∧Kept No w w':=by
 generalize hB:(forL 1).contains id=B;have HA:Hid (∀ (wx:World) (t:TypeId),Calls Tryz.prog 161 #[.int .u8 id,.slice (some ⟨wx.heap.size,0,none⟩) 9 9] (wx.alloc (.cells (nats [17,21,22,23,25,33,34,38,39]).toArray t)) fun e w'=>e=.returned (.bool B)∧wx.alloc (.cells (nats [17,21,22,23,25,33,34,38,39]).toArray t)=w'):=Lib.hid (fun wx t=>by have h:=among_new [17,21,22,23,25,33,34,38,39] id 9 t _ wx rfl rfl (by decide);rw[show ([17,21,22,23,25,33,34,38,39]:List Nat).contains id=B from hB]at h;exact h);clear hB
 go_enter Tryz.func141,Tryz.ntmps141
 go_wp2_with (go_at_call 161;refine (HA.out _ _).mono ?_;rintro e w1 ⟨rfl,rfl⟩)
 go_ret
 exact ⟨rfl,(Kept.refl No w).alloc _⟩
set_option maxRecDepth 100000 in
theorem for_2 (id:Nat) (w:World):Calls Tryz.prog 141 #[.int .u8 id,.int .i64 2] w fun e w'=>e=.returned (.bool ((forL 2).contains id))∧Kept No w w':=by
 generalize hB:(forL 2).contains id=B;have HA:Hid (∀ (wx:World) (t:TypeId),Calls Tryz.prog 161 #[.int .u8 id,.slice (some ⟨wx.heap.size,0,none⟩) 17 17] (wx.alloc (.cells (nats [17,18,19,21,22,26,28,31,33,34,36,37,38,39,40,41,42]).toArray t)) fun e w'=>e=.returned (.bool B)∧wx.alloc (.cells (nats [17,18,19,21,22,26,28,31,33,34,36,37,38,39,40,41,42]).toArray t)=w'):=Lib.hid (fun wx t=>by have h:=among_new [17,18,19,21,22,26,28,31,33,34,36,37,38,39,40,41,42] id 17 t _ wx rfl rfl (by decide);rw[show ([17,18,19,21,22,26,28,31,33,34,36,37,38,39,40,41,42]:List Nat).contains id=B from hB]at h;exact h);clear hB
 go_enter Tryz.func141,Tryz.ntmps141
 go_wp2_with (go_at_call 161;refine (HA.out _ _).mono ?_;rintro e w1 ⟨rfl,rfl⟩)
 go_ret
 exact ⟨rfl,(Kept.refl No w).alloc _⟩
set_option maxRecDepth 100000 in
theorem for_3 (id:Nat) (w:World):Calls Tryz.prog 141 #[.int .u8 id,.int .i64 3] w fun e w'=>e=.returned (.bool ((forL 3).contains id))∧Kept No w w':=by
 generalize hB:(forL 3).contains id=B;have HA:Hid (∀ (wx:World) (t:TypeId),Calls Tryz.prog 161 #[.int .u8 id,.slice (some ⟨wx.heap.size,0,none⟩) 8 8] (wx.alloc (.cells (nats [1,2,3,8,9,11,35,38]).toArray t)) fun e w'=>e=.returned (.bool B)∧wx.alloc (.cells (nats [1,2,3,8,9,11,35,38]).toArray t)=w'):=Lib.hid (fun wx t=>by have h:=among_new [1,2,3,8,9,11,35,38] id 8 t _ wx rfl rfl (by decide);rw[show ([1,2,3,8,9,11,35,38]:List Nat).contains id=B from hB]at h;exact h);clear hB
 go_enter Tryz.func141,Tryz.ntmps141
 go_wp2_with (go_at_call 161;refine (HA.out _ _).mono ?_;rintro e w1 ⟨rfl,rfl⟩)
 go_ret
 exact ⟨rfl,(Kept.refl No w).alloc _⟩
set_option maxRecDepth 100000 in
theorem for_4 (id:Nat) (w:World):Calls Tryz.prog 141 #[.int .u8 id,.int .i64 4] w fun e w'=>e=.returned (.bool ((forL 4).contains id))∧Kept No w w':=by
 generalize hB:(forL 4).contains id=B;have HA:Hid (∀ (wx:World) (t:TypeId),Calls Tryz.prog 161 #[.int .u8 id,.slice (some ⟨wx.heap.size,0,none⟩) 2 2] (wx.alloc (.cells (nats [31,38]).toArray t)) fun e w'=>e=.returned (.bool B)∧wx.alloc (.cells (nats [31,38]).toArray t)=w'):=Lib.hid (fun wx t=>by have h:=among_new [31,38] id 2 t _ wx rfl rfl (by decide);rw[show ([31,38]:List Nat).contains id=B from hB]at h;exact h);clear hB
 go_enter Tryz.func141,Tryz.ntmps141
 go_wp2_with (go_at_call 161;refine (HA.out _ _).mono ?_;rintro e w1 ⟨rfl,rfl⟩)
 go_ret
 exact ⟨rfl,(Kept.refl No w).alloc _⟩
set_option maxRecDepth 100000 in
theorem for_5 (id:Nat) (w:World):Calls Tryz.prog 141 #[.int .u8 id,.int .i64 5] w fun e w'=>e=.returned (.bool ((forL 5).contains id))∧Kept No w w':=by
 generalize hB:(forL 5).contains id=B;have HA:Hid (∀ (wx:World) (t:TypeId),Calls Tryz.prog 161 #[.int .u8 id,.slice (some ⟨wx.heap.size,0,none⟩) 2 2] (wx.alloc (.cells (nats [31,38]).toArray t)) fun e w'=>e=.returned (.bool B)∧wx.alloc (.cells (nats [31,38]).toArray t)=w'):=Lib.hid (fun wx t=>by have h:=among_new [31,38] id 2 t _ wx rfl rfl (by decide);rw[show ([31,38]:List Nat).contains id=B from hB]at h;exact h);clear hB
 go_enter Tryz.func141,Tryz.ntmps141
 go_wp2_with (go_at_call 161;refine (HA.out _ _).mono ?_;rintro e w1 ⟨rfl,rfl⟩)
 go_ret
 exact ⟨rfl,(Kept.refl No w).alloc _⟩
set_option maxRecDepth 100000 in
theorem for_6 (id:Nat) (w:World):Calls Tryz.prog 141 #[.int .u8 id,.int .i64 6] w fun e w'=>e=.returned (.bool ((forL 6).contains id))∧Kept No w w':=by
 generalize hB:(forL 6).contains id=B;have HA:Hid (∀ (wx:World) (t:TypeId),Calls Tryz.prog 161 #[.int .u8 id,.slice (some ⟨wx.heap.size,0,none⟩) 2 2] (wx.alloc (.cells (nats [31,38]).toArray t)) fun e w'=>e=.returned (.bool B)∧wx.alloc (.cells (nats [31,38]).toArray t)=w'):=Lib.hid (fun wx t=>by have h:=among_new [31,38] id 2 t _ wx rfl rfl (by decide);rw[show ([31,38]:List Nat).contains id=B from hB]at h;exact h);clear hB
 go_enter Tryz.func141,Tryz.ntmps141
 go_wp2_with (go_at_call 161;refine (HA.out _ _).mono ?_;rintro e w1 ⟨rfl,rfl⟩)
 go_ret
 exact ⟨rfl,(Kept.refl No w).alloc _⟩
set_option maxRecDepth 100000 in
theorem for_7 (id:Nat) (w:World):Calls Tryz.prog 141 #[.int .u8 id,.int .i64 7] w fun e w'=>e=.returned (.bool ((forL 7).contains id))∧Kept No w w':=by
 generalize hB:(forL 7).contains id=B;have HA:Hid (∀ (wx:World) (t:TypeId),Calls Tryz.prog 161 #[.int .u8 id,.slice (some ⟨wx.heap.size,0,none⟩) 2 2] (wx.alloc (.cells (nats [31,38]).toArray t)) fun e w'=>e=.returned (.bool B)∧wx.alloc (.cells (nats [31,38]).toArray t)=w'):=Lib.hid (fun wx t=>by have h:=among_new [31,38] id 2 t _ wx rfl rfl (by decide);rw[show ([31,38]:List Nat).contains id=B from hB]at h;exact h);clear hB
 go_enter Tryz.func141,Tryz.ntmps141
 go_wp2_with (go_at_call 161;refine (HA.out _ _).mono ?_;rintro e w1 ⟨rfl,rfl⟩)
 go_ret
 exact ⟨rfl,(Kept.refl No w).alloc _⟩
set_option maxRecDepth 100000 in
theorem for_9 (id:Nat) (w:World):Calls Tryz.prog 141 #[.int .u8 id,.int .i64 9] w fun e w'=>e=.returned (.bool ((forL 9).contains id))∧Kept No w w':=by
 generalize hB:(forL 9).contains id=B;have HA:Hid (∀ (wx:World) (t:TypeId),Calls Tryz.prog 161 #[.int .u8 id,.slice (some ⟨wx.heap.size,0,none⟩) 2 2] (wx.alloc (.cells (nats [31,38]).toArray t)) fun e w'=>e=.returned (.bool B)∧wx.alloc (.cells (nats [31,38]).toArray t)=w'):=Lib.hid (fun wx t=>by have h:=among_new [31,38] id 2 t _ wx rfl rfl (by decide);rw[show ([31,38]:List Nat).contains id=B from hB]at h;exact h);clear hB
 go_enter Tryz.func141,Tryz.ntmps141
 go_wp2_with (go_at_call 161;refine (HA.out _ _).mono ?_;rintro e w1 ⟨rfl,rfl⟩)
 go_ret
 exact ⟨rfl,(Kept.refl No w).alloc _⟩
set_option maxRecDepth 100000 in
theorem for_11 (id:Nat) (w:World):Calls Tryz.prog 141 #[.int .u8 id,.int .i64 11] w fun e w'=>e=.returned (.bool ((forL 11).contains id))∧Kept No w w':=by
 generalize hB:(forL 11).contains id=B;have HA:Hid (∀ (wx:World) (t:TypeId),Calls Tryz.prog 161 #[.int .u8 id,.slice (some ⟨wx.heap.size,0,none⟩) 2 2] (wx.alloc (.cells (nats [31,38]).toArray t)) fun e w'=>e=.returned (.bool B)∧wx.alloc (.cells (nats [31,38]).toArray t)=w'):=Lib.hid (fun wx t=>by have h:=among_new [31,38] id 2 t _ wx rfl rfl (by decide);rw[show ([31,38]:List Nat).contains id=B from hB]at h;exact h);clear hB
 go_enter Tryz.func141,Tryz.ntmps141
 go_wp2_with (go_at_call 161;refine (HA.out _ _).mono ?_;rintro e w1 ⟨rfl,rfl⟩)
 go_ret
 exact ⟨rfl,(Kept.refl No w).alloc _⟩
set_option maxRecDepth 100000 in
theorem for_8 (id:Nat) (w:World):Calls Tryz.prog 141 #[.int .u8 id,.int .i64 8] w fun e w'=>e=.returned (.bool ((forL 8).contains id))∧Kept No w w':=by
 generalize hB:(forL 8).contains id=B;have HA:Hid (∀ (wx:World) (t:TypeId),Calls Tryz.prog 161 #[.int .u8 id,.slice (some ⟨wx.heap.size,0,none⟩) 2 2] (wx.alloc (.cells (nats [11,38]).toArray t)) fun e w'=>e=.returned (.bool B)∧wx.alloc (.cells (nats [11,38]).toArray t)=w'):=Lib.hid (fun wx t=>by have h:=among_new [11,38] id 2 t _ wx rfl rfl (by decide);rw[show ([11,38]:List Nat).contains id=B from hB]at h;exact h);clear hB
 go_enter Tryz.func141,Tryz.ntmps141
 go_wp2_with (go_at_call 161;refine (HA.out _ _).mono ?_;rintro e w1 ⟨rfl,rfl⟩)
 go_ret
 exact ⟨rfl,(Kept.refl No w).alloc _⟩
set_option maxRecDepth 100000 in
theorem for_10 (id:Nat) (w:World):Calls Tryz.prog 141 #[.int .u8 id,.int .i64 10] w fun e w'=>e=.returned (.bool ((forL 10).contains id))∧Kept No w w':=by
 generalize hB:(forL 10).contains id=B;have HA:Hid (∀ (wx:World) (t:TypeId),Calls Tryz.prog 161 #[.int .u8 id,.slice (some ⟨wx.heap.size,0,none⟩) 1 1] (wx.alloc (.cells (nats [38]).toArray t)) fun e w'=>e=.returned (.bool B)∧wx.alloc (.cells (nats [38]).toArray t)=w'):=Lib.hid (fun wx t=>by have h:=among_new [38] id 1 t _ wx rfl rfl (by decide);rw[show ([38]:List Nat).contains id=B from hB]at h;exact h);clear hB
 go_enter Tryz.func141,Tryz.ntmps141
 go_wp2_with (go_at_call 161;refine (HA.out _ _).mono ?_;rintro e w1 ⟨rfl,rfl⟩)
 go_ret
 exact ⟨rfl,(Kept.refl No w).alloc _⟩
set_option maxRecDepth 100000 in
theorem for_14 (id:Nat) (w:World):Calls Tryz.prog 141 #[.int .u8 id,.int .i64 14] w fun e w'=>e=.returned (.bool ((forL 14).contains id))∧Kept No w w':=by
 generalize hB:(forL 14).contains id=B;have HA:Hid (∀ (wx:World) (t:TypeId),Calls Tryz.prog 161 #[.int .u8 id,.slice (some ⟨wx.heap.size,0,none⟩) 4 4] (wx.alloc (.cells (nats [17,28,31,38]).toArray t)) fun e w'=>e=.returned (.bool B)∧wx.alloc (.cells (nats [17,28,31,38]).toArray t)=w'):=Lib.hid (fun wx t=>by have h:=among_new [17,28,31,38] id 4 t _ wx rfl rfl (by decide);rw[show ([17,28,31,38]:List Nat).contains id=B from hB]at h;exact h);clear hB
 go_enter Tryz.func141,Tryz.ntmps141
 go_wp2_with (go_at_call 161;refine (HA.out _ _).mono ?_;rintro e w1 ⟨rfl,rfl⟩)
 go_ret
 exact ⟨rfl,(Kept.refl No w).alloc _⟩
set_option maxRecDepth 100000 in
theorem for_15 (id:Nat) (w:World):Calls Tryz.prog 141 #[.int .u8 id,.int .i64 15] w fun e w'=>e=.returned (.bool ((forL 15).contains id))∧Kept No w w':=by
 generalize hB:(forL 15).contains id=B;have HA:Hid (∀ (wx:World) (t:TypeId),Calls Tryz.prog 161 #[.int .u8 id,.slice (some ⟨wx.heap.size,0,none⟩) 4 4] (wx.alloc (.cells (nats [21,22,31,38]).toArray t)) fun e w'=>e=.returned (.bool B)∧wx.alloc (.cells (nats [21,22,31,38]).toArray t)=w'):=Lib.hid (fun wx t=>by have h:=among_new [21,22,31,38] id 4 t _ wx rfl rfl (by decide);rw[show ([21,22,31,38]:List Nat).contains id=B from hB]at h;exact h);clear hB
 go_enter Tryz.func141,Tryz.ntmps141
 go_wp2_with (go_at_call 161;refine (HA.out _ _).mono ?_;rintro e w1 ⟨rfl,rfl⟩)
 go_ret
 exact ⟨rfl,(Kept.refl No w).alloc _⟩
set_option maxRecDepth 100000 in
theorem for_16 (id:Nat) (w:World):Calls Tryz.prog 141 #[.int .u8 id,.int .i64 16] w fun e w'=>e=.returned (.bool ((forL 16).contains id))∧Kept No w w':=by
 generalize hB:(forL 16).contains id=B;have HA:Hid (∀ (wx:World) (t:TypeId),Calls Tryz.prog 161 #[.int .u8 id,.slice (some ⟨wx.heap.size,0,none⟩) 7 7] (wx.alloc (.cells (nats [1,2,3,8,9,24,38]).toArray t)) fun e w'=>e=.returned (.bool B)∧wx.alloc (.cells (nats [1,2,3,8,9,24,38]).toArray t)=w'):=Lib.hid (fun wx t=>by have h:=among_new [1,2,3,8,9,24,38] id 7 t _ wx rfl rfl (by decide);rw[show ([1,2,3,8,9,24,38]:List Nat).contains id=B from hB]at h;exact h);clear hB
 go_enter Tryz.func141,Tryz.ntmps141
 go_wp2_with (go_at_call 161;refine (HA.out _ _).mono ?_;rintro e w1 ⟨rfl,rfl⟩)
 go_ret
 exact ⟨rfl,(Kept.refl No w).alloc _⟩
theorem for_any (id:Nat) (k:Int) (w:World) (h8:id < 256):Calls Tryz.prog 141 #[.int .u8 id,.int .i64 k] w fun e w'=>e=.returned (.bool (forB id k))∧Kept No w w':=by
 rw[← forL_eq id k h8]
 by_cases h:k=1∨k=2∨k=3∨k=4∨k=5∨k=6∨k=7∨k=9∨k=11∨k=8∨k=10∨k=14∨k=15∨k=16
 ·rcases h with rfl|rfl|rfl|rfl|rfl|rfl|rfl|rfl|rfl|rfl|rfl|rfl|rfl|rfl
  ·exact for_1 id w
  ·exact for_2 id w
  ·exact for_3 id w
  ·exact for_4 id w
  ·exact for_5 id w
  ·exact for_6 id w
  ·exact for_7 id w
  ·exact for_9 id w
  ·exact for_11 id w
  ·exact for_8 id w
  ·exact for_10 id w
  ·exact for_14 id w
  ·exact for_15 id w
  ·exact for_16 id w
 ·have e:forL k=[]:=forL_no k (by omega)
  rw[e];have b1:((k:Int) == 1)=false:=by simp;omega
  have b2:((k:Int) == 2)=false:=by simp;omega
  have b3:((k:Int) == 3)=false:=by simp;omega
  have b4:((k:Int) == 4)=false:=by simp;omega
  have b5:((k:Int) == 5)=false:=by simp;omega
  have b6:((k:Int) == 6)=false:=by simp;omega
  have b7:((k:Int) == 7)=false:=by simp;omega
  have b9:((k:Int) == 9)=false:=by simp;omega
  have b11:((k:Int) == 11)=false:=by simp;omega
  have b8:((k:Int) == 8)=false:=by simp;omega
  have b10:((k:Int) == 10)=false:=by simp;omega
  have b14:((k:Int) == 14)=false:=by simp;omega
  have b15:((k:Int) == 15)=false:=by simp;omega
  have b16:((k:Int) == 16)=false:=by simp;omega
  clear e h
  go_enter Tryz.func141,Tryz.ntmps141
  go_wp2
  go_ret
  exact ⟨rfl,Kept.refl _ _⟩
theorem often_any (id:Nat) (k:Int) (w:World) (h8:id < 256):Calls Tryz.prog 162 #[.int .u8 id,.int .i64 k] w fun e w'=>e=.returned (.bool (oftenB id k))∧Kept No w w':=by
 have cF:=for_any id k w h8;unfold oftenB;rcases hF:forB id k with _|_
 ·rw[hF]at cF
  have HF:=Lib.hid cF;have HO:Hid ((false&&(decide (id=38)||(decide (id=11)&&decide (k=3))))=false):=Lib.hid rfl;clear cF hF
  go_enter Tryz.func162,Tryz.ntmps162
  go_wp2_with (go_at_call 141;refine HF.out.mono ?_;rintro e w1 ⟨rfl,hk⟩)
  go_ret
  exact ⟨by rw[HO.out];rfl,hk⟩
 ·rw[hF]at cF
  have HF:=Lib.hid cF;clear cF hF
  by_cases h38:id=38
  ·have HO:Hid ((true&&(decide (id=38)||(decide (id=11)&&decide (k=3))))=true):=Lib.hid (by simp[h38])
   have hb:((id:Int) == 38)=true:=by simp;omega
   clear h38
   go_enter Tryz.func162,Tryz.ntmps162
   go_wp2_with (go_at_call 141;refine HF.out.mono ?_;rintro e w1 ⟨rfl,hk⟩)
   go_ret
   exact ⟨by rw[HO.out];rfl,hk⟩
  ·have hb:((id:Int) == 38)=false:=by simp;omega
   by_cases h11:id=11
   ·have hb1:((id:Int) == 11)=true:=by simp;omega
    by_cases h3:k=3
    ·have hb3:(k == 3)=true:=by simpa using h3
     have HO:Hid ((true&&(decide (id=38)||(decide (id=11)&&decide (k=3))))=true):=Lib.hid (by simp[h11,h3]);clear h38 h11 h3
     go_enter Tryz.func162,Tryz.ntmps162
     go_wp2_with (go_at_call 141;refine HF.out.mono ?_;rintro e w1 ⟨rfl,hk⟩)
     go_ret
     exact ⟨by rw[HO.out];rfl,hk⟩
    ·have hb3:(k == 3)=false:=by simpa using h3
     have HO:Hid ((true&&(decide (id=38)||(decide (id=11)&&decide (k=3))))=false):=Lib.hid (by simp[h11,h3]);clear h38 h11 h3
     go_enter Tryz.func162,Tryz.ntmps162
     go_wp2_with (go_at_call 141;refine HF.out.mono ?_;rintro e w1 ⟨rfl,hk⟩)
     go_ret
     exact ⟨by rw[HO.out];rfl,hk⟩
   ·have hb1:((id:Int) == 11)=false:=by simp;omega
    have HO:Hid ((true&&(decide (id=38)||(decide (id=11)&&decide (k=3))))=false):=Lib.hid (by simp[h11,h38]);clear h38 h11
    go_enter Tryz.func162,Tryz.ntmps162
    go_wp2_with (go_at_call 141;refine HF.out.mono ?_;rintro e w1 ⟨rfl,hk⟩)
    go_ret
    exact ⟨by rw[HO.out];rfl,hk⟩
end Go.Proofs.YtofjhopecfmbcaaGreatDoor
