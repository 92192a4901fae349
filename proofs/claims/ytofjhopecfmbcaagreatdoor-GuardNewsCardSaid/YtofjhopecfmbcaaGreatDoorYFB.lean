import Derived.Test.YtofjhopecfmbcaaGreatDoorYF9
import Derived.Test.YtofjhopecfmbcaaGreatDoorYF3
namespace Go.Proofs.YtofjhopecfmbcaaGreatDoor
open Go.RowKit
set_option linter.unusedVariables false
set_option linter.unusedSimpArgs false
set_option maxRecDepth 100000
theorem neq_f (i1 i2:Nat) (a1 a2:ByteArray) (w:World):Sem.run Tryz.prog (binOp .neq 105 (.agg #[.string a1,.int .u8 i1]) (.agg #[.string a2,.int .u8 i2])) w=.ok (.bool (!decide ((⟨a1,i1⟩:Fi)=⟨a2,i2⟩))) w:=by
 have hS:Tryz.prog.underlying 105=some (.struct (Tryz.prog.fieldsOf 105)):=by kernel_rfl
 have hp:Tryz.prog.stoodInHeld 105=false:=by kernel_rfl
 rw[run_neq_struct,show (10000:Nat)=9999+1 from rfl,run_equalIn_agg w 9999 105 _ _ hS hp];simp only[Program.fieldsOf,Tryz.underlying105];have u0:=Tryz.underlying5;have u2:=Tryz.underlying9
 go_simp
 by_cases h1:i1=i2<;>by_cases h3:a1=a2<;>simp[h1,h3,toList_inj,Int.natCast_inj]
theorem take_sameX {α:Type} {L M:List α} {j:Nat} (h:L.take j=M.take j) (h1:j < L.length) (h2:j < M.length) (he:L[j]=M[j]):L.take (j+1)=M.take (j+1):=by
 rw[List.take_succ_eq_append_getElem h1,List.take_succ_eq_append_getElem h2,h,he]
theorem ne_atX {α:Type} [DecidableEq α] {L M:List α} {j:Nat} (h1:j < L.length) (h2:j < M.length) (he:L[j]≠M[j]):decide (L=M)=false:=by
 refine decide_eq_false fun e=>he ?_
 subst e
 rfl
theorem byte_at {w:World} {a:Option Addr} {L:List UInt8} (h:Row w a (B8 L)) {k:Nat} (hk:k < L.length):∃ b off,a=some ⟨b,off,none⟩∧b < w.heap.size∧w.cell? ⟨b,off+k,none⟩=some (.int .u8 L[k].toNat):=by
 obtain ⟨b,off,ha,hb,hc⟩:=h.at_ (k:=k) (by simpa using hk);exact ⟨b,off,ha,hb,by rw[hc];simp[B8]⟩
set_option maxHeartbeats 4000000 in
theorem fequal_any (a:Option Addr) (c:Nat) (L:List Fi) (a9:Option Addr) (c9:Nat) (M:List Fi) (w:World) (hr:Row w a (FC L)) (hr9:Row w a9 (FC M)) (hl:L.length≤100000) (hl9:M.length≤100000) :
  Calls Tryz.prog 108 #[.slice a L.length c,.slice a9 M.length c9] w fun e w'=>e=.returned (.bool (decide (L=M)))∧Kept No w w':=by
 by_cases hlen:L.length=M.length
 ·have HL:=Lib.hid hlen
  have hne:((L.length:Int) != (M.length:Int))=false:=by simp;omega
  clear hlen
  go_enter Tryz.func108,Tryz.ntmps108
  go_wp2
  go_loopw [13] (fun i wr=>∃ j:Nat,i=.int .i64 j∧j≤L.length∧Hid (L.take j=M.take j)∧Kept No w wr) (fun i _=>L.length - (intOf i).toNat)
  case atStart=>exact ⟨0,rfl,by omega,Lib.hid rfl,Kept.refl _ _⟩
  case round =>
   obtain ⟨j,rfl,hj,HT,hk⟩:=hrel
   by_cases hlt:j < L.length
   ·have hlt9:j < M.length:=by rw[← HL.out];exact hlt
    obtain ⟨b,off,rfl,hb,q0,q1⟩:=(hr.keptNo hk).filt hlt;obtain ⟨b9,of9,rfl,hb9,r0,r1⟩:=(hr9.keptNo hk).filt hlt9;have HS:=Lib.hid (take_sameX HT.out hlt hlt9);have HN:=Lib.hid (ne_atX (L:=L) (M:=M) hlt hlt9);generalize L[j]=p at *;generalize M[j]=q at *;obtain ⟨a1,i1⟩:=p;obtain ⟨a2,i2⟩:=q;dsimp only at q0 q1 r0 r1
    by_cases he:(⟨a1,i1⟩:Fi)=⟨a2,i2⟩
    ·have HS2:=Lib.hid (HS.out he)
     have hq:∀ wx,Sem.run Tryz.prog (binOp .neq 105 (.agg #[.string a1,.int .u8 i1]) (.agg #[.string a2,.int .u8 i2])) wx=.ok (.bool false) wx:=fun wx=>by rw[neq_f,decide_eq_true he];rfl
     clear he HS HN
     go_wp2
     refine wp_region_held_drew (S:=(fun wx=>(wx.cell? ⟨b,off+j * 2,none⟩=some (.string a1)∧wx.cell? ⟨b,off+j * 2+1,none⟩=some (.int .u8 i1))∧(wx.cell? ⟨b9,of9+j * 2,none⟩=some (.string a2)∧wx.cell? ⟨b9,of9+j * 2+1,none⟩=some (.int .u8 i2)))) (by kernel_rfl) ?_ (fun hHeld=>?_)
     ·exact ⟨⟨q0,q1⟩,⟨r0,r1⟩⟩
     refine wtv (i:=0) (v:=?_) rfl (λwz9 hSw=>?_) ?_;rotate_left;(·(try dsimp only at hSw);go_simp;try with_reducible rfl);go_simp
     refine wtv (i:=1) (v:=?_) rfl (λwz9 hSw=>?_) ?_;rotate_left;(·(try dsimp only at hSw);go_simp;try with_reducible rfl);go_simp
     refine wtv (i:=2) (v:=?_) rfl (λwz9 hSw=>?_) ?_;rotate_left;(·(try dsimp only at hSw);go_simp;try with_reducible rfl);go_simp
     refine wtv (i:=3) (v:=(.agg #[.string a1,.int .u8 i1])) rfl (λwz9 hSw=>?_) ?_;(·(try dsimp only at hSw);go_simp;try with_reducible rfl);go_simp
     refine wtv (i:=4) (v:=?_) rfl (λwz9 hSw=>?_) ?_;rotate_left;(·(try dsimp only at hSw);go_simp;try with_reducible rfl);go_simp
     refine wtv (i:=5) (v:=?_) rfl (λwz9 hSw=>?_) ?_;rotate_left;(·(try dsimp only at hSw);go_simp;try with_reducible rfl);go_simp
     refine wtv (i:=6) (v:=?_) rfl (λwz9 hSw=>?_) ?_;rotate_left;(·(try dsimp only at hSw);go_simp;try with_reducible rfl);go_simp
     refine wtv (i:=7) (v:=(.agg #[.string a2,.int .u8 i2])) rfl (λwz9 hSw=>?_) ?_;(·(try dsimp only at hSw);go_simp;try with_reducible rfl);go_simp
     refine wtv (i:=8) (v:=(.bool false)) rfl (λwz9 hSw=>?_) ?_;(·(try dsimp only at hSw);go_simp;try with_reducible rfl);go_simp
     refine wpAnyH_done (by kernel_rfl) ?_ _
     go_wp2
     go_roundw
     case rel=>exact ⟨j+1,by go_num,by omega,HS2,hk.drew⟩
     case measure=>simp[intOf];omega
    ·have HN2:=Lib.hid (HN.out he)
     have hq:∀ wx,Sem.run Tryz.prog (binOp .neq 105 (.agg #[.string a1,.int .u8 i1]) (.agg #[.string a2,.int .u8 i2])) wx=.ok (.bool true) wx:=fun wx=>by rw[neq_f,decide_eq_false he];rfl
     clear he HS HN
     go_wp2
     refine wp_region_held_drew (S:=(fun wx=>(wx.cell? ⟨b,off+j * 2,none⟩=some (.string a1)∧wx.cell? ⟨b,off+j * 2+1,none⟩=some (.int .u8 i1))∧(wx.cell? ⟨b9,of9+j * 2,none⟩=some (.string a2)∧wx.cell? ⟨b9,of9+j * 2+1,none⟩=some (.int .u8 i2)))) (by kernel_rfl) ?_ (fun hHeld=>?_)
     ·exact ⟨⟨q0,q1⟩,⟨r0,r1⟩⟩
     refine wtv (i:=0) (v:=?_) rfl (λwz9 hSw=>?_) ?_;rotate_left;(·(try dsimp only at hSw);go_simp;try with_reducible rfl);go_simp
     refine wtv (i:=1) (v:=?_) rfl (λwz9 hSw=>?_) ?_;rotate_left;(·(try dsimp only at hSw);go_simp;try with_reducible rfl);go_simp
     refine wtv (i:=2) (v:=?_) rfl (λwz9 hSw=>?_) ?_;rotate_left;(·(try dsimp only at hSw);go_simp;try with_reducible rfl);go_simp
     refine wtv (i:=3) (v:=(.agg #[.string a1,.int .u8 i1])) rfl (λwz9 hSw=>?_) ?_;(·(try dsimp only at hSw);go_simp;try with_reducible rfl);go_simp
     refine wtv (i:=4) (v:=?_) rfl (λwz9 hSw=>?_) ?_;rotate_left;(·(try dsimp only at hSw);go_simp;try with_reducible rfl);go_simp
     refine wtv (i:=5) (v:=?_) rfl (λwz9 hSw=>?_) ?_;rotate_left;(·(try dsimp only at hSw);go_simp;try with_reducible rfl);go_simp
     refine wtv (i:=6) (v:=?_) rfl (λwz9 hSw=>?_) ?_;rotate_left;(·(try dsimp only at hSw);go_simp;try with_reducible rfl);go_simp
     refine wtv (i:=7) (v:=(.agg #[.string a2,.int .u8 i2])) rfl (λwz9 hSw=>?_) ?_;(·(try dsimp only at hSw);go_simp;try with_reducible rfl);go_simp
     refine wtv (i:=8) (v:=(.bool true)) rfl (λwz9 hSw=>?_) ?_;(·(try dsimp only at hSw);go_simp;try with_reducible rfl);go_simp
     refine wpAnyH_done (by kernel_rfl) ?_ _
     go_wp2
     go_ret
     exact ⟨by rw[HN2.out];rfl,hk.drew⟩
   ·have HE:Hid (decide (L=M)=true):=Lib.hid (by
     have:=HT.out
     have h9:=HL.out;rw[List.take_of_length_le (by omega),List.take_of_length_le (by omega)]at this;exact decide_eq_true this)
    go_wp2
    go_ret
    exact ⟨by rw[HE.out];rfl,hk⟩
 ·have hne:((L.length:Int) != (M.length:Int))=true:=by simp;omega
  have HE:Hid (decide (L=M)=false):=Lib.hid (decide_eq_false fun e=>hlen (by rw[e]));generalize decide (L=M)=DD at *;clear hlen
  go_enter Tryz.func108,Tryz.ntmps108
  go_wp2
  go_ret
  exact ⟨by rw[HE.out];rfl,Kept.refl _ _⟩
set_option maxHeartbeats 4000000 in
theorem cequal_any (a:Option Addr) (c:Nat) (L:List UInt8) (a9:Option Addr) (c9:Nat) (M:List UInt8) (w:World) (hr:Row w a (B8 L)) (hr9:Row w a9 (B8 M)) (hl:L.length≤100000) (hl9:M.length≤100000) :
  Calls Tryz.prog 109 #[.slice a L.length c,.slice a9 M.length c9] w fun e w'=>e=.returned (.bool (decide (L=M)))∧Kept No w w':=by
 by_cases hlen:L.length=M.length
 ·have HL:=Lib.hid hlen
  have hne:((L.length:Int) != (M.length:Int))=false:=by simp;omega
  clear hlen
  go_enter Tryz.func109,Tryz.ntmps109
  go_wp2
  go_loopw [13] (fun i wr=>∃ j:Nat,i=.int .i64 j∧j≤L.length∧Hid (L.take j=M.take j)∧Kept No w wr) (fun i _=>L.length - (intOf i).toNat)
  case atStart=>exact ⟨0,rfl,by omega,Lib.hid rfl,Kept.refl _ _⟩
  case round =>
   obtain ⟨j,rfl,hj,HT,hk⟩:=hrel
   by_cases hlt:j < L.length
   ·have hlt9:j < M.length:=by rw[← HL.out];exact hlt
    obtain ⟨b,off,rfl,hb,q0⟩:=byte_at (hr.keptNo hk) hlt;obtain ⟨b9,of9,rfl,hb9,r0⟩:=byte_at (hr9.keptNo hk) hlt9;have HS:=Lib.hid (take_sameX HT.out hlt hlt9);have HN:=Lib.hid (ne_atX (L:=L) (M:=M) hlt hlt9);generalize L[j]=p at *;generalize M[j]=q at *
    by_cases he:p=q
    ·have HS2:=Lib.hid (HS.out he)
     have hq:((p.toNat:Int) != (q.toNat:Int))=false:=by rw[he];simp
     clear he HS HN
     go_wp2
     refine wp_region_held_drew (S:=(fun wx=>wx.cell? ⟨b,off+j,none⟩=some (.int .u8 p.toNat)∧wx.cell? ⟨b9,of9+j,none⟩=some (.int .u8 q.toNat))) (by kernel_rfl) ?_ (fun hHeld=>?_)
     ·exact ⟨q0,r0⟩
     refine wtv (i:=0) (v:=?_) rfl (λwz9 hSw=>?_) ?_;rotate_left;(·(try dsimp only at hSw);go_simp;try with_reducible rfl);go_simp
     refine wtv (i:=1) (v:=?_) rfl (λwz9 hSw=>?_) ?_;rotate_left;(·(try dsimp only at hSw);go_simp;try with_reducible rfl);go_simp
     refine wtv (i:=2) (v:=?_) rfl (λwz9 hSw=>?_) ?_;rotate_left;(·(try dsimp only at hSw);go_simp;try with_reducible rfl);go_simp
     refine wtv (i:=3) (v:=(.int .u8 p.toNat)) rfl (λwz9 hSw=>?_) ?_;(·(try dsimp only at hSw);go_simp;try with_reducible rfl);go_simp
     refine wtv (i:=4) (v:=?_) rfl (λwz9 hSw=>?_) ?_;rotate_left;(·(try dsimp only at hSw);go_simp;try with_reducible rfl);go_simp
     refine wtv (i:=5) (v:=?_) rfl (λwz9 hSw=>?_) ?_;rotate_left;(·(try dsimp only at hSw);go_simp;try with_reducible rfl);go_simp
     refine wtv (i:=6) (v:=?_) rfl (λwz9 hSw=>?_) ?_;rotate_left;(·(try dsimp only at hSw);go_simp;try with_reducible rfl);go_simp
     refine wtv (i:=7) (v:=(.int .u8 q.toNat)) rfl (λwz9 hSw=>?_) ?_;(·(try dsimp only at hSw);go_simp;try with_reducible rfl);go_simp
     refine wtv (i:=8) (v:=(.bool false)) rfl (λwz9 hSw=>?_) ?_;(·(try dsimp only at hSw);go_simp;try with_reducible rfl);go_simp
     refine wpAnyH_done (by kernel_rfl) ?_ _
     go_wp2
     go_roundw
     case rel=>exact ⟨j+1,by go_num,by omega,HS2,hk.drew⟩
     case measure=>simp[intOf];omega
    ·have HN2:=Lib.hid (HN.out he)
     have hq:((p.toNat:Int) != (q.toNat:Int))=true:=by (have:p.toNat≠q.toNat:=fun h=>he (UInt8.toNat_inj.1 h));simp;omega
     clear he HS HN
     go_wp2
     refine wp_region_held_drew (S:=(fun wx=>wx.cell? ⟨b,off+j,none⟩=some (.int .u8 p.toNat)∧wx.cell? ⟨b9,of9+j,none⟩=some (.int .u8 q.toNat))) (by kernel_rfl) ?_ (fun hHeld=>?_)
     ·exact ⟨q0,r0⟩
     refine wtv (i:=0) (v:=?_) rfl (λwz9 hSw=>?_) ?_;rotate_left;(·(try dsimp only at hSw);go_simp;try with_reducible rfl);go_simp
     refine wtv (i:=1) (v:=?_) rfl (λwz9 hSw=>?_) ?_;rotate_left;(·(try dsimp only at hSw);go_simp;try with_reducible rfl);go_simp
     refine wtv (i:=2) (v:=?_) rfl (λwz9 hSw=>?_) ?_;rotate_left;(·(try dsimp only at hSw);go_simp;try with_reducible rfl);go_simp
     refine wtv (i:=3) (v:=(.int .u8 p.toNat)) rfl (λwz9 hSw=>?_) ?_;(·(try dsimp only at hSw);go_simp;try with_reducible rfl);go_simp
     refine wtv (i:=4) (v:=?_) rfl (λwz9 hSw=>?_) ?_;rotate_left;(·(try dsimp only at hSw);go_simp;try with_reducible rfl);go_simp
     refine wtv (i:=5) (v:=?_) rfl (λwz9 hSw=>?_) ?_;rotate_left;(·(try dsimp only at hSw);go_simp;try with_reducible rfl);go_simp
     refine wtv (i:=6) (v:=?_) rfl (λwz9 hSw=>?_) ?_;rotate_left;(·(try dsimp only at hSw);go_simp;try with_reducible rfl);go_simp
     refine wtv (i:=7) (v:=(.int .u8 q.toNat)) rfl (λwz9 hSw=>?_) ?_;(·(try dsimp only at hSw);go_simp;try with_reducible rfl);go_simp
     refine wtv (i:=8) (v:=(.bool true)) rfl (λwz9 hSw=>?_) ?_;(·(try dsimp only at hSw);go_simp;try with_reducible rfl);go_simp
     refine wpAnyH_done (by kernel_rfl) ?_ _
     go_wp2
     go_ret
     exact ⟨by rw[HN2.out];rfl,hk.drew⟩
   ·have HE:Hid (decide (L=M)=true):=Lib.hid (by
     have:=HT.out
     have h9:=HL.out;rw[List.take_of_length_le (by omega),List.take_of_length_le (by omega)]at this;exact decide_eq_true this)
    go_wp2
    go_ret
    exact ⟨by rw[HE.out];rfl,hk⟩
 ·have hne:((L.length:Int) != (M.length:Int))=true:=by simp;omega
  have HE:Hid (decide (L=M)=false):=Lib.hid (decide_eq_false fun e=>hlen (by rw[e]));generalize decide (L=M)=DD at *;clear hlen
  go_enter Tryz.func109,Tryz.ntmps109
  go_wp2
  go_ret
  exact ⟨by rw[HE.out];rfl,Kept.refl _ _⟩
end Go.Proofs.YtofjhopecfmbcaaGreatDoor
