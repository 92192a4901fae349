import Derived.Test.YtkochkhfbhjicaaGreatDoorYF9
import Derived.Test.YtkochkhfbhjicaaGreatDoorYF3
import Derived.Laws.Tables
namespace Go.Proofs.YtkochkhfbhjicaaGreatDoor
set_option maxHeartbeats 4000000
open Go.RowKit
set_option linter.unusedVariables false
set_option linter.unusedSimpArgs false
set_option maxRecDepth 100000
def opt (b:Bool) (v:Value):Value:=match b with|true=>v|false=>undef
section
variable {P:Program} {ops:Array Oper} {Q:Exit→Act→World→Prop} {a:Act} {w:World} {rest:List Oper} {o:Oper}
structure Ch (a:Act) (N:Nat) (p1 p2:Value) (g:Nat) (b:Bool):Prop where
 size:a.tmps.size=N
 t2:a.tmps[2]?=some p1
 t3:a.tmps[3]?=some p2
 g:a.tmps[g]?=some (.bool b)
 d:a.defers=[]
structure jP4 (P:Program) (S T T' K:Nat) (B1 B2:Nat) (V1 V2:Value) (w:World):Prop where
 f1:(Instr.fieldAt S (.pointer (some ⟨B1,0,none⟩)) K).run P w=.ok (.pointer (some ⟨B1,K,none⟩)) w
 f2:(Instr.fieldAt S (.pointer (some ⟨B2,0,none⟩)) K).run P w=.ok (.pointer (some ⟨B2,K,none⟩)) w
 l1:(Instr.loadAt T (.pointer (some ⟨B1,K,none⟩))).run P w=.ok V1 w
 l2:(Instr.loadAt T (.pointer (some ⟨B2,K,none⟩))).run P w=.ok V2 w
end
theorem jL1 (i1 i2:Nat) (a1 a2:ByteArray) (w:World):Sem.run Tryz.prog (binOp .neq 63 (.agg #[.string a1,.int .u8 i1]) (.agg #[.string a2,.int .u8 i2])) w=.ok (.bool (!decide ((⟨a1,i1⟩:Fi)=⟨a2,i2⟩))) w:=by
 have hS:Tryz.prog.underlying 63=some (.struct (Tryz.prog.fieldsOf 63)):=by kernel_rfl
 have hp:Tryz.prog.stoodInHeld 63=false:=by kernel_rfl
 rw[run_neq_struct,show (10000:Nat)=9999+1 from rfl,run_equalIn_agg w 9999 63 _ _ hS hp];simp only[Program.fieldsOf,Tryz.underlying63];have u0:=Tryz.underlying5;have u2:=Tryz.underlying9
 go_simp
 by_cases h1:i1=i2<;>by_cases h3:a1=a2<;>simp[h1,h3,toList_inj,Int.natCast_inj]
theorem j2e {α:Type} {L M:List α} {j:Nat} (h:L.take j=M.take j) (h1:j<L.length) (h2:j<M.length) (he:L[j]=M[j]):L.take (j+1)=M.take (j+1):=by
 rw[List.take_succ_eq_append_getElem h1,List.take_succ_eq_append_getElem h2,h,he]
theorem jH1 {α:Type} [DecidableEq α] {L M:List α} {j:Nat} (h1:j<L.length) (h2:j<M.length) (he:L[j]≠M[j]):decide (L=M)=false:=by
 refine decide_eq_false λe=>he ?_
 subst e
 rfl
theorem jCk {w:World} {a:Option Addr} {L:List UInt8} (h:Row w a (B8 L)) {k:Nat} (hk:k<L.length):∃ b off,a=some ⟨b,off,none⟩∧b<w.heap.size∧w.cell? ⟨b,off+k,none⟩=some (.int .u8 L[k].toNat):=by
 obtain ⟨b,off,ha,hb,hc⟩:=h.at_ (k:=k) (by simpa using hk);exact ⟨b,off,ha,hb,by rw[hc];simp[B8]⟩
theorem jBb (a:Option Addr) (c:Nat) (L:List Fi) (a9:Option Addr) (c9:Nat) (M:List Fi) (w:World) (hr:Row w a (FC L)) (hr9:Row w a9 (FC M)) (hl:L.length≤100000) (hl9:M.length≤100000) :
  Calls Tryz.prog 74 #[.slice a L.length c,.slice a9 M.length c9] w λe w'=>e=.returned (.bool (decide (L=M)))∧Kept No w w':=by
 by_cases hlen:L.length=M.length
 ·have HL:=Lib.hid hlen
  have hne:((L.length:Int) != (M.length:Int))=false:=by simp;omega
  clear hlen
  go_enter Tryz.func74,Tryz.ntmps74
  go_wp2
  go_loopw [13] (λi wr=>∃ j:Nat,i=.int .i64 j∧j≤L.length∧Hid (L.take j=M.take j)∧Kept No w wr) (λi _=>L.length - (intOf i).toNat)
  case atStart=>exact ⟨0,rfl,by omega,Lib.hid rfl,Kept.refl _ _⟩
  case round =>
   obtain ⟨j,rfl,hj,HT,hk⟩:=hrel
   by_cases hlt:j<L.length
   ·have hlt9:j<M.length:=by rw[← HL.out];exact hlt
    obtain ⟨b,off,rfl,hb,q0,q1⟩:=(hr.keptNo hk).filt hlt;obtain ⟨b9,of9,rfl,hb9,r0,r1⟩:=(hr9.keptNo hk).filt hlt9;have HS:=Lib.hid (j2e HT.out hlt hlt9);have HN:=Lib.hid (jH1 (L:=L) (M:=M) hlt hlt9);generalize L[j]=p at *;generalize M[j]=q at *;obtain ⟨a1,i1⟩:=p;obtain ⟨a2,i2⟩:=q;dsimp only at q0 q1 r0 r1
    by_cases he:(⟨a1,i1⟩:Fi)=⟨a2,i2⟩
    ·have HS2:=Lib.hid (HS.out he)
     have hq:∀ wx,Sem.run Tryz.prog (binOp .neq 63 (.agg #[.string a1,.int .u8 i1]) (.agg #[.string a2,.int .u8 i2])) wx=.ok (.bool false) wx:=λwx=>by rw[jL1,decide_eq_true he];rfl
     clear he HS HN
     go_wp2
     refine wp_region_held_drew (S:=(λwx=>(wx.cell? ⟨b,off+j*2,none⟩=some (.string a1)∧wx.cell? ⟨b,off+j*2+1,none⟩=some (.int .u8 i1))∧(wx.cell? ⟨b9,of9+j*2,none⟩=some (.string a2)∧wx.cell? ⟨b9,of9+j*2+1,none⟩=some (.int .u8 i2)))) (by kernel_rfl) ?_ (λhHeld=>?_)
     ·exact ⟨⟨q0,q1⟩,⟨r0,r1⟩⟩
     refine wtv (i:=0) (v:=?_) rfl (λwz9 hSw=>?_) ?_;rotate_left;(·(try dsimp only at hSw);go_simp;try with_reducible rfl);go_simp
     refine wtv (i:=1) (v:=?_) rfl (λwz9 hSw=>?_) ?_;rotate_left;(·(try dsimp only at hSw);go_simp;try with_reducible rfl);go_simp
     refine wtv (i:=2) (v:=?_) rfl (λwz9 hSw=>?_) ?_;rotate_left;(·(try dsimp only at hSw);go_simp;try with_reducible rfl);go_simp
     refine wtv (i:=3) (v:=(.agg #[.string a1,.int .u8 i1])) rfl (λwz9 hSw=>?_) ?_;(·(try dsimp only at hSw);go_simp;try with_reducible rfl);go_simp
     refine wtv (i:=4) (v:=?_) rfl (λwz9 hSw=>?_) ?_;rotate_left;(·(try dsimp only at hSw);go_simp;try with_reducible rfl);go_simp
     refine wtv (i:=5) (v:=?_) rfl (λwz9 hSw=>?_) ?_;rotate_left;(·(try dsimp only at hSw);go_simp;try with_reducible rfl);go_simp
     refine wtv (i:=6) (v:=?_) rfl (λwz9 hSw=>?_) ?_;rotate_left;(·(try dsimp only at hSw);go_simp;try with_reducible rfl);go_simp
     refine wtv (i:=7) (v:=(.agg #[.string a2,.int .u8 i2])) rfl (λwz9 hSw=>?_) ?_;(·(try dsimp only at hSw);go_simp;try with_reducible rfl);go_simp
     refine wtv (i:=8) (v:=(.bool false)) rfl (λwz9 hSw=>?_) ?_;(·(try dsimp only at hSw);go_simp;try with_reducible rfl);go_simp
     refine wpAnyH_done (by kernel_rfl) ?_ _
     go_wp2
     go_roundw
     case rel=>exact ⟨j+1,by go_num,by omega,HS2,hk.drew⟩
     case measure=>simp[intOf];omega
    ·have HN2:=Lib.hid (HN.out he)
     have hq:∀ wx,Sem.run Tryz.prog (binOp .neq 63 (.agg #[.string a1,.int .u8 i1]) (.agg #[.string a2,.int .u8 i2])) wx=.ok (.bool true) wx:=λwx=>by rw[jL1,decide_eq_false he];rfl
     clear he HS HN
     go_wp2
     refine wp_region_held_drew (S:=(λwx=>(wx.cell? ⟨b,off+j*2,none⟩=some (.string a1)∧wx.cell? ⟨b,off+j*2+1,none⟩=some (.int .u8 i1))∧(wx.cell? ⟨b9,of9+j*2,none⟩=some (.string a2)∧wx.cell? ⟨b9,of9+j*2+1,none⟩=some (.int .u8 i2)))) (by kernel_rfl) ?_ (λhHeld=>?_)
     ·exact ⟨⟨q0,q1⟩,⟨r0,r1⟩⟩
     refine wtv (i:=0) (v:=?_) rfl (λwz9 hSw=>?_) ?_;rotate_left;(·(try dsimp only at hSw);go_simp;try with_reducible rfl);go_simp
     refine wtv (i:=1) (v:=?_) rfl (λwz9 hSw=>?_) ?_;rotate_left;(·(try dsimp only at hSw);go_simp;try with_reducible rfl);go_simp
     refine wtv (i:=2) (v:=?_) rfl (λwz9 hSw=>?_) ?_;rotate_left;(·(try dsimp only at hSw);go_simp;try with_reducible rfl);go_simp
     refine wtv (i:=3) (v:=(.agg #[.string a1,.int .u8 i1])) rfl (λwz9 hSw=>?_) ?_;(·(try dsimp only at hSw);go_simp;try with_reducible rfl);go_simp
     refine wtv (i:=4) (v:=?_) rfl (λwz9 hSw=>?_) ?_;rotate_left;(·(try dsimp only at hSw);go_simp;try with_reducible rfl);go_simp
     refine wtv (i:=5) (v:=?_) rfl (λwz9 hSw=>?_) ?_;rotate_left;(·(try dsimp only at hSw);go_simp;try with_reducible rfl);go_simp
     refine wtv (i:=6) (v:=?_) rfl (λwz9 hSw=>?_) ?_;rotate_left;(·(try dsimp only at hSw);go_simp;try with_reducible rfl);go_simp
     refine wtv (i:=7) (v:=(.agg #[.string a2,.int .u8 i2])) rfl (λwz9 hSw=>?_) ?_;(·(try dsimp only at hSw);go_simp;try with_reducible rfl);go_simp
     refine wtv (i:=8) (v:=(.bool true)) rfl (λwz9 hSw=>?_) ?_;(·(try dsimp only at hSw);go_simp;try with_reducible rfl);go_simp
     refine wpAnyH_done (by kernel_rfl) ?_ _
     go_wp2
     go_ret
     exact ⟨by rw[HN2.out];rfl,hk.drew⟩
   ·have HE:Hid (decide (L=M)=true):=Lib.hid (by
     have:=HT.out
     have h9:=HL.out;rw[List.take_of_length_le (by omega),List.take_of_length_le (by omega)]at this;exact decide_eq_true this)
    go_wp2
    go_ret
    exact ⟨by rw[HE.out];rfl,hk⟩
 ·have hne:((L.length:Int) != (M.length:Int))=true:=by simp;omega
  have HE:Hid (decide (L=M)=false):=Lib.hid (decide_eq_false λe=>hlen (by rw[e]));generalize decide (L=M)=DD at *;clear hlen
  go_enter Tryz.func74,Tryz.ntmps74
  go_wp2
  go_ret
  exact ⟨by rw[HE.out];rfl,Kept.refl _ _⟩
theorem jB5 (a:Option Addr) (c:Nat) (L:List UInt8) (a9:Option Addr) (c9:Nat) (M:List UInt8) (w:World) (hr:Row w a (B8 L)) (hr9:Row w a9 (B8 M)) (hl:L.length≤100000) (hl9:M.length≤100000) :
  Calls Tryz.prog 75 #[.slice a L.length c,.slice a9 M.length c9] w λe w'=>e=.returned (.bool (decide (L=M)))∧Kept No w w':=by
 by_cases hlen:L.length=M.length
 ·have HL:=Lib.hid hlen
  have hne:((L.length:Int) != (M.length:Int))=false:=by simp;omega
  clear hlen
  go_enter Tryz.func75,Tryz.ntmps75
  go_wp2
  go_loopw [13] (λi wr=>∃ j:Nat,i=.int .i64 j∧j≤L.length∧Hid (L.take j=M.take j)∧Kept No w wr) (λi _=>L.length - (intOf i).toNat)
  case atStart=>exact ⟨0,rfl,by omega,Lib.hid rfl,Kept.refl _ _⟩
  case round =>
   obtain ⟨j,rfl,hj,HT,hk⟩:=hrel
   by_cases hlt:j<L.length
   ·have hlt9:j<M.length:=by rw[← HL.out];exact hlt
    obtain ⟨b,off,rfl,hb,q0⟩:=jCk (hr.keptNo hk) hlt;obtain ⟨b9,of9,rfl,hb9,r0⟩:=jCk (hr9.keptNo hk) hlt9;have HS:=Lib.hid (j2e HT.out hlt hlt9);have HN:=Lib.hid (jH1 (L:=L) (M:=M) hlt hlt9);generalize L[j]=p at *;generalize M[j]=q at *
    by_cases he:p=q
    ·have HS2:=Lib.hid (HS.out he)
     have hq:((p.toNat:Int) != (q.toNat:Int))=false:=by rw[he];simp
     clear he HS HN
     go_wp2
     refine wp_region_held_drew (S:=(λwx=>wx.cell? ⟨b,off+j,none⟩=some (.int .u8 p.toNat)∧wx.cell? ⟨b9,of9+j,none⟩=some (.int .u8 q.toNat))) (by kernel_rfl) ?_ (λhHeld=>?_)
     ·exact ⟨q0,r0⟩
     refine wtv (i:=0) (v:=?_) rfl (λwz9 hSw=>?_) ?_;rotate_left;(·(try dsimp only at hSw);go_simp;try with_reducible rfl);go_simp
     refine wtv (i:=1) (v:=?_) rfl (λwz9 hSw=>?_) ?_;rotate_left;(·(try dsimp only at hSw);go_simp;try with_reducible rfl);go_simp
     refine wtv (i:=2) (v:=?_) rfl (λwz9 hSw=>?_) ?_;rotate_left;(·(try dsimp only at hSw);go_simp;try with_reducible rfl);go_simp
     refine wtv (i:=3) (v:=(.int .u8 p.toNat)) rfl (λwz9 hSw=>?_) ?_;(·(try dsimp only at hSw);go_simp;try with_reducible rfl);go_simp
     refine wtv (i:=4) (v:=?_) rfl (λwz9 hSw=>?_) ?_;rotate_left;(·(try dsimp only at hSw);go_simp;try with_reducible rfl);go_simp
     refine wtv (i:=5) (v:=?_) rfl (λwz9 hSw=>?_) ?_;rotate_left;(·(try dsimp only at hSw);go_simp;try with_reducible rfl);go_simp
     refine wtv (i:=6) (v:=?_) rfl (λwz9 hSw=>?_) ?_;rotate_left;(·(try dsimp only at hSw);go_simp;try with_reducible rfl);go_simp
     refine wtv (i:=7) (v:=(.int .u8 q.toNat)) rfl (λwz9 hSw=>?_) ?_;(·(try dsimp only at hSw);go_simp;try with_reducible rfl);go_simp
     refine wtv (i:=8) (v:=(.bool false)) rfl (λwz9 hSw=>?_) ?_;(·(try dsimp only at hSw);go_simp;try with_reducible rfl);go_simp
     refine wpAnyH_done (by kernel_rfl) ?_ _
     go_wp2
     go_roundw
     case rel=>exact ⟨j+1,by go_num,by omega,HS2,hk.drew⟩
     case measure=>simp[intOf];omega
    ·have HN2:=Lib.hid (HN.out he)
     have hq:((p.toNat:Int) != (q.toNat:Int))=true:=by (have:p.toNat≠q.toNat:=λh=>he (UInt8.toNat_inj.1 h));simp;omega
     clear he HS HN
     go_wp2
     refine wp_region_held_drew (S:=(λwx=>wx.cell? ⟨b,off+j,none⟩=some (.int .u8 p.toNat)∧wx.cell? ⟨b9,of9+j,none⟩=some (.int .u8 q.toNat))) (by kernel_rfl) ?_ (λhHeld=>?_)
     ·exact ⟨q0,r0⟩
     refine wtv (i:=0) (v:=?_) rfl (λwz9 hSw=>?_) ?_;rotate_left;(·(try dsimp only at hSw);go_simp;try with_reducible rfl);go_simp
     refine wtv (i:=1) (v:=?_) rfl (λwz9 hSw=>?_) ?_;rotate_left;(·(try dsimp only at hSw);go_simp;try with_reducible rfl);go_simp
     refine wtv (i:=2) (v:=?_) rfl (λwz9 hSw=>?_) ?_;rotate_left;(·(try dsimp only at hSw);go_simp;try with_reducible rfl);go_simp
     refine wtv (i:=3) (v:=(.int .u8 p.toNat)) rfl (λwz9 hSw=>?_) ?_;(·(try dsimp only at hSw);go_simp;try with_reducible rfl);go_simp
     refine wtv (i:=4) (v:=?_) rfl (λwz9 hSw=>?_) ?_;rotate_left;(·(try dsimp only at hSw);go_simp;try with_reducible rfl);go_simp
     refine wtv (i:=5) (v:=?_) rfl (λwz9 hSw=>?_) ?_;rotate_left;(·(try dsimp only at hSw);go_simp;try with_reducible rfl);go_simp
     refine wtv (i:=6) (v:=?_) rfl (λwz9 hSw=>?_) ?_;rotate_left;(·(try dsimp only at hSw);go_simp;try with_reducible rfl);go_simp
     refine wtv (i:=7) (v:=(.int .u8 q.toNat)) rfl (λwz9 hSw=>?_) ?_;(·(try dsimp only at hSw);go_simp;try with_reducible rfl);go_simp
     refine wtv (i:=8) (v:=(.bool true)) rfl (λwz9 hSw=>?_) ?_;(·(try dsimp only at hSw);go_simp;try with_reducible rfl);go_simp
     refine wpAnyH_done (by kernel_rfl) ?_ _
     go_wp2
     go_ret
     exact ⟨by rw[HN2.out];rfl,hk.drew⟩
   ·have HE:Hid (decide (L=M)=true):=Lib.hid (by
     have:=HT.out
     have h9:=HL.out;rw[List.take_of_length_le (by omega),List.take_of_length_le (by omega)]at this;exact decide_eq_true this)
    go_wp2
    go_ret
    exact ⟨by rw[HE.out];rfl,hk⟩
 ·have hne:((L.length:Int) != (M.length:Int))=true:=by simp;omega
  have HE:Hid (decide (L=M)=false):=Lib.hid (decide_eq_false λe=>hlen (by rw[e]));generalize decide (L=M)=DD at *;clear hlen
  go_enter Tryz.func75,Tryz.ntmps75
  go_wp2
  go_ret
  exact ⟨by rw[HE.out];rfl,Kept.refl _ _⟩
def jB0 (p q:Pk):Bool:=(((((decide (p.hasWill=q.hasWill)&&decide (p.willQoS=q.willQoS))&&decide (p.willRetain=q.willRetain))&&decide (p.willTopic=q.willTopic))&&decide (p.willLoad=q.willLoad))&&decide (p.willProps=q.willProps))
def j47 (p q:Pk):Bool:=(((((((((((((((((((decide (p.kind=q.kind)&&decide (p.id=q.id))&&decide (p.present=q.present))&&decide (p.code=q.code))&&decide (p.dup=q.dup))&&decide (p.qos=q.qos))&&decide (p.retain=q.retain))&&decide (p.topic=q.topic))&&decide (p.load=q.load))&&decide (p.clean=q.clean))&&decide (p.keep=q.keep))&&decide (p.client=q.client))&&jB0 p q)&&decide (p.hasUser=q.hasUser))&&decide (p.user=q.user))&&decide (p.hasPass=q.hasPass))&&decide (p.pass=q.pass))&&decide (p.filters=q.filters))&&decide (p.codes=q.codes))&&decide (p.props=q.props))
theorem jAp (p q:Pk):j47 p q=decide (p=q):=by
 rw[Bool.eq_iff_iff];simp only[j47,jB0,aE9,dE9];constructor
 ·intro h
  obtain ⟨k1,d1,r1,o1,i1,c1,e1,l1,h1,u1,a1,g1,m1,P1,t1,b1,s1,v1,n1,z1,j1,x1,F1,C1,Q1⟩:=p;obtain ⟨k2,d2,r2,o2,i2,c2,e2,l2,h2,u2,a2,g2,m2,P2,t2,b2,s2,v2,n2,z2,j2,x2,F2,C2,Q2⟩:=q;dsimp only at h;simp only[Pk.mk.injEq];simp only[h,and_self]
 ·intro h
  subst h;simp only[and_self]
theorem ja (p:Pk) (s:Sl):(p.cells s).all (·.oneCell')=true:=by
 simp[Pk.cells,Value.oneCell']
theorem jM6 (i1 i2:Nat) (a1 a2:ByteArray) (w:World):Sem.run Tryz.prog (binOp .neq 51 (.agg #[.string a1,.int .u8 i1]) (.agg #[.string a2,.int .u8 i2])) w=.ok (.bool (!decide ((⟨a1,i1⟩:Fi)=⟨a2,i2⟩))) w:=by
 have hS:Tryz.prog.underlying 51=some (.struct (Tryz.prog.fieldsOf 51)):=by kernel_rfl
 have hp:Tryz.prog.stoodInHeld 51=false:=by kernel_rfl
 rw[run_neq_struct,show (10000:Nat)=9999+1 from rfl,run_equalIn_agg w 9999 51 _ _ hS hp];simp only[Program.fieldsOf,Tryz.underlying51];have u0:=Tryz.underlying5;have u2:=Tryz.underlying9
 go_simp
 by_cases h1:i1=i2<;>by_cases h3:a1=a2<;>simp[h1,h3,toList_inj,Int.natCast_inj]
theorem cvB {w:World} {a:Option Addr} {c:Nat} {l:List UInt8} (h:Row w a (B8 l)) (hn:a=none→c=0):∀ wx,Kept No w wx→(convert 25 9 (.slice a l.length c)).run Tryz.prog wx=.ok (.string ⟨l.toArray⟩) wx :=
 λwx hk=>jD7 _ _ 5 Tryz.underlying25 Tryz.underlying5 Tryz.underlying9 (h.keptNo hk) c hn
structure Sl.ok (s:Sl):Prop where
 c:s.ca=none→s.cc=0
end Go.Proofs.YtkochkhfbhjicaaGreatDoor
