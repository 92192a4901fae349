import Derived.Test.YtofjhopecfmbcaaGreatDoorYF3
import Derived.Deep.DeepCutAuto
import Derived.Deep.CutBlock
import Derived.Deep.RegionHeld3
import Derived.Test.YtofjhopecfmbcaaGreatDoorBase
import Derived.RangeFuncNested
import Derived.RangeFuncBound
import Derived.RangeFuncCalls
import Derived.RangeFuncLeaves
import Derived.Shelf.Abstract
import Derived.Shelf.RegionOpen
import Derived.OwnWalkIn
import Derived.TacticsInMore
import Derived.LoopNIn
import Derived.LoopIn
namespace Go.Proofs.YtofjhopecfmbcaaGreatDoor
open Go.RowKit
set_option linter.unusedVariables false
set_option linter.unusedSimpArgs false
set_option maxRecDepth 100000
def typS (t id:Nat) (l:List UInt8) (e:Int):Pr × List UInt8 × Int :=
 if t=1 then (⟨id,num (taken 1 l e),⟨#[]⟩,⟨#[]⟩⟩,leftL 1 l e,leftE 1 l e)
 else if t=2 then (⟨id,num (taken 2 l e),⟨#[]⟩,⟨#[]⟩⟩,leftL 2 l e,leftE 2 l e)
 else if t=3 then (⟨id,num (taken 4 l e),⟨#[]⟩,⟨#[]⟩⟩,leftL 4 l e,leftE 4 l e)
 else if t=4 then (⟨id,(rv 4 0 0 l e).1,⟨#[]⟩,⟨#[]⟩⟩,(rv 4 0 0 l e).2.1,(rv 4 0 0 l e).2.2)
 else if t=5 then (⟨id,0,⟨(binTaken l e).toArray⟩,⟨#[]⟩⟩,binL l e,binE l e)
 else if t=6 then (⟨id,0,⟨(binTaken l e).toArray⟩,⟨#[]⟩⟩,binL l e,binE l e)
 else if t=7 then (⟨id,0,⟨(binTaken l e).toArray⟩,⟨(binTaken (binL l e) (binE l e)).toArray⟩⟩,binL (binL l e) (binE l e),binE (binL l e) (binE l e))
 else (⟨id,0,⟨#[]⟩,⟨#[]⟩⟩,l,e)
def nextS (l:List UInt8) (e:Int):Pr × List UInt8 × Int:=typS (typL (num (taken 1 l e))) (num (taken 1 l e)) (leftL 1 l e) (leftE 1 l e)
def nextK (l:List UInt8):Bool:=decide ((nextS l 0).2.2=0)&&(nextS l 0).1.ok
theorem Rdr.set4 {w:World} {r:Nat} {l:List UInt8} {err:Int} (h:Rdr w r l err) {g:Nat} {t:TypeId} {cs:Array Value} (hz:Blk w g t cs) (ht:t≠5) (hr:r≠g) (u0 u1 u2 u3:Value) :
  Rdr ((((w.setCell ⟨g,0,none⟩ u0).setCell ⟨g,1,none⟩ u1).setCell ⟨g,2,none⟩ u2).setCell ⟨g,3,none⟩ u3) r l err :=
 (((h.setOther hz ht hr u0).setOther (hz.set_ 0 u0) ht hr u1).setOther ((hz.set_ 0 u0).set_ 1 u1) ht hr u2).setOther (((hz.set_ 0 u0).set_ 1 u1).set_ 2 u2) ht hr u3
theorem Kept.set4 {S:Nat→Prop} {w w':World} (h:Kept S w w') {g:Nat} (hg:w.heap.size≤g) (u0 u1 u2 u3:Value) :
  Kept S w ((((w'.setCell ⟨g,0,none⟩ u0).setCell ⟨g,1,none⟩ u1).setCell ⟨g,2,none⟩ u2).setCell ⟨g,3,none⟩ u3) :=
 (((h.setCell (p:=⟨g,0,none⟩) (.inl hg) u0).setCell (p:=⟨g,1,none⟩) (.inl hg) u1).setCell (p:=⟨g,2,none⟩) (.inl hg) u2).setCell (p:=⟨g,3,none⟩) (.inl hg) u3
theorem Tabs.keptR {w w':World} {r:Nat} {x:Value} (h:Tabs w) (hk:Kept (One r) w w') (hx:w.cell? ⟨r,0,none⟩=some x) (hn:∀ n,x≠.int .u8 n):Tabs w':=by
  have n1:¬ One r (Tryz.laysValid_ren.g 3):=fun e=>by
    have e':Tryz.laysValid_ren.g 3=r:=e
    have:=h.1 0 (by decide)
    rw[e',hx]at this;exact hn _ (Option.some.inj this)
  have n2:¬ One r (Tryz.laysValid_ren.g 4):=fun e=>by
    have e':Tryz.laysValid_ren.g 4=r:=e
    have:=(h.2 0 (by decide)).1
    rw[e',show 2 * 0=0 from rfl,hx]at this;exact hn _ (Option.some.inj this)
  exact ⟨fun c hc=>(hk.cell (p:=⟨_,c,none⟩) (cell_lt (h.1 c hc)) n1).trans (h.1 c hc),
   fun i hi=>⟨(hk.cell (p:=⟨_,2 * i,none⟩) (cell_lt (h.2 i hi).1) n2).trans (h.2 i hi).1,(hk.cell (p:=⟨_,2 * i+1,none⟩) (cell_lt (h.2 i hi).2) n2).trans (h.2 i hi).2⟩⟩
theorem Tabs.keptRdr {w w':World} {r:Nat} {l:List UInt8} {e:Int} (h:Tabs w) (hr:Rdr w r l e) (hk:Kept (One r) w w'):Tabs w':=by
 obtain ⟨a,c,hb,_⟩:=hr;exact h.keptR hk (hb.cell 0) (by intro n h;cases h)
theorem bin_le (l:List UInt8) (e:Int):(binTaken l e).length≤65535:=by
 have h1:=taken_le (num (taken 2 l e)) (leftL 2 l e) (leftE 2 l e);have h2:=num_le 2 l e 2 (by omega);unfold binTaken;omega
theorem ba_size (l:List UInt8):(⟨l.toArray⟩:ByteArray).size=l.length:=by show l.toArray.size=_;simp
structure Pr.sm (p:Pr):Prop where
 hid:p.id < 256
 hn:p.n < 4294967296
 ha:p.a.size≤65535
 hb:p.b.size≤65535
theorem typS_sm (t id:Nat) (l:List UInt8) (e:Int) (h:id < 256):(typS t id l e).1.sm:=by
 have z:(⟨#[]⟩:ByteArray).size≤65535:=by decide
 have hn1:=num_le 1 l e 1 (by omega);have hn2:=num_le 2 l e 2 (by omega);have hn4:=num_le 4 l e 4 (by omega);have hv:=rv_lt 4 0 0 l e (by decide);have hb1:=bin_le l e;have hb2:=bin_le (binL l e) (binE l e);unfold typS
 repeat' split
 all_goals refine ⟨h,?_,?_,?_⟩
 all_goals dsimp only
 all_goals first|exact z|omega|(rw[ba_size];omega)
theorem nextS_sm (l:List UInt8) (e:Int):(nextS l e).1.sm:=typS_sm _ _ _ _ (num_le 1 l e 1 (by omega))
def NextAt (s:Pr × List UInt8 × Int) (w:World) (r q:Nat) (wx:World):Prop :=
 Blk wx w.heap.size 95 #[.int .u8 0,.int .u32 0,.string ⟨#[]⟩,.string ⟨#[]⟩]∧Blk wx q 95 #[.int .u8 s.1.id,.int .u32 s.1.n,.string s.1.a,.string s.1.b]∧Rdr wx r s.2.1 s.2.2∧Kept (One r) w wx
theorem nextAt_of {s:Pr × List UInt8 × Int} {w wx:World} {r q:Nat} {p:Pr} {l:List UInt8} {e:Int} (hs:s=(p,l,e)) (hz:Blk wx w.heap.size 95 #[.int .u8 0,.int .u32 0,.string ⟨#[]⟩,.string ⟨#[]⟩]) {cs:Array Value} (hb:Blk wx q 95 cs) (hc:cs=#[.int .u8 p.id,.int .u32 p.n,.string p.a,.string p.b]) (hr:Rdr wx r l e) (hk:Kept (One r) w wx):NextAt s w r q wx:=by
 subst hs hc;exact ⟨hz,hb,hr,hk⟩
structure AfterK (w w':World) (r:Nat) (l:List UInt8) (err:Int):Prop where
 rdr:Rdr w' r l err
 kept:Kept (One r) w w'
def NextIs (s:Pr × List UInt8 × Int) (k:Bool) (w:World) (r:Nat) (e:Ending) (w':World):Prop :=
 e=.returned (.tuple #[if k then s.1.val else Pr.zero.val,.bool k])∧AfterK w w' r s.2.1 s.2.2
set_option maxHeartbeats 8000000 in
theorem next_any (w:World) (r:Nat) (l:List UInt8) (h:Rdr w r l 0) (hT:Tabs w) :
  Calls Tryz.prog 173 #[.pointer (some ⟨r,0,none⟩)] w (NextIs (nextS l 0) (nextK l) w r):=by
 have hlt:=h.lt;have hby:=rbyte_any (w.alloc (.cells #[.int .u8 0,.int .u32 0,.string ⟨#[]⟩,.string ⟨#[]⟩] 95)) r l 0 (h.keptNo ((Kept.refl No w).alloc _));have hb8:=num_le 1 l 0 1 (by omega);have hnk:nextK l=(decide ((nextS l 0).2.2=0)&&(nextS l 0).1.ok):=rfl;have hsm:=nextS_sm l 0;have hns:nextS l 0=typS (typL (num (taken 1 l 0))) (num (taken 1 l 0)) (leftL 1 l 0) (leftE 1 l 0):=rfl;generalize nextK l=NK at *;generalize nextS l 0=SS at *;generalize num (taken 1 l 0)=id at *;generalize leftL 1 l 0=l1 at *;generalize leftE 1 l 0=e1 at *;have HTK:=Lib.hid (fun wx (hk:Kept (One r) w wx)=>hT.keptRdr h hk);have HBY:=Lib.hid hby;have HSM:=Lib.hid hsm;clear hsm;have HNK:=Lib.hid hnk;have hTT:=Lib.hid (fun wx=>type_any id wx);have ht7:=typL_le id;generalize typL id=t at *;have HSS0:=Lib.hid hns;clear hby hnk hns;have hid:id < 256:=hb8;clear hb8
 go_enter Tryz.func173,Tryz.ntmps173
 go_upto_block 0 with (first
  | (go_at_call 50;refine HBY.out.mono ?_;rintro e w1 ⟨rfl,ha1⟩)
  | (go_at_call 178;refine (hTT.out _).mono ?_;rintro e w2 ⟨rfl,rfl⟩))
 have hs1:=ha1.kept.size;have hsa:(w.alloc (.cells #[.int .u8 0,.int .u32 0,.string ⟨#[]⟩,.string ⟨#[]⟩] 95)).heap.size=w.heap.size+1:=by simp
 have hQ:=Blk.new w1 95 #[.int .u8 id,.int .u32 0,.string ⟨#[]⟩,.string ⟨#[]⟩];have hZ:=((Blk.new w 95 #[.int .u8 0,.int .u32 0,.string ⟨#[]⟩,.string ⟨#[]⟩]).kept ha1.kept (by intro e;exact absurd (show w.heap.size=r from e) (by omega))).alloc (.cells #[.int .u8 id,.int .u32 0,.string ⟨#[]⟩,.string ⟨#[]⟩] 95);have hR1:=ha1.rdr.keptNo ((Kept.refl No w1).alloc (.cells #[.int .u8 id,.int .u32 0,.string ⟨#[]⟩,.string ⟨#[]⟩] 95));have hK1:Kept (One r) w (w1.alloc (.cells #[.int .u8 id,.int .u32 0,.string ⟨#[]⟩,.string ⟨#[]⟩] 95)):=(((Kept.refl (One r) w).alloc _).trans ha1.kept).alloc _;have HQW:=Lib.hid (show w.heap.size≤w1.heap.size by omega);have HQR:=Lib.hid (show ¬ One r w1.heap.size from fun e=>by have:w1.heap.size=r:=e;omega);have HQR2:=Lib.hid (show r≠w1.heap.size by omega);have HZR:=Lib.hid (show ¬ One r w.heap.size from fun e=>by have:w.heap.size=r:=e;omega);have HZQ:=Lib.hid (show w.heap.size≠w1.heap.size by omega);generalize w1.alloc (.cells #[.int .u8 id,.int .u32 0,.string ⟨#[]⟩,.string ⟨#[]⟩] 95)=w2 at *;generalize w1.heap.size=q at *;have HQ:=Lib.hid hQ;have HZ:=Lib.hid hZ;have HR1:=Lib.hid hR1;have HK1:=Lib.hid hK1;clear hQ hZ hR1 hK1 ha1 HBY hs1 hsa h
 go_cut [] (fun wx=>NextAt SS w r q wx)
 case first =>
  rcases (show t=0∨t=1∨t=2∨t=3∨t=4∨t=5∨t=6∨t=7 from by omega) with rfl|rfl|rfl|rfl|rfl|rfl|rfl|rfl
  ·have hss:SS=(⟨id,0,⟨#[]⟩,⟨#[]⟩⟩,l1,e1):=HSS0.out
   have HSS:=Lib.hid hss;clear hss
   go_wp2_with fail
   go_meet
   exact nextAt_of (p:=⟨id,0,⟨#[]⟩,⟨#[]⟩⟩) HSS.out HZ.out HQ.out rfl HR1.out HK1.out
  ·have hss:SS=(⟨id,num (taken 1 l1 e1),⟨#[]⟩,⟨#[]⟩⟩,leftL 1 l1 e1,leftE 1 l1 e1):=HSS0.out
   have hq9:num (taken 1 l1 e1) < 256 ^ 1:=num_le 1 l1 e1 1 (by omega);have hcal:=rbyte_any w2 r l1 e1 HR1.out;generalize num (taken 1 l1 e1)=N at *;have HSS:=Lib.hid hss;clear hss;have HC:=Lib.hid hcal;clear hcal
   go_wp2_with (go_at_call 50;refine HC.out.mono ?_;rintro e w3 ⟨rfl,ha⟩;have hQ3:=HQ.out.kept ha.kept HQR.out;have hm3:=hQ3.lt;have v3:=hQ3.frozen 1;have z3:=hQ3.cell 1;simp at z3)
   have hB:=(HQ.out.kept ha.kept HQR.out).set_ 1 (.int .u32 N);have hR9:=ha.rdr.setOther (i:=1) hQ3 (by decide) HQR2.out (.int .u32 N);have hZ9:=(HZ.out.kept ha.kept HZR.out).far (p:=⟨q,1,none⟩) HZQ.out (.int .u32 N);have hK9:=(HK1.out.trans ha.kept).setCell (p:=⟨q,1,none⟩) (.inl HQW.out) (.int .u32 N)
   go_wp2_with fail
   go_meet
   exact nextAt_of (p:=⟨id,N,⟨#[]⟩,⟨#[]⟩⟩) HSS.out hZ9 hB (by simp) hR9 hK9
  ·have hss:SS=(⟨id,num (taken 2 l1 e1),⟨#[]⟩,⟨#[]⟩⟩,leftL 2 l1 e1,leftE 2 l1 e1):=HSS0.out
   have hq9:num (taken 2 l1 e1) < 256 ^ 2:=num_le 2 l1 e1 2 (by omega);have hcal:=rtwo_any w2 r l1 e1 HR1.out;generalize num (taken 2 l1 e1)=N at *;have HSS:=Lib.hid hss;clear hss;have HC:=Lib.hid hcal;clear hcal
   go_wp2_with (go_at_call 102;refine HC.out.mono ?_;rintro e w3 ⟨rfl,ha⟩;have hQ3:=HQ.out.kept ha.kept HQR.out;have hm3:=hQ3.lt;have v3:=hQ3.frozen 1;have z3:=hQ3.cell 1;simp at z3)
   have hB:=(HQ.out.kept ha.kept HQR.out).set_ 1 (.int .u32 N);have hR9:=ha.rdr.setOther (i:=1) hQ3 (by decide) HQR2.out (.int .u32 N);have hZ9:=(HZ.out.kept ha.kept HZR.out).far (p:=⟨q,1,none⟩) HZQ.out (.int .u32 N);have hK9:=(HK1.out.trans ha.kept).setCell (p:=⟨q,1,none⟩) (.inl HQW.out) (.int .u32 N)
   go_wp2_with fail
   go_meet
   exact nextAt_of (p:=⟨id,N,⟨#[]⟩,⟨#[]⟩⟩) HSS.out hZ9 hB (by simp) hR9 hK9
  ·have hss:SS=(⟨id,num (taken 4 l1 e1),⟨#[]⟩,⟨#[]⟩⟩,leftL 4 l1 e1,leftE 4 l1 e1):=HSS0.out
   have hq9:num (taken 4 l1 e1) < 256 ^ 4:=num_le 4 l1 e1 4 (by omega);have hcal:=rfour_any w2 r l1 e1 HR1.out;generalize num (taken 4 l1 e1)=N at *;have HSS:=Lib.hid hss;clear hss;have HC:=Lib.hid hcal;clear hcal
   go_wp2_with (go_at_call 187;refine HC.out.mono ?_;rintro e w3 ⟨rfl,ha⟩;have hQ3:=HQ.out.kept ha.kept HQR.out;have hm3:=hQ3.lt;have v3:=hQ3.frozen 1;have z3:=hQ3.cell 1;simp at z3)
   have hB:=(HQ.out.kept ha.kept HQR.out).set_ 1 (.int .u32 N);have hR9:=ha.rdr.setOther (i:=1) hQ3 (by decide) HQR2.out (.int .u32 N);have hZ9:=(HZ.out.kept ha.kept HZR.out).far (p:=⟨q,1,none⟩) HZQ.out (.int .u32 N);have hK9:=(HK1.out.trans ha.kept).setCell (p:=⟨q,1,none⟩) (.inl HQW.out) (.int .u32 N)
   go_wp2_with fail
   go_meet
   exact nextAt_of (p:=⟨id,N,⟨#[]⟩,⟨#[]⟩⟩) HSS.out hZ9 hB (by simp) hR9 hK9
  ·have hss:SS=(⟨id,(rv 4 0 0 l1 e1).1,⟨#[]⟩,⟨#[]⟩⟩,(rv 4 0 0 l1 e1).2.1,(rv 4 0 0 l1 e1).2.2):=HSS0.out
   have hcal:=rvar_any w2 r l1 e1 HR1.out;generalize rv 4 0 0 l1 e1=V at *;obtain ⟨N,l2,e2⟩:=V;have HSS:=Lib.hid hss;clear hss;have HC:=Lib.hid hcal;clear hcal
   go_wp2_with (go_at_call 51;refine HC.out.mono ?_;rintro e w3 ⟨rfl,ha⟩;have hQ3:=HQ.out.kept ha.kept HQR.out;have hm3:=hQ3.lt;have v3:=hQ3.frozen 1;have z3:=hQ3.cell 1;simp at z3)
   have hB:=(HQ.out.kept ha.kept HQR.out).set_ 1 (.int .u32 N);have hR9:=ha.rdr.setOther (i:=1) hQ3 (by decide) HQR2.out (.int .u32 N);have hZ9:=(HZ.out.kept ha.kept HZR.out).far (p:=⟨q,1,none⟩) HZQ.out (.int .u32 N);have hK9:=(HK1.out.trans ha.kept).setCell (p:=⟨q,1,none⟩) (.inl HQW.out) (.int .u32 N)
   go_wp2_with fail
   go_meet
   exact nextAt_of (p:=⟨id,N,⟨#[]⟩,⟨#[]⟩⟩) HSS.out hZ9 hB (by simp) hR9 hK9
  ·have hss:SS=(⟨id,0,⟨(binTaken l1 e1).toArray⟩,⟨#[]⟩⟩,binL l1 e1,binE l1 e1):=HSS0.out
   have hcal:=rbin_any w2 r l1 e1 HR1.out;generalize binTaken l1 e1=T at *;generalize binL l1 e1=l2 at *;generalize binE l1 e1=e2 at *;have HSS:=Lib.hid hss;clear hss;have HC:=Lib.hid hcal;clear hcal
   go_wp2_with (go_at_call 135;refine HC.out.mono ?_;rintro e w3 ⟨rfl,ha⟩;have hQ3:=HQ.out.kept ha.kept HQR.out;have hm3:=hQ3.lt;have v3:=hQ3.frozen 2;have z3:=hQ3.cell 2;simp at z3)
   have hB:=(HQ.out.kept ha.kept HQR.out).set_ 2 (.string ⟨T.toArray⟩);have hR9:=ha.rdr.setOther (i:=2) hQ3 (by decide) HQR2.out (.string ⟨T.toArray⟩);have hZ9:=(HZ.out.kept ha.kept HZR.out).far (p:=⟨q,2,none⟩) HZQ.out (.string ⟨T.toArray⟩);have hK9:=(HK1.out.trans ha.kept).setCell (p:=⟨q,2,none⟩) (.inl HQW.out) (.string ⟨T.toArray⟩)
   go_wp2_with fail
   go_meet
   exact nextAt_of (p:=⟨id,0,⟨T.toArray⟩,⟨#[]⟩⟩) HSS.out hZ9 hB (by simp) hR9 hK9
  ·have hss:SS=(⟨id,0,⟨(binTaken l1 e1).toArray⟩,⟨#[]⟩⟩,binL l1 e1,binE l1 e1):=HSS0.out
   have hcal:=rbin_any w2 r l1 e1 HR1.out;generalize binTaken l1 e1=T at *;generalize binL l1 e1=l2 at *;generalize binE l1 e1=e2 at *;have HSS:=Lib.hid hss;clear hss;have HC:=Lib.hid hcal;clear hcal
   go_wp2_with (go_at_call 135;refine HC.out.mono ?_;rintro e w3 ⟨rfl,ha⟩;have hQ3:=HQ.out.kept ha.kept HQR.out;have hm3:=hQ3.lt;have v3:=hQ3.frozen 2;have z3:=hQ3.cell 2;simp at z3)
   have hB:=(HQ.out.kept ha.kept HQR.out).set_ 2 (.string ⟨T.toArray⟩);have hR9:=ha.rdr.setOther (i:=2) hQ3 (by decide) HQR2.out (.string ⟨T.toArray⟩);have hZ9:=(HZ.out.kept ha.kept HZR.out).far (p:=⟨q,2,none⟩) HZQ.out (.string ⟨T.toArray⟩);have hK9:=(HK1.out.trans ha.kept).setCell (p:=⟨q,2,none⟩) (.inl HQW.out) (.string ⟨T.toArray⟩)
   go_wp2_with fail
   go_meet
   exact nextAt_of (p:=⟨id,0,⟨T.toArray⟩,⟨#[]⟩⟩) HSS.out hZ9 hB (by simp) hR9 hK9
  ·have hss:SS=(⟨id,0,⟨(binTaken l1 e1).toArray⟩,⟨(binTaken (binL l1 e1) (binE l1 e1)).toArray⟩⟩,binL (binL l1 e1) (binE l1 e1),binE (binL l1 e1) (binE l1 e1)):=HSS0.out
   have hcal:=rbin_any w2 r l1 e1 HR1.out;have hcal2:=fun wx h=>rbin_any wx r (binL l1 e1) (binE l1 e1) h
   generalize binTaken l1 e1=T at *;generalize binL l1 e1=l2 at *;generalize binE l1 e1=e2 at *;generalize binTaken l2 e2=T2 at *;generalize binL l2 e2=l3 at *;generalize binE l2 e2=e3 at *;have HSS:=Lib.hid hss;clear hss;have HC:=Lib.hid hcal;have HC2:=Lib.hid hcal2;clear hcal hcal2
   go_wp2_with fail
   go_at_call 135
   refine HC.out.mono ?_;rintro e w3 ⟨rfl,ha⟩;have hQ3:=HQ.out.kept ha.kept HQR.out;have hm3:=hQ3.lt;have v2:=hQ3.frozen 2;have hB:=hQ3.set_ 2 (.string ⟨T.toArray⟩);have hR9:=ha.rdr.setOther (i:=2) hQ3 (by decide) HQR2.out (.string ⟨T.toArray⟩);have hZ9:=(HZ.out.kept ha.kept HZR.out).far (p:=⟨q,2,none⟩) HZQ.out (.string ⟨T.toArray⟩);have hK9:=(HK1.out.trans ha.kept).setCell (p:=⟨q,2,none⟩) (.inl HQW.out) (.string ⟨T.toArray⟩);have z2:=hQ3.cell 2;simp at z2
   go_wp2_with fail
   go_at_call 135
   refine (HC2.out _ hR9).mono ?_;rintro e w4 ⟨rfl,ha4⟩;have hQ4:=hB.kept ha4.kept HQR.out;have hm4:=hQ4.lt;have v3:=hQ4.frozen 3;have hB4:=hQ4.set_ 3 (.string ⟨T2.toArray⟩);have hR4:=ha4.rdr.setOther (i:=3) hQ4 (by decide) HQR2.out (.string ⟨T2.toArray⟩);have hK4:=(hK9.trans ha4.kept).setCell (p:=⟨q,3,none⟩) (.inl HQW.out) (.string ⟨T2.toArray⟩);have z3:=hQ4.cell 3;simp at z3
   go_wp2_with fail
   go_meet
   exact nextAt_of (p:=⟨id,0,⟨T.toArray⟩,⟨T2.toArray⟩⟩) HSS.out ((hZ9.kept ha4.kept HZR.out).far (p:=⟨q,3,none⟩) HZQ.out _) hB4 (by simp) hR4 hK4
 case rest =>
 clear HQ HZ HR1 HK1 HSS0 ht7 hTT;obtain ⟨hZ,hQ,hR,hK⟩:=hcut;obtain ⟨⟨pi,pn,A,B⟩,l2,e2⟩:=SS;have hs:=HSM.out;obtain ⟨p1,p2,p3,p4⟩:=hs;dsimp only at hZ hQ hR hK HNK p1 p2 p3 p4;have cR:=fun wx hT=>pright_any pi pn A B wx hT p1 p2 (by omega) (by omega)
 have hzq:=HZQ.out;have hrz:r≠w.heap.size:=by omega
 have q0:=hQ.cell 0;have q1:=hQ.cell 1;have q2:=hQ.cell 2;have q3:=hQ.cell 3;have z0:=hZ.cell 0;have z1:=hZ.cell 1;have z2:=hZ.cell 2;have z3:=hZ.cell 3;simp at q0 q1 q2 q3 z0 z1 z2 z3;have f0:=hZ.frozen 0;have f1:=hZ.frozen 1;have f2:=hZ.frozen 2;have f3:=hZ.frozen 3;have hzl:=hZ.lt;have hql:=hQ.lt;have hTc:=Lib.hid (HTK.out _ hK)
 by_cases he:e2=0
 ·subst he
  rcases hok:rightB pi pn A B with _|_
  ·have HN:Hid (NK=false):=Lib.hid (by rw[HNK.out];simp[Pr.ok,hok])
   rw[hok]at cR;have HC:=Lib.hid cR;clear cR hok HNK
   go_wp2_with (first
    | (go_at_call 52;refine (err_any _ r l2 0 hR).mono ?_;rintro e w5 ⟨rfl,rfl⟩)
    | (go_at_call 160;refine (HC.out _ hTc.out).mono ?_;rintro e w6 ⟨rfl,hk6⟩;have hZ6:=hZ.kept hk6 (fun f=>f);have y0:=hZ6.cell 0;have y1:=hZ6.cell 1;have y2:=hZ6.cell 2;have y3:=hZ6.cell 3;simp at y0 y1 y2 y3;have g0:=hZ6.frozen 0;have g1:=hZ6.frozen 1;have g2:=hZ6.frozen 2;have g3:=hZ6.frozen 3;have hz6:=hZ6.lt))
   refine bodyPost_ret (v:=.tuple #[Pr.zero.val,.bool false]) (by simp[results,Tryz.results173,go_sem,y0,y1,y2,y3,hz6,Pr.zero,Pr.val]) rfl ⟨by rw[HN.out];rfl,?_,?_⟩
   ·exact (hR.keptNo hk6).set4 hZ6 (by decide) hrz _ _ _ _
   ·exact (hK.trans hk6.any).set4 (Nat.le_refl _) _ _ _ _
  ·have HN:Hid (NK=true):=Lib.hid (by rw[HNK.out];simp[Pr.ok,hok])
   rw[hok]at cR;have HC:=Lib.hid cR;clear cR hok HNK
   go_wp2_with (first
    | (go_at_call 52;refine (err_any _ r l2 0 hR).mono ?_;rintro e w5 ⟨rfl,rfl⟩)
    | (go_at_call 160;refine (HC.out _ hTc.out).mono ?_;rintro e w6 ⟨rfl,hk6⟩;have hZ6:=hZ.kept hk6 (fun f=>f);have hQ6:=hQ.kept hk6 (fun f=>f);have y0:=hZ6.cell 0;have y1:=hZ6.cell 1;have y2:=hZ6.cell 2;have y3:=hZ6.cell 3;have x0:=hQ6.cell 0;have x1:=hQ6.cell 1;have x2:=hQ6.cell 2;have x3:=hQ6.cell 3;simp at y0 y1 y2 y3 x0 x1 x2 x3;have g0:=hZ6.frozen 0;have g1:=hZ6.frozen 1;have g2:=hZ6.frozen 2;have g3:=hZ6.frozen 3;have hz6:=hZ6.lt;have hq6:=hQ6.lt))
   refine bodyPost_ret (v:=.tuple #[(⟨pi,pn,A,B⟩:Pr).val,.bool true]) (by simp[results,Tryz.results173,go_sem,y0,y1,y2,y3,hz6,Pr.val]) rfl ⟨by rw[HN.out];rfl,?_,?_⟩
   ·exact (hR.keptNo hk6).set4 hZ6 (by decide) hrz _ _ _ _
   ·exact (hK.trans hk6.any).set4 (Nat.le_refl _) _ _ _ _
 ·have HN:Hid (NK=false):=Lib.hid (by rw[HNK.out];simp[he])
  have hne:(e2 != 0)=true:=by simpa using he
  clear cR HNK
  go_wp2_with (go_at_call 52;refine (err_any _ r l2 e2 hR).mono ?_;rintro e w5 ⟨rfl,rfl⟩)
  refine bodyPost_ret (v:=.tuple #[Pr.zero.val,.bool false]) (by simp[results,Tryz.results173,go_sem,z0,z1,z2,z3,hzl,Pr.zero,Pr.val]) rfl ⟨by rw[HN.out];rfl,?_,?_⟩
  ·exact hR.set4 hZ (by decide) hrz _ _ _ _
  ·exact hK.set4 (Nat.le_refl _) _ _ _ _
theorem typS_id (t id:Nat) (l:List UInt8) (e:Int):(typS t id l e).1.id=id:=by
 unfold typS
 repeat' split
 all_goals rfl
theorem nextK_typ (l:List UInt8) (h:typL (num (taken 1 l 0))=0):nextK l=false:=by
 unfold nextK
 have h1:(nextS l 0).1.ok=false:=by
  unfold Pr.ok rightB;rw[show (nextS l 0).1.id=num (taken 1 l 0) from typS_id _ _ _ _,h]
  rfl
 rw[h1,Bool.and_false]
theorem leftL_suf (n:Int) (l:List UInt8) (e:Int):leftL n l e <:+ l:=by
 unfold leftL
 split
 ·split
  ·exact List.drop_suffix _ _
  ·exact List.nil_suffix
 ·exact List.suffix_refl _
theorem binL_suf (l:List UInt8) (e:Int):binL l e <:+ l:=(leftL_suf _ _ _).trans (leftL_suf _ _ _)
theorem rv_suf:∀ (f i n:Nat) (l:List UInt8) (e:Int),(rv f i n l e).2.1 <:+ l
 | 0,_,_,_,_=>List.nil_suffix
 | f+1,i,n,l,e=>by
  rw[rv]
  split
  ·exact leftL_suf _ _ _
  ·split
   ·exact (rv_suf f _ _ _ _).trans (leftL_suf _ _ _)
   ·split
    ·exact List.nil_suffix
    ·exact leftL_suf _ _ _
theorem typS_suf (t id:Nat) (l:List UInt8) (e:Int):(typS t id l e).2.1 <:+ l:=by
 unfold typS
 repeat' split
 all_goals dsimp only
 all_goals first|exact leftL_suf _ _ _|exact rv_suf _ _ _ _ _|exact binL_suf _ _|exact (binL_suf _ _).trans (binL_suf _ _)|exact List.suffix_refl _
theorem nextS_suf (l:List UInt8):(nextS l 0).2.1 <:+ leftL 1 l 0:=typS_suf _ _ _ _
theorem nextK_ne {l:List UInt8} (h:nextK l=true):l≠[]:=by
 rintro rfl;rw[nextK_typ [] (by decide)]at h;cases h
theorem next_lt {l:List UInt8} (h:nextK l=true):(nextS l 0).2.1.length < l.length:=by
 have h1:=(nextS_suf l).length_le;have hne:=nextK_ne h;cases l with
 | nil=>exact absurd rfl hne
 | cons c t =>
  rw[(one_cons c t).2.1]at h1;simp only[List.length_cons];omega
def eachF:Nat→List UInt8→List Pr × Bool
 | 0,_=>([],true)
 | f+1,l=>if l.isEmpty then ([],true) else if nextK l then ((nextS l 0).1 :: (eachF f (nextS l 0).2.1).1,(eachF f (nextS l 0).2.1).2) else ([],false)
theorem eachF_fuel:∀ (f g:Nat) (l:List UInt8),l.length≤f→l.length≤g→eachF f l=eachF g l
 | 0,0,_,_,_=>rfl
 | 0,g+1,l,h,_=>by
  have:l=[]:=List.length_eq_zero_iff.1 (by omega)
  subst this
  rfl
 | f+1,0,l,_,h=>by
  have:l=[]:=List.length_eq_zero_iff.1 (by omega)
  subst this
  rfl
 | f+1,g+1,l,h1,h2=>by
  rw[eachF,eachF]
  split
  ·rfl
  ·split
   ·rename_i hk
    have hlt:=next_lt hk;rw[eachF_fuel f g _ (by omega) (by omega)]
   ·rfl
def eachL (l:List UInt8):List Pr × Bool:=eachF l.length l
theorem eachL_nil:eachL []=([],true):=rfl
theorem eachL_bad {l:List UInt8} (h0:l≠[]) (h:nextK l=false):eachL l=([],false):=by
 unfold eachL;cases l with
 | nil=>exact absurd rfl h0
 | cons c t=>rw[List.length_cons,eachF];simp[h]
theorem eachL_cons {l:List UInt8} (h:nextK l=true):eachL l=((nextS l 0).1 :: (eachL (nextS l 0).2.1).1,(eachL (nextS l 0).2.1).2):=by
 have hlt:=next_lt h;have hne:=nextK_ne h;unfold eachL;rw[eachF_fuel l.length (l.length+1) l (Nat.le_refl _) (by omega),eachF,if_neg (by simpa using hne),if_pos h,eachF_fuel l.length (nextS l 0).2.1.length _ (by omega) (Nat.le_refl _)]
theorem each_len:∀ (f:Nat) (l:List UInt8),(eachF f l).1.length≤f
 | 0,_=>Nat.le_refl _
 | f+1,l=>by
  rw[eachF]
  split
  ·simp
  ·split
   ·have:=each_len f (nextS l 0).2.1
    simp only[List.length_cons];omega
   ·simp
def Mid (a b:Nat):Nat→Prop:=fun k=>a≤k∧k < b
structure Holds2 (a b:Nat) (w w':World):Prop where
 size:w.heap.size≤w'.heap.size
 same:∀ k,a≤k→k < b→w'.heap[k]?=w.heap[k]?
 bytes:∀ (k:Nat) (cs:Array Value) (fz:Nat × Nat),w.heap[k]?=some (Obj.cells cs 5 fz)→w'.heap[k]?=w.heap[k]?
theorem Holds2.refl (a b:Nat) (w:World):Holds2 a b w w:=⟨Nat.le_refl _,fun _ _ _=>rfl,fun _ _ _ _=>rfl⟩
theorem Holds2.trans {a b:Nat} {w w' w'':World} (h:Holds2 a b w w') (k:Holds2 a b w' w''):Holds2 a b w w'' :=
 ⟨Nat.le_trans h.size k.size,fun i h1 h2=>(k.same i h1 h2).trans (h.same i h1 h2),fun i cs fz hc=>(k.bytes i cs fz ((h.bytes i cs fz hc).trans hc)).trans (h.bytes i cs fz hc)⟩
theorem Holds2.mono {a a' b:Nat} {w w':World} (h:Holds2 a b w w') (ha:a≤a'):Holds2 a' b w w':=⟨h.size,fun i h1 h2=>h.same i (by omega) h2,h.bytes⟩
theorem Kept.holds2 {S:Nat→Prop} {a b:Nat} {w w':World} (h:Kept S w w') (hb:b≤w.heap.size) (hs:∀ k,a≤k→k < b→¬ S k) (hu:∀ (k:Nat) (cs:Array Value) (fz:Nat × Nat),S k→w.heap[k]?≠some (Obj.cells cs 5 fz)):Holds2 a b w w' :=
 ⟨h.size,fun k h1 h2=>h.block k (by omega) (hs k h1 h2),fun k cs fz hc=>h.block k (Array.getElem?_eq_some_iff.1 hc).1 (fun hS=>hu k cs fz hS hc)⟩
theorem kept_put {w:World} (l:Nat) (o:Obj) {a b:Nat} (ha:a≤l) (hb:l < b):Kept (Mid a b) w (w.putObj l o) :=
 ⟨rfl,rfl,rfl,by simp,fun k hk hn=>World.putObj_heap_other (fun e=>hn (by subst e;exact ⟨ha,hb⟩))⟩
variable {F:Fence} {n:Nat} {P:Program}
def SeqR {α:Type} (F:Fence) (n:Nat) (P:Program) (g:Nat) (lb:Array Value) (encs:α→Array Value) (S Sp:List α→Prop) (G:World→Prop) (w:World):Prop :=
 ∀ (l:Nat) (J Jx:Nat→List α→World→Prop) (W:World),Below w.heap.size w W →
  (∀ B s A A',W.heap.size≤B→J B s A→Kept (Mid W.heap.size B) A A'→J B s A')→(∀ B s A,J B s A→G A) →
  (∀ B pre x W1,Sp (pre++[x])→W.heap.size≤B→B≤W1.heap.size→J B pre W1→YieldAt F (n - 1) P l (encs x) W1 fun e W' =>
   (e=.returned (.bool true)∧J B (pre++[x]) W'∧Holds2 W.heap.size B W1 W')∨(e=.returned (.bool false)∧Jx B (pre++[x]) W')) →
  (∀ B,W.heap.size≤B→J B [] W) →
  CallsIn F n P g (#[.func (.yield l) #[] #[]]++lb) W fun e W'=>(∃ v,e=.returned v)∧((∃ B xs,W.heap.size≤B∧S xs∧J B xs W')∨(∃ B pre,W.heap.size≤B∧Sp pre∧Jx B pre W'))
def postR {α:Type} (h0:Nat) (I:Nat→List α→World→Prop) (Ix:Code→List α→World→Prop) (B:Nat) (xs:List α) (W:World):Exit→Act→World→Prop
 | .normal,_,W'=>Holds2 h0 B W W'∧I B xs W'
 | .ret,_,W'=>Holds2 h0 B W W'∧Ix .ret xs W'
 | .exit id,_,W'=>Holds2 h0 B W W'∧Ix (.exit id) xs W'
 | .goto t,_,W'=>Holds2 h0 B W W'∧Ix (.goto t) xs W'
 | .panic _,_,_=>False
 | .outgrown,_,_=>False
theorem range_law {α:Type} {g:Operand} {ps:Array Tmp} {assign body:Code} {Q:Exit→Act→World→Prop} {a:Act} {w:World}
  (hro:F.round=none) (h1:1≤n) {gf:Nat} {lb:Array Value} (hg:a.eval g=.func (.func gf) #[] lb) (hFg:F.fn gf) (eg:∀ args w,(callFunc gf args).run P w=.ok (.enter gf args) w)
  {encs:α→Array Value} {S Sp:List α→Prop} {G:World→Prop} (hseq:SeqR F (n - 1) P gf lb encs S Sp G w) (hps:∀ x,(encs x).size=ps.size)
  (I:Nat→List α→World→Prop) (Ix:Code→List α→World→Prop)
  (hI:∀ B s A A',w.heap.size≤B→I B s A→Kept (Mid w.heap.size B) A A'→I B s A')
  (hIG:∀ B s A,I B s A→G A)
  (hIx:∀ c s A A',Ix c s A→Kept (Mid w.heap.size (w.heap.size+2)) A A'→Ix c s A')
  (h0:∀ B,w.heap.size+2≤B→I B [] w)
  (Ax:α→Act→World→Prop) (hAx:∀ x a' A A',Ax x a' A→Kept (Mid w.heap.size (w.heap.size+2)) A A'→Ax x a' A')
  (hassign:∀ (l B:Nat) (pre:List α) (x:α) (W:World) (K:Act→World→Prop),w.heap.size+2≤B→B≤W.heap.size→I B pre W →
   (∀ a' W',Holds2 w.heap.size B W W'→I B pre W'→Ax x a' W'→K a' W') →
   assign.wpIn (F.inRound l) (n - 1 - 1) P (Exit.then K (fun _ _ _=>False)) { tmps:=(ps.zip (encs x)).foldl (fun t (p,v)=>t.setIfInBounds p v) a.tmps,defers:=[] } W)
  (hbody:∀ (l B:Nat) (pre:List α) (x:α) (a':Act) (W:World),Sp (pre++[x])→w.heap.size+2≤B→B≤W.heap.size→I B pre W→Ax x a' W→body.wpIn (F.inRound l) (n - 1 - 1) P (postR w.heap.size I Ix B (pre++[x]) W) a' W)
  (hdone:∀ (B:Nat) (xs:List α) (W:World),w.heap.size+2≤B→S xs→I B xs W→W.heap[w.heap.size]?=some (.deferred (some []))→Q .normal { a with defers:={ target:=.collected w.heap.size,args:=#[] } :: a.defers } W)
  (hstop:∀ (c:Code) (pre:List α) (W:World),Sp pre→Ix c pre W→W.heap[w.heap.size]?=some (.deferred (some []))→c.wpIn F n P Q { a with defers:={ target:=.collected w.heap.size,args:=#[] } :: a.defers } W) :
  (Code.rangeFunc g ps assign body).wpIn F n P Q a w:=by
 refine wpIn_rangeFunc fun fn hfn=>?_
 rw[hro];let rec':LoopState→Option Code→Loop:=fun st pe=>{ state:=st,pending:=pe,fn,tmps:=a.tmps,params:=ps,assign,body,defers:=w.heap.size }
 obtain ⟨rec,hrec⟩:∃ rec,rec=rec':=⟨_,rfl⟩
 obtain ⟨W1,hW1⟩:∃ W1,(w.alloc (.deferred (some []))).alloc (.loop (rec .ready none))=W1:=⟨_,rfl⟩
 have hz1:W1.heap.size=w.heap.size+2:=by rw[← hW1];simp
 have hL1:W1.heap[w.heap.size+1]?=some (.loop (rec .ready none)):=by
  rw[← hW1]
  have:=World.alloc_heap_new (w.alloc (.deferred (some []))) (.loop (rec .ready none))
  rwa [World.size_alloc]at this
 have hD1:W1.heap[w.heap.size]?=some (.deferred (some [])):=by
  rw[← hW1];exact (Below.heap_alloc _ _ _ (by simp)).trans (World.alloc_heap_new w _)
 have hkw:∀ S,Kept S w W1:=fun S=>by rw[← hW1];exact ((Kept.refl S w).alloc _).alloc _
 have hb1:Below w.heap.size w W1:=(hkw No).below (Nat.le_refl _) (fun _ _ f=>f);have putI:∀ {B s W} (o:Obj),w.heap.size+2≤B→I B s W→I B s (W.putObj (w.heap.size+1) o):=fun o hB hi=>hI _ _ _ _ (by omega) hi (kept_put _ o (by omega) (by omega))
 have putX:∀ {c s W} (o:Obj),Ix c s W→Ix c s (W.putObj (w.heap.size+1) o):=fun o hi=>hIx _ _ _ _ hi (kept_put _ o (by omega) (by omega))
 refine ⟨w.heap.size+1,[{ target:=.collected w.heap.size,args:=#[] }],W1,{ target:=.fn (.func gf) lb,args:=#[.func (.yield (w.heap.size+1)) #[] #[]] },W1,gf,
  #[.func (.yield (w.heap.size+1)) #[] #[]]++lb,W1,?_,?_,?_,?_,fun _=>h1,?_⟩
 ·rw[← hW1,hrec];exact run_enterLoop_outer _ _ _ _ _
 ·simp only[resolve,hg]
  simp[go_sem]
 ·intro f' hf'
  simp[Target.leads]at hf';subst hf';exact hFg
 ·simp[invoke,go_sem,eg]
 ·refine (hseq (w.heap.size+1)
   (fun B pre W=>I B pre W∧W.heap[w.heap.size+1]?=some (.loop (rec .ready none))∧W.heap[w.heap.size]?=some (.deferred (some [])))
   (fun B pre W=>∃ c,Ix c pre W∧W.heap[w.heap.size+1]?=some (.loop (rec .done (some c)))∧W.heap[w.heap.size]?=some (.deferred (some [])))
   W1 hb1 ?abides (fun B s A h=>hIG B s A h.1) ?round ?start).mono ?behind
  case abides =>
   rintro B s A A' hB ⟨hi,hl,hd⟩ hk;refine ⟨hI B s A A' (by omega) hi (hk.mono fun k _ hm=>⟨by have:=hm.1;omega,hm.2⟩),?_,?_⟩
   ·exact (hk.block _ (Array.getElem?_eq_some_iff.1 hl).1 (fun hm=>by have:=hm.1;omega)).trans hl
   ·exact (hk.block _ (Array.getElem?_eq_some_iff.1 hd).1 (fun hm=>by have:=hm.1;omega)).trans hd
  case start =>
   exact fun B hB=>⟨hI B [] w W1 (by omega) (h0 B (by omega)) (hkw _),hL1,hD1⟩
  case round =>
   rintro B pre x W hpre hB hBW ⟨hi,hl,hd⟩;have hy:=run_yield (P:=P) (args:=encs x) hl (by rw[hrec];exact hps x);rw[hrec]at hy;refine ⟨fn,_,assign,body,hy,roundIn_of_wpIn hfn (hassign _ B pre x W _ (by omega) hBW hi ?_)⟩;intro a' V hh hiV hax;have hlV:=(hh.same _ (by omega) (by omega)).trans hl;have hdV:=(hh.same _ (Nat.le_refl _) (by omega)).trans hd;have hVlt:=(Array.getElem?_eq_some_iff.1 hlV).1;refine ⟨_,run_beginRound hlV (by rw[hrec]),?_⟩;have hput:Kept (Mid w.heap.size (w.heap.size+2)) V (V.putObj (w.heap.size+1) (.loop { rec .ready none with state:=.busy })):=kept_put _ _ (by omega) (by omega);have hl2:(V.putObj (w.heap.size+1) (.loop { rec .ready none with state:=.busy })).heap[w.heap.size+1]?=some (.loop { rec .ready none with state:=.busy }):=World.putObj_heap_same hVlt;have hd2:(V.putObj (w.heap.size+1) (.loop { rec .ready none with state:=.busy })).heap[w.heap.size]?=some (.deferred (some [])):=(World.putObj_heap_other (by omega)).trans hdV;have hsV:=hh.size;refine wpIn_mono (hbody _ B pre x a' _ hpre (by omega) (by simp;omega) (putI _ (by omega) hiV) (hAx x a' _ _ hax hput)) ?_
   have fin:∀ (jump:Option Code) (V3:World),Holds2 w.heap.size B (V.putObj (w.heap.size+1) (.loop { rec .ready none with state:=.busy })) V3 →
     (Instr.endRound (w.heap.size+1) jump).run P V3=.ok (.bool jump.isNone) (V3.putObj (w.heap.size+1) (.loop (rec (if jump.isNone then .ready else .done) jump))) ∧
     (V3.putObj (w.heap.size+1) (.loop (rec (if jump.isNone then .ready else .done) jump))).heap[w.heap.size+1]?=some (.loop (rec (if jump.isNone then .ready else .done) jump)) ∧
     (V3.putObj (w.heap.size+1) (.loop (rec (if jump.isNone then .ready else .done) jump))).heap[w.heap.size]?=some (.deferred (some [])):=fun jump V3 hk3=>by
    have hl3:=(hk3.same _ (by omega) (by omega)).trans hl2;have hd3:=(hk3.same _ (Nat.le_refl _) (by omega)).trans hd2;have hr:=run_endRound (P:=P) jump hl3;rw[hrec]at hr ⊢;exact ⟨hr,World.putObj_heap_same (Array.getElem?_eq_some_iff.1 hl3).1,(World.putObj_heap_other (by omega)).trans hd3⟩
   rintro e a3 V3 hp;cases e with
   | normal =>
    obtain ⟨hk3,hi3⟩:=hp;obtain ⟨hr,hl4,hd4⟩:=fin none V3 hk3;refine ⟨_,_,hr,.inl ⟨rfl,⟨putI _ (by omega) hi3,hl4,hd4⟩,?_⟩⟩;refine ⟨?_,fun k hk1 hk2=>?_,fun k cs fz hc=>?_⟩
    ·have h3:=hk3.size
     simp only[World.putObj,Array.size_setIfInBounds]at h3 ⊢;omega
    ·rw[World.putObj_heap_other (by omega),hk3.same k (by omega) hk2,World.putObj_heap_other (by omega),hh.same k (by omega) hk2]
    ·have hV:=hh.bytes k cs fz hc
     have hne:w.heap.size+1≠k:=fun e=>by rw[← e,hl]at hc;cases hc
     have hV2:(V.putObj (w.heap.size+1) (.loop { rec .ready none with state:=.busy })).heap[k]?=W.heap[k]?:=(World.putObj_heap_other (fun e=>hne (by omega))).trans hV;exact (World.putObj_heap_other (fun e=>hne (by omega))).trans ((hk3.bytes k cs fz (hV2.trans hc)).trans hV2)
   | ret =>
    obtain ⟨hk3,hi3⟩:=hp;obtain ⟨hr,hl4,hd4⟩:=fin (some .ret) V3 hk3;exact ⟨_,_,hr,.inr ⟨rfl,.ret,putX _ hi3,hl4,hd4⟩⟩
   | exit id =>
    obtain ⟨hk3,hi3⟩:=hp;obtain ⟨hr,hl4,hd4⟩:=fin (some (.exit id)) V3 hk3;exact ⟨_,_,hr,.inr ⟨rfl,.exit id,putX _ hi3,hl4,hd4⟩⟩
   | goto t =>
    obtain ⟨hk3,hi3⟩:=hp;obtain ⟨hr,hl4,hd4⟩:=fin (some (.goto t)) V3 hk3;exact ⟨_,_,hr,.inr ⟨rfl,.goto t,putX _ hi3,hl4,hd4⟩⟩
   | panic ch=>exact hp.elim
   | outgrown=>exact hp.elim
  case behind =>
   rintro e W2 ⟨⟨v,rfl⟩,(⟨B,xs,hB,hS,hi,hl,hd⟩|⟨B,pre,hB,hSp,c,hi,hl,hd⟩)⟩
   ·have hrun:=run_endLoop (P:=P) hl (by rw[hrec];simp)
    rw[hrec]at hrun;exact ⟨none,_,hrun,hdone B xs _ (by omega) hS (putI _ (by omega) hi) ((World.putObj_heap_other (by omega)).trans hd)⟩
   ·have hrun:=run_endLoop (P:=P) hl (by rw[hrec];simp)
    rw[hrec]at hrun;exact ⟨some c,_,hrun,hstop c pre _ hSp (putX _ hi) ((World.putObj_heap_other (by omega)).trans hd)⟩
end Go.Proofs.YtofjhopecfmbcaaGreatDoor
namespace Go.Proofs.YtofjhopecfmbcaaGreatDoor
open Go.RowKit
attribute [local go_sem] Oper.semAt_some
set_option linter.unusedVariables false
set_option linter.unusedSimpArgs false
set_option maxRecDepth 100000
theorem Rdr.holds2 {w w':World} {r a b:Nat} {l:List UInt8} {err:Int} (h:Rdr w r l err) (hk:Holds2 a b w w') (ha:a≤r) (hb:r < b):Rdr w' r l err:=by
 obtain ⟨p,c,hB,h1,h2,h3,h4,h5,h6⟩:=h;refine ⟨p,c,(hk.same r ha hb).trans hB,h1,h2,?_,h4,h5,?_⟩
 ·by_cases hl:l=[]
  ·subst hl;exact .inl rfl
  ·rcases h3 with h3|⟨b9,off,hp,hlt,hc⟩
   ·exact .inl h3
   ·obtain ⟨cs,fz,hx⟩:=h6 b9 off hp hl
    have hbb:=hk.bytes b9 cs fz hx;exact .inr ⟨b9,off,hp,Nat.lt_of_lt_of_le hlt hk.size,fun j u hj=>(World.cell?_of_block (w:=w) hbb).trans (hc j u hj)⟩
 ·intro b9 off hp hl
  obtain ⟨cs,fz,hx⟩:=h6 b9 off hp hl;exact ⟨cs,fz,(hk.bytes b9 cs fz hx).trans hx⟩
def seqL (l:List UInt8):List (Pr × Bool):=(eachL l).1.map (fun p=>(p,true))++(if (eachL l).2 then [] else [(Pr.zero,false)])
theorem seqL_nil:seqL []=[]:=rfl
theorem seqL_good {l:List UInt8} (h:nextK l=true):seqL l=((nextS l 0).1,true) :: seqL (nextS l 0).2.1:=by
 unfold seqL;rw[eachL_cons h]
 rfl
theorem seqL_bad {l:List UInt8} (h0:l≠[]) (h:nextK l=false):seqL l=[(Pr.zero,false)]:=by
 unfold seqL;rw[eachL_bad h0 h]
 rfl
def encPB (x:Pr × Bool):Array Value:=#[.agg #[.int .u8 x.1.id,.int .u32 x.1.n,.string x.1.a,.string x.1.b],.bool x.2]
def leftM (r:Nat) (w:World):Nat:=match w.cell? ⟨r,0,none⟩ with|some (.slice _ n _)=>n|_=>0
theorem leftM_of {w:World} {r:Nat} {l:List UInt8} {e:Int} (h:Rdr w r l e):leftM r w=l.length:=by
 obtain ⟨a,c,h0,_⟩:=h.cells;unfold leftM;rw[h0]
set_option maxHeartbeats 4000000 in
theorem each1_seq (l:List UInt8) (Bn:Nat) (a:Option Addr) (c n:Nat) (w:World) (hB:w.cell? ⟨Bn,0,none⟩=some (.slice a l.length c)) (hr:Row w a (B8 l)) (hn:a=none→l.length=0∧c=0) (hl:l.length≤1000000) :
  SeqR Fence.wide n Tryz.prog 172 #[.pointer (some ⟨Bn,0,none⟩)] encPB (fun xs=>xs=seqL l) (fun pre=>pre <+: seqL l) Tabs w:=by
 intro l9 J Jx W hW hJ hJG hY h0;have hkW:=Kept.of_below hW;have hBW:W.cell? ⟨Bn,0,none⟩=some (.slice a l.length c):=(hkW.cell (p:=⟨Bn,0,none⟩) (cell_lt hB) (fun f=>f)).trans hB;have hrW:=hr.keptNo hkW;have hBl:=cell_lt hBW;refine callsIn_of_wp Tryz.func172 rfl trivial ?_ rfl;simp only[Tryz.ntmps172,List.size_toArray,List.length_cons,List.length_nil,Nat.reduceAdd,Nat.reduceSub,Array.replicate_succ,Array.replicate_zero,List.push_toArray,List.append_toArray,List.nil_append,List.cons_append];have HJ:=Lib.hid hJ;have HJG:=Lib.hid hJG;have HY:=Lib.hid hY;have H0:=Lib.hid h0;clear hJ hJG hY h0 hr hB
 gi_wp2_with fail
 refine ⟨trivial,(fun h=>(by cases h)),(callsIn_wide.2 (read_any a c l _ hrW hn (by omega))).mono ?_⟩;rintro e w1 ⟨r,rfl,hrg,hrd,hk1⟩;obtain ⟨B,hBe⟩:∃ B,B=w1.heap.size:=⟨_,rfl⟩
 have hs1:=hk1.size;have hrl:=hrd.lt;have hWB:W.heap.size≤B:=by omega
 have hrB:r < B:=by omega
 have hJ0:=HJ.out B [] W w1 hWB (H0.out B hWB) hk1.any;have hBw:B≤w1.heap.size:=by omega
 have HMID:=Lib.hid (show ∀ k,One r k→Mid W.heap.size B k from fun k e=>by have:k=r:=e;subst this;exact ⟨hrg,hrB⟩);clear hBe hk1 hs1 hrl H0
 gi_wp2_with fail
 gi_loopw [4] (fun _ wr=>∃ (pre:List (Pr × Bool)) (l1:List UInt8),Hid (seqL l=pre++seqL l1)∧Rdr wr r l1 0∧J B pre wr∧B≤wr.heap.size) (fun _ wr=>leftM r wr)
 case atStart=>exact ⟨[],l,Lib.hid rfl,hrd,hJ0,hBw⟩
 case round =>
  obtain ⟨pre,l1,HS,hrd1,hJ1,hB1⟩:=hrel;clear hrd hJ0 hBw hBW hrW
  by_cases hnil:l1=[]
  ·subst hnil
   gi_wp2_with fail
   refine ⟨trivial,(fun h=>(by cases h)),(callsIn_wide.2 (left_any _ r [] 0 hrd1)).mono ?_⟩;rintro e w2 ⟨rfl,rfl⟩
   gi_wp2
   go_end0
   exact ⟨⟨_,rfl⟩,.inl ⟨B,pre,hWB,by rw[HS.out,seqL_nil,List.append_nil],hJ1⟩⟩
  ·have hlp:=List.length_pos_iff.2 hnil
   have hlI:(0:Int) < (l1.length:Int):=by omega
   have cN:=next_any wr r l1 hrd1 (HJG.out _ _ _ hJ1);rcases hK:nextK l1 with _|_
   ·rw[hK]at cN
    have hq:=seqL_bad hnil hK;have HQ:=Lib.hid hq;have HN:Hid (Calls Tryz.prog 173 #[.pointer (some ⟨r,0,none⟩)] wr fun e w'=>e=.returned (.tuple #[.agg #[.int .u8 0,.int .u32 0,.string ⟨#[]⟩,.string ⟨#[]⟩],.bool false])∧Kept (One r) wr w'):=Lib.hid (cN.mono fun e w' ⟨h1,h2⟩=>⟨by rw[h1];rfl,h2.kept⟩);clear cN hK hq
    gi_wp2_with fail
    refine ⟨trivial,(fun h=>(by cases h)),(callsIn_wide.2 (left_any _ r l1 0 hrd1)).mono ?_⟩;rintro e w2 ⟨rfl,rfl⟩
    gi_wp2_with fail
    refine ⟨trivial,(fun h=>(by cases h)),(callsIn_wide.2 HN.out).mono ?_⟩;rintro e w3 ⟨rfl,hk3⟩;have hk4:=(hk3.mono (fun k _ e=>HMID.out k e)).alloc (.cells #[.int .u8 0,.int .u32 0,.string ⟨#[]⟩,.string ⟨#[]⟩] 95);have hJ4:=HJ.out B pre _ _ hWB hJ1 hk4;obtain ⟨fn,tmps,assign,body,hy,hR⟩:=HY.out B pre (Pr.zero,false) _ (by rw[HS.out,HQ.out];exact List.prefix_refl _) hWB (by have:=hk4.size;omega) hJ4
    change (Instr.yield l9 #[.agg #[.int .u8 0,.int .u32 0,.string ⟨#[]⟩,.string ⟨#[]⟩],.bool false]).run Tryz.prog _=_ at hy
    gi_wp2_with fail
    refine ⟨(fun h=>(by cases h)),hR.mono ?_⟩;rintro e W3 (⟨rfl,hJ3,hh3⟩|⟨rfl,hJx3⟩)
    ·gi_wp2
     refine bodyPost_ret (results_none rfl _ _ _) rfl ?_;exact ⟨⟨_,rfl⟩,.inl ⟨B,pre++[(Pr.zero,false)],hWB,by rw[HS.out,HQ.out],hJ3⟩⟩
    ·gi_wp2
     refine bodyPost_ret (results_none rfl _ _ _) rfl ?_;exact ⟨⟨_,rfl⟩,.inr ⟨B,pre++[(Pr.zero,false)],hWB,by rw[HS.out,HQ.out];exact List.prefix_refl _,hJx3⟩⟩
   ·rw[hK]at cN
    have hq:=seqL_good hK;have hlt:=next_lt hK
    have hkk:(nextS l1 0).2.2=0:=by
     have h9:=hK;unfold nextK at h9;rw[Bool.and_eq_true]at h9;exact of_decide_eq_true h9.1
    generalize nextS l1 0=SS at *;obtain ⟨⟨id,pn,A,B9⟩,l2,e2⟩:=SS;dsimp only at hq hlt hkk;subst hkk;have HQ:=Lib.hid hq;have HN:Hid (Calls Tryz.prog 173 #[.pointer (some ⟨r,0,none⟩)] wr fun e w'=>e=.returned (.tuple #[.agg #[.int .u8 id,.int .u32 pn,.string A,.string B9],.bool true])∧AfterK wr w' r l2 0):=Lib.hid (cN.mono fun e w' ⟨h1,h2⟩=>⟨by rw[h1];rfl,h2⟩);clear cN hK hq
    gi_wp2_with fail
    refine ⟨trivial,(fun h=>(by cases h)),(callsIn_wide.2 (left_any _ r l1 0 hrd1)).mono ?_⟩;rintro e w2 ⟨rfl,rfl⟩
    gi_wp2_with fail
    refine ⟨trivial,(fun h=>(by cases h)),(callsIn_wide.2 HN.out).mono ?_⟩;rintro e w3 ⟨rfl,ha3⟩;have hk4:=(ha3.kept.mono (fun k _ e=>HMID.out k e)).alloc (.cells #[.int .u8 id,.int .u32 pn,.string A,.string B9] 95);have hrd4:=ha3.rdr.keptNo ((Kept.refl No w3).alloc (.cells #[.int .u8 id,.int .u32 pn,.string A,.string B9] 95));have hJ4:=HJ.out B pre _ _ hWB hJ1 hk4;have hB4:B≤(w3.alloc (.cells #[.int .u8 id,.int .u32 pn,.string A,.string B9] 95)).heap.size:=by have:=hk4.size;omega
    obtain ⟨fn,tmps,assign,body,hy,hR⟩:=HY.out B pre (⟨id,pn,A,B9⟩,true) _ (by rw[HS.out,HQ.out];exact ⟨seqL l2,by simp⟩) hWB hB4 hJ4;simp only[encPB]at hy
    gi_wp2_with fail
    refine ⟨(fun h=>(by cases h)),hR.mono ?_⟩;rintro e W3 (⟨rfl,hJ3,hh3⟩|⟨rfl,hJx3⟩)
    ·have hrd5:=hrd4.holds2 hh3 hrg hrB
     have hB5:=hh3.size;have hm1:=Lib.hid (leftM_of hrd5);have hm2:=Lib.hid (leftM_of hrd1)
     gi_wp2
     go_roundw
     case rel=>exact ⟨pre++[(⟨id,pn,A,B9⟩,true)],l2,Lib.hid (by rw[HS.out,HQ.out];simp),hrd5,hJ3,by omega⟩
     case measure=>rw[hm1.out,hm2.out];exact hlt
    ·gi_wp2
     refine bodyPost_ret (results_none rfl _ _ _) rfl ?_;exact ⟨⟨_,rfl⟩,.inr ⟨B,pre++[(⟨id,pn,A,B9⟩,true)],hWB,by rw[HS.out,HQ.out];exact ⟨seqL l2,by simp⟩,hJx3⟩⟩
end Go.Proofs.YtofjhopecfmbcaaGreatDoor
namespace Go.Proofs.YtofjhopecfmbcaaGreatDoor
open Go.RowKit
set_option linter.unusedVariables false
set_option linter.unusedSimpArgs false
theorem seq_len (l:List UInt8):(seqL l).length=(eachL l).1.length+(if (eachL l).2 then 0 else 1):=by
 unfold seqL;simp
 split<;>simp
theorem seq_all {l:List UInt8} (h:∀ x∈seqL l,x.2=true):(eachL l).2=true∧(seqL l).map Prod.fst=(eachL l).1:=by
 have h1:(eachL l).2=true:=by
  cases hk:(eachL l).2 with
  | true=>rfl
  | false =>
   have:=h (Pr.zero,false) (by unfold seqL;rw[hk];simp)
   cases this
 refine ⟨h1,?_⟩;unfold seqL;rw[h1];simp[Function.comp_def]
attribute [local go_sem] Oper.semAt_some
set_option maxRecDepth 100000
def EachIs (l:List UInt8) (w:World) (e:Ending) (w':World):Prop :=
 ∃ Bn a c,e=.returned (.func (.func 172) #[] #[.pointer (some ⟨Bn,0,none⟩)])∧w'.cell? ⟨Bn,0,none⟩=some (.slice a l.length c)∧Row w' a (B8 l)∧(a=none→l.length=0∧c=0)∧Kept No w w'
set_option maxHeartbeats 1000000 in
theorem each_any (a:Option Addr) (c:Nat) (l:List UInt8) (w:World) (hr:Row w a (B8 l)) (hn:a=none→l.length=0∧c=0) (hl:l.length≤1000000) :
  Calls Tryz.prog 158 #[.slice a l.length c] w (EachIs l w):=by
 have HB:=Lib.hid (bclone_any a c l w hr hn (by omega))
 go_enter Tryz.func158,Tryz.ntmps158
 go_wp2_with (go_at_call 21;refine HB.out.mono ?_;rintro e w1 ⟨a1,c1,rfl,hown,hk⟩)
 go_ret
 obtain ⟨q1,q2⟩:=own_row hown;exact ⟨w1.heap.size,a1,c1,rfl,(Blk.new w1 _ _).cell 0,q1.keptNo ((Kept.refl No w1).alloc _),q2,hk.alloc _⟩
theorem own_mid {w w':World} {B size n a:Nat} {e:TypeId} {v:Value} {xs:List Value} (h:w.ownsRow B e size v n xs) (hk:Kept (Mid a B) w w'):w'.ownsRow B e size v n xs:=by
 refine ⟨h.1,?_⟩;rcases h.2 with h2|⟨g,cap,cur,q1,q2,q3,q4⟩
 ·exact .inl h2
 ·exact .inr ⟨g,cap,cur,q1,q2,(hk.block g (Array.getElem?_eq_some_iff.1 q3).1 (fun hm=>by have:=hm.2;omega)).trans q3,q4⟩
def LAx (a:Option Addr) (c m Bn z:Nat) (l:List UInt8) (w:World) (x:Pr × Bool) (a':Act) (W:World):Prop :=
 ∃ b,z≤b∧Blk W b 95 #[.int .u8 x.1.id,.int .u32 x.1.n,.string x.1.a,.string x.1.b]∧a'={ tmps:=#[.slice a l.length c,.int .i64 m,undef,.pointer (some ⟨w.heap.size,0,none⟩),.pointer (some ⟨w.heap.size+1,0,none⟩),.pointer (some ⟨w.heap.size+1+1,0,none⟩),.pointer (some ⟨w.heap.size+1+1+1,0,none⟩),
  .func (.func 172) #[] #[.pointer (some ⟨Bn,0,none⟩)],.pointer (some ⟨b,0,none⟩),.bool x.2,.slice a l.length c,.func (.func 172) #[] #[.pointer (some ⟨Bn,0,none⟩)],.func (.func 172) #[] #[.pointer (some ⟨Bn,0,none⟩)],.bool false,.func (.func 172) #[] #[.pointer (some ⟨Bn,0,none⟩)],
  .agg #[.int .u8 x.1.id,.int .u32 x.1.n,.string x.1.a,.string x.1.b],.bool x.2,undef,undef,undef,undef,undef,undef,undef,undef,undef,undef,undef,undef,undef,undef],defers:=[] }
theorem LAx.abides {a:Option Addr} {c m Bn z:Nat} {l:List UInt8} {w:World} {x:Pr × Bool} {a':Act} {A A':World} (h:LAx a c m Bn (z+2) l w x a' A) (hk:Kept (Mid z (z+2)) A A'):LAx a c m Bn (z+2) l w x a' A':=by
 obtain ⟨b,hb,hB,he⟩:=h;exact ⟨b,hb,hB.kept hk (fun hm=>by have:=hm.2;omega),he⟩
def LS (w:World) (v:Value):Nat→Prop:=fun k=>k=w.heap.size+1∨k=w.heap.size+2∨k=w.heap.size+3∨v.ownBlock=some k
theorem own_ne {w w':World} {B size n:Nat} {e:TypeId} {v:Value} {xs:List Value} {S:Nat→Prop} (h:w.ownsRow B e size v n xs) (hk:Kept S w w') (hS:∀ g,B≤g→¬ S g):w'.ownsRow B e size v n xs:=by
 refine ⟨h.1,?_⟩;rcases h.2 with h2|⟨g,cap,cur,q1,q2,q3,q4⟩
 ·exact .inl h2
 ·exact .inr ⟨g,cap,cur,q1,q2,(hk.block g (Array.getElem?_eq_some_iff.1 q3).1 (hS g q2)).trans q3,q4⟩
end Go.Proofs.YtofjhopecfmbcaaGreatDoor
