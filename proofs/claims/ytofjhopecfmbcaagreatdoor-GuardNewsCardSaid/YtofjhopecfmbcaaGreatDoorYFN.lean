import Derived.Test.YtofjhopecfmbcaaGreatDoorYF3
import Derived.Test.YtofjhopecfmbcaaGreatDoorYF4
import Derived.Test.YtofjhopecfmbcaaGreatDoorYF2
namespace Go.Proofs.YtofjhopecfmbcaaGreatDoor
open Go.RowKit
set_option linter.unusedVariables false
set_option linter.unusedSimpArgs false
set_option maxRecDepth 100000
def getL:List Pr→Nat→Option Pr
 | [],_=>none
 | p :: t,i=>if p.id=i then some p else getL t i
def getV (o:Option Pr):Value:=.tuple #[(o.getD Pr.zero).val,.bool o.isSome]
def GetIs (o:Option Pr) (w:World) (e:Ending) (w':World):Prop:=e=.returned (getV o)∧Kept No w w'
set_option maxHeartbeats 2000000 in
theorem get_any (a:Option Addr) (c:Nat) (L:List Pr) (x:Nat) (w:World) (hr:Row w a (PC L)) (hl:L.length≤100000) :
  Calls Tryz.prog 39 #[.slice a L.length c,.int .u8 x] w (GetIs (getL L x) w):=by
 generalize hR:getL L x=R;have HR:=Lib.hid hR;clear hR
 go_enter Tryz.func39,Tryz.ntmps39
 go_wp2
 go_loopw [10] (fun i wr=>∃ j:Nat,i=.int .i64 j∧j≤L.length∧Hid (getL (L.drop j) x=R)∧Blk wr w.heap.size 95 #[.int .u8 0,.int .u32 0,.string ⟨#[]⟩,.string ⟨#[]⟩]∧Kept No w wr) (fun i _=>L.length - (intOf i).toNat)
 case atStart=>exact ⟨0,rfl,by omega,Lib.hid (by rw[List.drop_zero];exact HR.out),Blk.new w _ _,(Kept.refl No w).alloc _⟩
 case round =>
  obtain ⟨j,rfl,hj,HG,hZ,hk⟩:=hrel;have f0:=hZ.frozen 0;have f1:=hZ.frozen 1;have f2:=hZ.frozen 2;have f3:=hZ.frozen 3;have z0:=hZ.cell 0;have z1:=hZ.cell 1;have z2:=hZ.cell 2;have z3:=hZ.cell 3;simp at z0 z1 z2 z3;have hzl:=hZ.lt
  by_cases hlt:j < L.length
  ·obtain ⟨b,off,rfl,hb,q0,q1,q2,q3⟩:=(hr.keptNo hk).prop hlt
   have HD:=Lib.hid (drop_pr hlt);generalize L[j]=p at *;obtain ⟨id,pn,A,B⟩:=p;dsimp only at q0 q1 q2 q3
   by_cases he:id=x
   ·subst he
    have HE:Hid (R=some ⟨id,pn,A,B⟩):=Lib.hid (by rw[← HG.out,HD.out,getL];simp)
    go_wp2
    refine bodyPost_ret (v:=getV (some ⟨id,pn,A,B⟩)) (by simp[results,Tryz.results39,go_sem,z0,z1,z2,z3,hzl,Pr.val,getV]) rfl ⟨by rw[HE.out],?_⟩;exact (hk.set4 (Nat.le_refl _) _ _ _ _).alloc _
   ·have HE:Hid (getL (L.drop (j+1)) x=R):=Lib.hid (by rw[← HG.out,HD.out,getL];simp[he])
    have heI:((id:Int) == (x:Int))=false:=by simp;omega
    have heN:(id == x)=false:=by simpa using he
    go_wp2
    go_roundw
    case rel=>exact ⟨j+1,by go_num,by omega,HE,hZ.alloc _,hk.alloc _⟩
    case measure=>simp[intOf];omega
  ·have HE:Hid (R=none):=Lib.hid (by rw[← HG.out,List.drop_of_length_le (by omega)];rfl)
   go_wp2
   refine bodyPost_ret (v:=getV none) (by simp[results,Tryz.results39,go_sem,z0,z1,z2,z3,hzl,Pr.zero,Pr.val,getV]) rfl ⟨by rw[HE.out],?_⟩;exact hk.set4 (Nat.le_refl _) _ _ _ _
def followsB (k:Int) (x y:Nat):Bool:=decide (x < y)||(decide (x=y)&&oftenB y k)
set_option maxHeartbeats 2000000 in
theorem follows_any (k:Int) (x y:Nat) (w:World) (h8:x < 256) (h9:y < 256):Calls Tryz.prog 142 #[.int .i64 k,.int .u8 x,.int .u8 y] w fun e w'=>e=.returned (.bool (followsB k x y))∧Kept No w w':=by
 have HO:=Lib.hid (fun wx=>often_any y k wx h9);rcases Nat.lt_trichotomy x y with h|h|h
 ·have hR:followsB k x y=true:=by simp[followsB,h]
  rw[hR];have hI:((x:Int) < (y:Int)):=by omega
  go_enter Tryz.func142,Tryz.ntmps142
  go_wp2
  go_ret
  exact ⟨rfl,Kept.refl _ _⟩
 ·subst h
  have hR:followsB k x x=oftenB x k:=by simp[followsB]
  rw[hR];generalize oftenB x k=o at *
  go_enter Tryz.func142,Tryz.ntmps142
  go_wp2_with (go_at_call 162;refine (HO.out _).mono ?_;rintro e w1 ⟨rfl,hk⟩)
  go_ret
  exact ⟨rfl,hk⟩
 ·have hR:followsB k x y=false:=by simp[followsB];omega
  rw[hR];have h1:decide ((x:Int) < (y:Int))=false:=by simp;omega
  have h2:((x:Int) == (y:Int))=false:=by simp;omega
  have h3:(x == y)=false:=by simp;omega
  go_enter Tryz.func142,Tryz.ntmps142
  go_wp2
  go_ret
  refine ⟨?_,Kept.refl _ _⟩;simp;omega
def folB (k:Int):Option Nat→Nat→Bool
 | none,_=>true
 | some x,y=>followsB k x y
def chkGo (k:Int):Option Nat→List Pr→Bool
 | _,[]=>true
 | q,p :: t=>valueB p.id p.n p.a p.b&&(forB p.id k&&(folB k q p.id&&chkGo k (some p.id) t))
def prevId (L:List Pr):Nat→Option Nat
 | 0=>none
 | i+1=>(L[i]?).map Pr.id
def checkB (k:Int) (L:List Pr):Bool :=
 decide (L.length≤1024)&&(chkGo k none L&&((getL L 21).isSome||!(getL L 22).isSome))
theorem getp_at (a:Option Addr) (c:Nat) (L:List Pr) (x:Nat) (xi:Int) (hx:xi=x) (hl:L.length≤100000):∃ i n A B,∃ s,s=(getL L x).isSome∧∀ w,Row w a (PC L) →
  Calls Tryz.prog 39 #[.slice a L.length c,.int .u8 xi] w (fun e w'=>e=.returned (.tuple #[.agg #[.int .u8 (i:Nat),.int .u32 (n:Nat),.string A,.string B],.bool s])∧Kept No w w') :=
 by
 subst hx;exact ⟨_,_,_,_,_,rfl,fun w hr=>(get_any a c L x w hr hl).mono fun e w' h=>⟨h.1,h.2⟩⟩
set_option maxHeartbeats 4000000 in
theorem check_any (k:Int) (a:Option Addr) (c:Nat) (L:List Pr) (w:World) (hr:Row w a (PC L)) (hl:L.length≤100000) (hw:∀ p∈L,p.wf') (hT:Tabs w) :
  Calls Tryz.prog 112 #[.int .i64 k,.slice a L.length c] w fun e w'=>e=.returned (.bool (checkB k L))∧Kept No w w':=by
 by_cases hbig:L.length≤1024
 case neg =>
  have hR:checkB k L=false:=by simp[checkB,hbig]
  rw[hR];have hbI:((1024:Int) < (L.length:Int)):=by omega
  go_enter Tryz.func112,Tryz.ntmps112
  go_wp2
  go_ret
  exact ⟨rfl,Kept.refl _ _⟩
 obtain ⟨i1,n1,a1,b1,s1,hs1,c1⟩:=getp_at a c L 22 22 rfl hl;obtain ⟨i2,n2,a2,b2,s2,hs2,c2⟩:=getp_at a c L 21 21 rfl hl;have hR:checkB k L=(chkGo k none L&&(s2||!s1)):=by rw[hs1,hs2];simp[checkB,hbig]
 rw[hR];clear hs1 hs2 hR;have HG1:=Lib.hid c1;have HG2:=Lib.hid c2;have HW:=Lib.hid hw;generalize hR:(chkGo k none L&&(s2||!s1))=R;have HR:=Lib.hid hR;clear hw hR c1 c2;have hbI:decide ((1024:Int) < (L.length:Int))=false:=by simp;omega
 go_enter Tryz.func112,Tryz.ntmps112
 go_wp2
 go_loopw [16] (fun i wr=>∃ j:Nat,i=.int .i64 j∧j≤L.length∧Hid ((chkGo k (prevId L j) (L.drop j)&&(s2||!s1))=R)∧Kept No w wr) (fun i _=>L.length - (intOf i).toNat)
 case atStart=>exact ⟨0,rfl,by omega,Lib.hid (by rw[List.drop_zero];exact HR.out),Kept.refl No w⟩
 case round =>
  obtain ⟨j,rfl,hj,HG,hk⟩:=hrel
  by_cases hlt:j < L.length
  ·obtain ⟨b,off,rfl,hb,q0,q1,q2,q3⟩:=(hr.keptNo hk).prop hlt
   have HD:=Lib.hid (drop_pr hlt);have HP1:Hid (prevId L (j+1)=some L[j].id):=Lib.hid (by simp[prevId,List.getElem?_eq_getElem hlt]);have hp:=HW.out _ (List.getElem_mem hlt);generalize hLj:L[j]=p at *;clear hLj;obtain ⟨id,pn,A,B⟩:=p;obtain ⟨p1,p2,p3,p4⟩:=hp;dsimp only at q0 q1 q2 q3 p1 p2 p3 p4;have hB0:=Lib.hid (Blk.new wr 95 #[.int .u8 id,.int .u32 pn,.string A,.string B]);have hTr:=Lib.hid ((hT.kept hk).kept ((Kept.refl No wr).alloc (.cells #[.int .u8 id,.int .u32 pn,.string A,.string B] 95)));have cV:=fun wx hT=>pvalue_any id pn A B wx hT p1 p2 (by omega) (by omega)
   have cF:=fun wx=>for_any id k wx p1
   have HG2:Hid (((valueB id pn A B&&(forB id k&&(folB k (prevId L j) id&&chkGo k (some id) (L.drop (j+1)))))&&(s2||!s1))=R):=Lib.hid (by rw[← HG.out,HD.out,chkGo]);rcases hv:valueB id pn A B with _|_
   ·rw[hv]at cV HG2
    have HV:=Lib.hid cV;have HE:Hid (R=false):=Lib.hid (by rw[← HG2.out];rfl);clear cV hv cF HG HG2 HD
    go_wp2_with (go_at_call 140;refine (HV.out _ hTr.out).mono ?_;rintro e w2 ⟨rfl,hk2⟩)
    go_ret
    exact ⟨by rw[HE.out];rfl,(hk.alloc _).trans hk2⟩
   ·rw[hv]at cV HG2
    have HV:=Lib.hid cV;clear cV hv HG HD;rcases hf:forB id k with _|_
    ·rw[hf]at cF HG2
     have HF:=Lib.hid cF;have HE:Hid (R=false):=Lib.hid (by rw[← HG2.out];rfl);clear cF hf HG2
     go_wp2_with (first
      | (go_at_call 140;refine (HV.out _ hTr.out).mono ?_;rintro e w2 ⟨rfl,hk2⟩;have y0:=(hB0.out.kept hk2 (fun f=>f)).cell 0;simp at y0)
      | (go_at_call 141;refine (HF.out _).mono ?_;rintro e w3 ⟨rfl,hk3⟩))
     go_ret
     exact ⟨by rw[HE.out];rfl,((hk.alloc _).trans hk2).trans hk3⟩
    ·rw[hf]at cF HG2
     have HF:=Lib.hid cF;clear cF hf;have hB0:=hB0.out;rcases j with _|i
     ·have HE:Hid ((chkGo k (prevId L 1) (L.drop 1)&&(s2||!s1))=R):=Lib.hid (by rw[← HG2.out,HP1.out];rfl)
      clear HG2 HP1;simp only[Nat.zero_mul,Nat.add_zero]at q0 q1 q2 q3
      go_wp2_with (first
       | (go_at_call 140;refine (HV.out _ hTr.out).mono ?_;rintro e w2 ⟨rfl,hk2⟩;have y0:=(hB0.kept hk2 (fun f=>f)).cell 0;simp at y0)
       | (go_at_call 141;refine (HF.out _).mono ?_;rintro e w3 ⟨rfl,hk3⟩))
      refine wp_region_held_drew (S:=(fun _=>True)) (by kernel_rfl) ?_ (fun hHeld=>?_)
      ·exact trivial
      refine wtv (i:=0) (v:=?_) rfl (λwz9 hSw=>?_) ?_;rotate_left;(·(try dsimp only at hSw);go_simp;try with_reducible rfl);go_simp
      refine wtv (i:=1) (v:=Value.bool false) rfl (λwz9 hSw=>?_) ?_;(·(try dsimp only at hSw);go_simp;try with_reducible rfl);go_simp
      refine wtv (i:=2) (v:=Value.bool false) rfl (λwz9 hSw=>?_) ?_;(·(try dsimp only at hSw);go_simp;try with_reducible rfl);go_simp
      refine wtu (i:=3) rfl ?_;go_simp
      refine wtu (i:=4) rfl ?_;go_simp
      refine wtu (i:=5) rfl ?_;go_simp
      refine wtu (i:=6) rfl ?_;go_simp
      refine wtu (i:=7) rfl ?_;go_simp
      refine wtu (i:=8) rfl ?_;go_simp
      refine wtu (i:=9) rfl ?_;go_simp
      refine wtu (i:=10) rfl ?_;go_simp
      refine wtu (i:=11) rfl ?_;go_simp
      refine wtu (i:=12) rfl ?_;go_simp
      refine wtu (i:=13) rfl ?_;go_simp
      refine wtv (i:=14) (v:=Value.bool false) rfl (λwz9 hSw=>?_) ?_;(·(try dsimp only at hSw);go_simp;try with_reducible rfl);go_simp
      refine wpAnyH_done (by kernel_rfl) ?_ _
      go_wp2
      go_roundw
      case rel=>exact ⟨1,by go_num,by omega,HE,(((hk.alloc _).trans hk2).trans hk3).drew⟩
      case measure=>simp[intOf];omega
     ·obtain ⟨b9,of9,he9,hb9,o0,_,_,_⟩:=(hr.keptNo hk).prop (k:=i) (by omega)
      injection he9 with he9;injection he9 with e9 e8;subst e9 e8;have hil:i < L.length:=by omega
      have hwi:IntKind.i64.wrap (i:Int)=(i:Int):=by
       have h9:(i:Int) < 1000000:=by omega
       rw[IntKind.wrap_i64];omega
      have hpv:prevId L (i+1)=some L[i].id:=by simp[prevId,List.getElem?_eq_getElem (show i < L.length by omega)]
      rw[hpv]at HG2;have h8:=(HW.out _ (List.getElem_mem (show i < L.length by omega))).hid;generalize L[i].id=pid at *;clear hpv;have HE0:Hid ((followsB k pid id&&(chkGo k (prevId L (i+1+1)) (L.drop (i+1+1))&&(s2||!s1)))=R):=Lib.hid (by rw[← HG2.out,HP1.out];simp[folB,Bool.and_assoc]);have cO:=fun wx=>follows_any k pid id wx h8 p1
      clear HG2 HP1;rcases hfo:followsB k pid id with _|_
      ·rw[hfo]at cO HE0
       have HFO:=Lib.hid cO;have HE:Hid (R=false):=Lib.hid (by rw[← HE0.out];rfl);clear cO hfo HE0
       go_wp2_with (first
        | (go_at_call 140;refine (HV.out _ hTr.out).mono ?_;rintro e w2 ⟨rfl,hk2⟩;have y0:=(hB0.kept hk2 (fun f=>f)).cell 0;simp at y0)
        | (go_at_call 141;refine (HF.out _).mono ?_;rintro e w3 ⟨rfl,hk3⟩))
       have hk9:=((hk.alloc (.cells #[.int .u8 id,.int .u32 pn,.string A,.string B] 95)).trans hk2).trans hk3;have y0:=((hB0.kept hk2 (fun f=>f)).kept hk3 (fun f=>f)).cell 0;simp at y0;have ob:=(((Kept.refl No wr).alloc (.cells #[.int .u8 id,.int .u32 pn,.string A,.string B] 95)).trans hk2).trans hk3;have hb3:b < w3.heap.size:=Nat.lt_of_lt_of_le hb ob.size;have hz3:wr.heap.size < w3.heap.size:=((hB0.kept hk2 (fun f=>f)).kept hk3 (fun f=>f)).lt;have o0:=(ob.cell (p:=⟨b,off+i * 4,none⟩) hb (fun f=>f)).trans o0;refine wp_region_held_drew (S:=(fun wx=>wx.cell? ⟨b,off+i * 4,none⟩=some (.int .u8 pid)∧wx.cell? ⟨wr.heap.size,0,none⟩=some (.int .u8 id))) (by kernel_rfl) ?_ (fun hHeld=>?_)
       ·exact ⟨by simpa using o0,by simpa using y0⟩
       refine wtv (i:=0) (v:=?_) rfl (λwz9 hSw=>?_) ?_;rotate_left;(·(try dsimp only at hSw);go_simp;try with_reducible rfl);go_simp
       refine wtv (i:=1) (v:=Value.bool true) rfl (λwz9 hSw=>?_) ?_;(·(try dsimp only at hSw);go_simp;try with_reducible rfl);go_simp
       refine wtv (i:=2) (v:=Value.bool true) rfl (λwz9 hSw=>?_) ?_;(·(try dsimp only at hSw);go_simp;try with_reducible rfl);go_simp
       refine wtv (i:=3) (v:=?_) rfl (λwz9 hSw=>?_) ?_;rotate_left;(·(try dsimp only at hSw);go_simp;try with_reducible rfl);go_simp
       refine wtv (i:=4) (v:=?_) rfl (λwz9 hSw=>?_) ?_;rotate_left;(·(try dsimp only at hSw);go_simp;try with_reducible rfl);go_simp
       refine wtv (i:=5) (v:=?_) rfl (λwz9 hSw=>?_) ?_;rotate_left;(·(try dsimp only at hSw);go_simp;try with_reducible rfl);go_simp
       refine wtv (i:=6) (v:=Value.int .i64 (i:Nat)) rfl (λwz9 hSw=>?_) ?_;(·(try dsimp only at hSw);go_simp;(try rw[hwi]);try with_reducible rfl);go_simp
       refine wtv (i:=7) (v:=?_) rfl (λwz9 hSw=>?_) ?_;rotate_left;(·(try dsimp only at hSw);go_simp;try with_reducible rfl);go_simp
       refine wtv (i:=8) (v:=?_) rfl (λwz9 hSw=>?_) ?_;rotate_left;(·(try dsimp only at hSw);go_simp;try with_reducible rfl);go_simp
       refine wtv (i:=9) (v:=Value.int .u8 pid) rfl (λwz9 hSw=>?_) ?_;(·(try dsimp only at hSw);go_simp;try with_reducible rfl);go_simp
       refine wtv (i:=10) (v:=?_) rfl (λwz9 hSw=>?_) ?_;rotate_left;(·(try dsimp only at hSw);go_simp;try with_reducible rfl);go_simp
       refine wtv (i:=11) (v:=Value.int .u8 id) rfl (λwz9 hSw=>?_) ?_;(·(try dsimp only at hSw);go_simp;try with_reducible rfl);go_simp
       refine wpAnyH_ready (rs:=[12]) (by kernel_rfl) (by simp) ?_;refine AllReadyH.cons rfl (fun K9 hK9=>?_) AllReadyH.nil
       go_simp
       go_wp2_with (go_at_call 142;refine (HFO.out _).mono ?_;rintro e w4 ⟨rfl,hk4⟩)
       refine hK9.out _ _ ?_ (fun hHeld=>?_)
       ·exact ⟨(hk4.cell (by simpa using hb3) (fun f=>f)).trans hHeld.1,(hk4.cell (by simpa using hz3) (fun f=>f)).trans hHeld.2⟩
       clear hK9 K9;refine wtk (i:=13) (v:=Value.bool true) rfl (Or.inl ⟨by rfl,?hhrb13⟩) (by assumption) ?rrrb13
       case hhrb13=>(intro wz9 hSw;(try dsimp only at hSw);go_simp;try with_reducible rfl)
       go_simp
       refine wtv (i:=14) (v:=Value.bool true) rfl (λwz9 hSw=>?_) ?_;(·(try dsimp only at hSw);go_simp;try with_reducible rfl);go_simp
       refine wpAnyH_done (by kernel_rfl) ?_ _
       go_wp2
       go_ret
       exact ⟨by rw[HE.out];rfl,hk9.drew.trans hk4⟩
      ·rw[hfo]at cO HE0
       have HFO:=Lib.hid cO;have HE:Hid ((chkGo k (prevId L (i+1+1)) (L.drop (i+1+1))&&(s2||!s1))=R):=Lib.hid (by rw[← HE0.out];rfl);clear cO hfo HE0
       go_wp2_with (first
        | (go_at_call 140;refine (HV.out _ hTr.out).mono ?_;rintro e w2 ⟨rfl,hk2⟩;have y0:=(hB0.kept hk2 (fun f=>f)).cell 0;simp at y0)
        | (go_at_call 141;refine (HF.out _).mono ?_;rintro e w3 ⟨rfl,hk3⟩))
       have hk9:=((hk.alloc (.cells #[.int .u8 id,.int .u32 pn,.string A,.string B] 95)).trans hk2).trans hk3;have y0:=((hB0.kept hk2 (fun f=>f)).kept hk3 (fun f=>f)).cell 0;simp at y0;have ob:=(((Kept.refl No wr).alloc (.cells #[.int .u8 id,.int .u32 pn,.string A,.string B] 95)).trans hk2).trans hk3;have hb3:b < w3.heap.size:=Nat.lt_of_lt_of_le hb ob.size;have hz3:wr.heap.size < w3.heap.size:=((hB0.kept hk2 (fun f=>f)).kept hk3 (fun f=>f)).lt;have o0:=(ob.cell (p:=⟨b,off+i * 4,none⟩) hb (fun f=>f)).trans o0;refine wp_region_held_drew (S:=(fun wx=>wx.cell? ⟨b,off+i * 4,none⟩=some (.int .u8 pid)∧wx.cell? ⟨wr.heap.size,0,none⟩=some (.int .u8 id))) (by kernel_rfl) ?_ (fun hHeld=>?_)
       ·exact ⟨by simpa using o0,by simpa using y0⟩
       refine wtv (i:=0) (v:=?_) rfl (λwz9 hSw=>?_) ?_;rotate_left;(·(try dsimp only at hSw);go_simp;try with_reducible rfl);go_simp
       refine wtv (i:=1) (v:=Value.bool true) rfl (λwz9 hSw=>?_) ?_;(·(try dsimp only at hSw);go_simp;try with_reducible rfl);go_simp
       refine wtv (i:=2) (v:=Value.bool true) rfl (λwz9 hSw=>?_) ?_;(·(try dsimp only at hSw);go_simp;try with_reducible rfl);go_simp
       refine wtv (i:=3) (v:=?_) rfl (λwz9 hSw=>?_) ?_;rotate_left;(·(try dsimp only at hSw);go_simp;try with_reducible rfl);go_simp
       refine wtv (i:=4) (v:=?_) rfl (λwz9 hSw=>?_) ?_;rotate_left;(·(try dsimp only at hSw);go_simp;try with_reducible rfl);go_simp
       refine wtv (i:=5) (v:=?_) rfl (λwz9 hSw=>?_) ?_;rotate_left;(·(try dsimp only at hSw);go_simp;try with_reducible rfl);go_simp
       refine wtv (i:=6) (v:=Value.int .i64 (i:Nat)) rfl (λwz9 hSw=>?_) ?_;(·(try dsimp only at hSw);go_simp;(try rw[hwi]);try with_reducible rfl);go_simp
       refine wtv (i:=7) (v:=?_) rfl (λwz9 hSw=>?_) ?_;rotate_left;(·(try dsimp only at hSw);go_simp;try with_reducible rfl);go_simp
       refine wtv (i:=8) (v:=?_) rfl (λwz9 hSw=>?_) ?_;rotate_left;(·(try dsimp only at hSw);go_simp;try with_reducible rfl);go_simp
       refine wtv (i:=9) (v:=Value.int .u8 pid) rfl (λwz9 hSw=>?_) ?_;(·(try dsimp only at hSw);go_simp;try with_reducible rfl);go_simp
       refine wtv (i:=10) (v:=?_) rfl (λwz9 hSw=>?_) ?_;rotate_left;(·(try dsimp only at hSw);go_simp;try with_reducible rfl);go_simp
       refine wtv (i:=11) (v:=Value.int .u8 id) rfl (λwz9 hSw=>?_) ?_;(·(try dsimp only at hSw);go_simp;try with_reducible rfl);go_simp
       refine wpAnyH_ready (rs:=[12]) (by kernel_rfl) (by simp) ?_;refine AllReadyH.cons rfl (fun K9 hK9=>?_) AllReadyH.nil
       go_simp
       go_wp2_with (go_at_call 142;refine (HFO.out _).mono ?_;rintro e w4 ⟨rfl,hk4⟩)
       refine hK9.out _ _ ?_ (fun hHeld=>?_)
       ·exact ⟨(hk4.cell (by simpa using hb3) (fun f=>f)).trans hHeld.1,(hk4.cell (by simpa using hz3) (fun f=>f)).trans hHeld.2⟩
       clear hK9 K9;refine wtk (i:=13) (v:=Value.bool false) rfl (Or.inl ⟨by rfl,?hhra13⟩) (by assumption) ?rrra13
       case hhra13=>(intro wz9 hSw;(try dsimp only at hSw);go_simp;try with_reducible rfl)
       go_simp
       refine wtv (i:=14) (v:=Value.bool false) rfl (λwz9 hSw=>?_) ?_;(·(try dsimp only at hSw);go_simp;try with_reducible rfl);go_simp
       refine wpAnyH_done (by kernel_rfl) ?_ _
       go_wp2
       go_roundw
       case rel=>exact ⟨i+1+1,by go_num,by omega,HE,hk9.drew.trans hk4⟩
       case measure=>simp[intOf];omega
  ·have HE:Hid (R=(s2||!s1)):=Lib.hid (by rw[← HG.out,List.drop_of_length_le (by omega)];rfl)
   have hrr:=Lib.hid (hr.keptNo hk);clear HG HR
   go_wp2_with fail
   go_at_call 39
   refine (HG1.out _ hrr.out).mono ?_;rintro e w2 ⟨rfl,hk2⟩
   go_wp2_with fail
   go_at_call 39
   refine (HG2.out _ (hrr.out.keptNo (hk2.alloc _))).mono ?_;rintro e w3 ⟨rfl,hk3⟩;rcases s2 with _|_
   ·go_wp2
    go_ret
    exact ⟨by rw[HE.out];simp,(((hk.trans hk2).alloc _).trans hk3).alloc _⟩
   ·go_wp2
    go_ret
    exact ⟨by rw[HE.out];simp,(((hk.trans hk2).alloc _).trans hk3).alloc _⟩
end Go.Proofs.YtofjhopecfmbcaaGreatDoor
