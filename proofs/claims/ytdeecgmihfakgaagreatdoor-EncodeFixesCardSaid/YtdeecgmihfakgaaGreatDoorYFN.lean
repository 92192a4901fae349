import Derived.Test.YtdeecgmihfakgaaGreatDoorYF3
import Derived.Test.YtdeecgmihfakgaaGreatDoorYF4
import Derived.Test.YtdeecgmihfakgaaGreatDoorYF2
namespace Go.Proofs.YtdeecgmihfakgaaGreatDoor
set_option maxHeartbeats 4000000
open Go.RowKit
set_option linter.unusedVariables false
set_option linter.unusedSimpArgs false
set_option maxRecDepth 100000
def qp:List Pr→Nat→Option Pr
 | [],_=>none
 | p :: t,i=>if p.id=i then some p else qp t i
def getV (o:Option Pr):Value:=.tuple #[(o.getD Pr.zero).val,.bool o.isSome]
def jKp (o:Option Pr) (w:World) (e:Ending) (w':World):Prop:=e=.returned (getV o)∧Kept No w w'
theorem j96 (a:Option Addr) (c:Nat) (L:List Pr) (x:Nat) (w:World) (hr:Row w a (PC L)) (hl:L.length≤100000) :
  Calls Tryz.prog 160 #[.slice a L.length c,.int .u8 x] w (jKp (qp L x) w):=by
 generalize hR:qp L x=R;have HR:=Lib.hid hR;clear hR
 go_enter Tryz.func160,Tryz.ntmps160
 go_wp2
 go_loopw [10] (λi wr=>∃ j:Nat,i=.int .i64 j∧j≤L.length∧Hid (qp (L.drop j) x=R)∧Blk wr w.heap.size 158 #[.int .u8 0,.int .u32 0,.string ⟨#[]⟩,.string ⟨#[]⟩]∧Kept No w wr) (λi _=>L.length - (intOf i).toNat)
 case atStart=>exact ⟨0,rfl,by omega,Lib.hid (by rw[List.drop_zero];exact HR.out),Blk.new w _ _,(Kept.refl No w).alloc _⟩
 case round =>
  obtain ⟨j,rfl,hj,HG,hZ,hk⟩:=hrel;have f0:=hZ.frozen 0;have f1:=hZ.frozen 1;have f2:=hZ.frozen 2;have f3:=hZ.frozen 3;have z0:=hZ.cell 0;have z1:=hZ.cell 1;have z2:=hZ.cell 2;have z3:=hZ.cell 3;simp at z0 z1 z2 z3;have hzl:=hZ.lt
  by_cases hlt:j<L.length
  ·obtain ⟨b,off,rfl,hb,q0,q1,q2,q3⟩:=(hr.keptNo hk).prop hlt
   have HD:=Lib.hid (j3u hlt);generalize L[j]=p at *;obtain ⟨id,pn,A,B⟩:=p;dsimp only at q0 q1 q2 q3
   by_cases he:id=x
   ·subst he
    have HE:Hid (R=some ⟨id,pn,A,B⟩):=Lib.hid (by rw[← HG.out,HD.out,qp];simp)
    go_wp2
    refine bodyPost_ret (v:=getV (some ⟨id,pn,A,B⟩)) (by simp[results,Tryz.results160,go_sem,z0,z1,z2,z3,hzl,Pr.val,getV]) rfl ⟨by rw[HE.out],?_⟩;exact (hk.set4 (Nat.le_refl _) _ _ _ _).alloc _
   ·have HE:Hid (qp (L.drop (j+1)) x=R):=Lib.hid (by rw[← HG.out,HD.out,qp];simp[he])
    have heI:((id:Int) == (x:Int))=false:=by simp;omega
    have heN:(id == x)=false:=by simpa using he
    go_wp2
    go_roundw
    case rel=>exact ⟨j+1,by go_num,by omega,HE,hZ.alloc _,hk.alloc _⟩
    case measure=>simp[intOf];omega
  ·have HE:Hid (R=none):=Lib.hid (by rw[← HG.out,List.drop_of_length_le (by omega)];rfl)
   go_wp2
   refine bodyPost_ret (v:=getV none) (by simp[results,Tryz.results160,go_sem,z0,z1,z2,z3,hzl,Pr.zero,Pr.val,getV]) rfl ⟨by rw[HE.out],?_⟩;exact hk.set4 (Nat.le_refl _) _ _ _ _
theorem j1f (a:Option Addr) (c:Nat) (L:List Pr) (x:Nat) (w:World) (hr:Row w a (PC L)) (hl:L.length≤100000) :
  Calls Tryz.prog 44 #[.slice a L.length c,.int .u8 x] w (jKp (qp L x) w):=by
 generalize hR:qp L x=R;have HR:=Lib.hid hR;clear hR
 go_enter Tryz.func44,Tryz.ntmps44
 go_wp2
 go_loopw [6] (λi wr=>∃ j:Nat,i=.int .i64 j∧j≤L.length∧Hid (qp (L.drop j) x=R)∧Blk wr w.heap.size 92 #[.int .u8 0,.int .u32 0,.string ⟨#[]⟩,.string ⟨#[]⟩]∧Kept No w wr) (λi _=>L.length - (intOf i).toNat)
 case atStart=>exact ⟨0,rfl,by omega,Lib.hid (by rw[List.drop_zero];exact HR.out),Blk.new w _ _,(Kept.refl No w).alloc _⟩
 case round =>
  obtain ⟨j,rfl,hj,HG,hZ,hk⟩:=hrel;have f0:=hZ.frozen 0;have f1:=hZ.frozen 1;have f2:=hZ.frozen 2;have f3:=hZ.frozen 3;have z0:=hZ.cell 0;have z1:=hZ.cell 1;have z2:=hZ.cell 2;have z3:=hZ.cell 3;simp at z0 z1 z2 z3;have hzl:=hZ.lt
  by_cases hlt:j<L.length
  ·obtain ⟨b,off,rfl,hb,q0,q1,q2,q3⟩:=(hr.keptNo hk).prop hlt
   have HD:=Lib.hid (j3u hlt);generalize L[j]=p at *;obtain ⟨id,pn,A,B⟩:=p;dsimp only at q0 q1 q2 q3
   by_cases he:id=x
   ·subst he
    have HE:Hid (R=some ⟨id,pn,A,B⟩):=Lib.hid (by rw[← HG.out,HD.out,qp];simp)
    go_wp2
    refine bodyPost_ret (v:=getV (some ⟨id,pn,A,B⟩)) (by simp[results,Tryz.results44,go_sem,z0,z1,z2,z3,hzl,Pr.val,getV]) rfl ⟨by rw[HE.out],?_⟩;exact hk.set4 (Nat.le_refl _) _ _ _ _
   ·have HE:Hid (qp (L.drop (j+1)) x=R):=Lib.hid (by rw[← HG.out,HD.out,qp];simp[he])
    have heI:((id:Int) == (x:Int))=false:=by simp;omega
    have heN:(id == x)=false:=by simpa using he
    go_wp2
    go_roundw
    case rel=>exact ⟨j+1,by go_num,by omega,HE,hZ,hk⟩
    case measure=>simp[intOf];omega
  ·have HE:Hid (R=none):=Lib.hid (by rw[← HG.out,List.drop_of_length_le (by omega)];rfl)
   go_wp2
   refine bodyPost_ret (v:=getV none) (by simp[results,Tryz.results44,go_sem,z0,z1,z2,z3,hzl,Pr.zero,Pr.val,getV]) rfl ⟨by rw[HE.out],?_⟩;exact hk.set4 (Nat.le_refl _) _ _ _ _
def qo (k:Int) (x y:Nat):Bool:=decide (x<y)||(decide (x=y)&&xF y k)
theorem jAf (k:Int) (x y:Nat) (w:World) (h8:x<256) (h9:y<256):Calls Tryz.prog 182 #[.int .i64 k,.int .u8 x,.int .u8 y] w λe w'=>e=.returned (.bool (qo k x y))∧Kept No w w':=by
 have HO:=Lib.hid (λwx=>jEp y k wx h9);rcases Nat.lt_trichotomy x y with h|h|h
 ·have hR:qo k x y=true:=by simp[qo,h]
  rw[hR];have hI:((x:Int)<(y:Int)):=by omega
  go_enter Tryz.func182,Tryz.ntmps182
  go_wp2
  go_ret
  exact ⟨rfl,Kept.refl _ _⟩
 ·subst h
  have hR:qo k x x=xF x k:=by simp[qo]
  rw[hR];generalize xF x k=o at *
  go_enter Tryz.func182,Tryz.ntmps182
  go_wp2_with (go_at_call 199;refine (HO.out _).mono ?_;rintro e w1 ⟨rfl,hk⟩)
  go_ret
  exact ⟨rfl,hk⟩
 ·have hR:qo k x y=false:=by simp[qo];omega
  rw[hR];have h1:decide ((x:Int)<(y:Int))=false:=by simp;omega
  have h2:((x:Int) == (y:Int))=false:=by simp;omega
  have h3:(x == y)=false:=by simp;omega
  go_enter Tryz.func182,Tryz.ntmps182
  go_wp2
  go_ret
  refine ⟨?_,Kept.refl _ _⟩;simp;omega
def jEd (k:Int):Option Nat→Nat→Bool
 | none,_=>true
 | some x,y=>qo k x y
def vx (k:Int):Option Nat→List Pr→Bool
 | _,[]=>true
 | q,p :: t=>xf p.id p.n p.a p.b&&(xd p.id k&&(jEd k q p.id&&vx k (some p.id) t))
def vw (L:List Pr):Nat→Option Nat
 | 0=>none
 | i+1=>(L[i]?).map Pr.id
def qY (k:Int) (L:List Pr):Bool :=
 decide (L.length≤1024)&&(vx k none L&&((qp L 21).isSome||!(qp L 22).isSome))
theorem jDa (a:Option Addr) (c:Nat) (L:List Pr) (x:Nat) (xi:Int) (hx:xi=x) (hl:L.length≤100000):∃ i n A B,∃ s,s=(qp L x).isSome∧∀ w,Row w a (PC L) →
  Calls Tryz.prog 160 #[.slice a L.length c,.int .u8 xi] w (λe w'=>e=.returned (.tuple #[.agg #[.int .u8 (i:Nat),.int .u32 (n:Nat),.string A,.string B],.bool s])∧Kept No w w') :=
 by
 subst hx;exact ⟨_,_,_,_,_,rfl,λw hr=>(j96 a c L x w hr hl).mono λe w' h=>⟨h.1,h.2⟩⟩
theorem j7u (k:Int) (a:Option Addr) (c:Nat) (L:List Pr) (w:World) (hr:Row w a (PC L)) (hl:L.length≤100000) (hw:∀ p∈L,p.wf') (hT:Tabs w) :
  Calls Tryz.prog 154 #[.int .i64 k,.slice a L.length c] w λe w'=>e=.returned (.bool (qY k L))∧Kept No w w':=by
 by_cases hbig:L.length≤1024
 case neg =>
  have hR:qY k L=false:=by simp[qY,hbig]
  rw[hR];have hbI:((1024:Int)<(L.length:Int)):=by omega
  go_enter Tryz.func154,Tryz.ntmps154
  go_wp2
  go_ret
  exact ⟨rfl,Kept.refl _ _⟩
 obtain ⟨i1,n1,a1,b1,s1,hs1,c1⟩:=jDa a c L 22 22 rfl hl;obtain ⟨i2,n2,a2,b2,s2,hs2,c2⟩:=jDa a c L 21 21 rfl hl;have hR:qY k L=(vx k none L&&(s2||!s1)):=by rw[hs1,hs2];simp[qY,hbig]
 rw[hR];clear hs1 hs2 hR;have HG1:=Lib.hid c1;have HG2:=Lib.hid c2;have HW:=Lib.hid hw;generalize hR:(vx k none L&&(s2||!s1))=R;have HR:=Lib.hid hR;clear hw hR c1 c2;have hbI:decide ((1024:Int)<(L.length:Int))=false:=by simp;omega
 go_enter Tryz.func154,Tryz.ntmps154
 go_wp2
 go_loopw [16] (λi wr=>∃ j:Nat,i=.int .i64 j∧j≤L.length∧Hid ((vx k (vw L j) (L.drop j)&&(s2||!s1))=R)∧Kept No w wr) (λi _=>L.length - (intOf i).toNat)
 case atStart=>exact ⟨0,rfl,by omega,Lib.hid (by rw[List.drop_zero];exact HR.out),Kept.refl No w⟩
 case round =>
  obtain ⟨j,rfl,hj,HG,hk⟩:=hrel
  by_cases hlt:j<L.length
  ·obtain ⟨b,off,rfl,hb,q0,q1,q2,q3⟩:=(hr.keptNo hk).prop hlt
   have HD:=Lib.hid (j3u hlt);have HP1:Hid (vw L (j+1)=some L[j].id):=Lib.hid (by simp[vw,List.getElem?_eq_getElem hlt]);have hp:=HW.out _ (List.getElem_mem hlt);generalize hLj:L[j]=p at *;clear hLj;obtain ⟨id,pn,A,B⟩:=p;obtain ⟨p1,p2,p3,p4⟩:=hp;dsimp only at q0 q1 q2 q3 p1 p2 p3 p4;have hB0:=Lib.hid (Blk.new wr 158 #[.int .u8 id,.int .u32 pn,.string A,.string B]);have hTr:=Lib.hid ((hT.kept hk).kept ((Kept.refl No wr).alloc (.cells #[.int .u8 id,.int .u32 pn,.string A,.string B] 158)));have cV:=λwx hT=>jCc id pn A B wx hT p1 p2 (by omega) (by omega)
   have cF:=λwx=>jD8 id k wx p1
   have HG2:Hid (((xf id pn A B&&(xd id k&&(jEd k (vw L j) id&&vx k (some id) (L.drop (j+1)))))&&(s2||!s1))=R):=Lib.hid (by rw[← HG.out,HD.out,vx]);rcases hv:xf id pn A B with _|_
   ·rw[hv]at cV HG2
    have HV:=Lib.hid cV;have HE:Hid (R=false):=Lib.hid (by rw[← HG2.out];rfl);clear cV hv cF HG HG2 HD
    go_wp2_with (go_at_call 180;refine (HV.out _ hTr.out).mono ?_;rintro e w2 ⟨rfl,hk2⟩)
    go_ret
    exact ⟨by rw[HE.out];rfl,(hk.alloc _).trans hk2⟩
   ·rw[hv]at cV HG2
    have HV:=Lib.hid cV;clear cV hv HG HD;rcases hf:xd id k with _|_
    ·rw[hf]at cF HG2
     have HF:=Lib.hid cF;have HE:Hid (R=false):=Lib.hid (by rw[← HG2.out];rfl);clear cF hf HG2
     go_wp2_with (first
      | (go_at_call 180;refine (HV.out _ hTr.out).mono ?_;rintro e w2 ⟨rfl,hk2⟩;have y0:=(hB0.out.kept hk2 (λf=>f)).cell 0;simp at y0)
      | (go_at_call 181;refine (HF.out _).mono ?_;rintro e w3 ⟨rfl,hk3⟩))
     go_ret
     exact ⟨by rw[HE.out];rfl,((hk.alloc _).trans hk2).trans hk3⟩
    ·rw[hf]at cF HG2
     have HF:=Lib.hid cF;clear cF hf;have hB0:=hB0.out;rcases j with _|i
     ·have HE:Hid ((vx k (vw L 1) (L.drop 1)&&(s2||!s1))=R):=Lib.hid (by rw[← HG2.out,HP1.out];rfl)
      clear HG2 HP1;simp only[Nat.zero_mul,Nat.add_zero]at q0 q1 q2 q3
      go_wp2_with (first
       | (go_at_call 180;refine (HV.out _ hTr.out).mono ?_;rintro e w2 ⟨rfl,hk2⟩;have y0:=(hB0.kept hk2 (λf=>f)).cell 0;simp at y0)
       | (go_at_call 181;refine (HF.out _).mono ?_;rintro e w3 ⟨rfl,hk3⟩))
      refine wp_region_held_drew (S:=(λ_=>True)) (by kernel_rfl) ?_ (λhHeld=>?_)
      ·exact trivial
      refine wtk (i:=0) (v:=?vvrc0) rfl (Or.inl ⟨by rfl,?hhrc0⟩) (by assumption) ?rrrc0
      case hhrc0=>(intro wz9 hSw;(try dsimp only at hSw);go_simp;try with_reducible rfl)
      go_simp
      refine wtk (i:=1) (v:=Value.bool false) rfl (Or.inl ⟨by rfl,?hhrc1⟩) (by assumption) ?rrrc1
      case hhrc1=>(intro wz9 hSw;(try dsimp only at hSw);go_simp;try with_reducible rfl)
      go_simp
      refine wtk (i:=2) (v:=Value.bool false) rfl (Or.inl ⟨by rfl,?hhrc2⟩) (by assumption) ?rrrc2
      case hhrc2=>(intro wz9 hSw;(try dsimp only at hSw);go_simp;try with_reducible rfl)
      go_simp
      refine wtk (i:=3) (v:=undef) rfl (Or.inr ⟨by rfl,rfl⟩) (by assumption) ?_
      go_simp
      refine wtk (i:=4) (v:=undef) rfl (Or.inr ⟨by rfl,rfl⟩) (by assumption) ?_
      go_simp
      refine wtk (i:=5) (v:=undef) rfl (Or.inr ⟨by rfl,rfl⟩) (by assumption) ?_
      go_simp
      refine wtk (i:=6) (v:=undef) rfl (Or.inr ⟨by rfl,rfl⟩) (by assumption) ?_
      go_simp
      refine wtk (i:=7) (v:=undef) rfl (Or.inr ⟨by rfl,rfl⟩) (by assumption) ?_
      go_simp
      refine wtk (i:=8) (v:=undef) rfl (Or.inr ⟨by rfl,rfl⟩) (by assumption) ?_
      go_simp
      refine wtk (i:=9) (v:=undef) rfl (Or.inr ⟨by rfl,rfl⟩) (by assumption) ?_
      go_simp
      refine wtk (i:=10) (v:=undef) rfl (Or.inr ⟨by rfl,rfl⟩) (by assumption) ?_
      go_simp
      refine wtk (i:=11) (v:=undef) rfl (Or.inr ⟨by rfl,rfl⟩) (by assumption) ?_
      go_simp
      refine wtk (i:=12) (v:=undef) rfl (Or.inr ⟨by rfl,rfl⟩) (by assumption) ?_
      go_simp
      refine wtk (i:=13) (v:=undef) rfl (Or.inr ⟨by rfl,rfl⟩) (by assumption) ?_
      go_simp
      refine wtk (i:=14) (v:=Value.bool false) rfl (Or.inl ⟨by rfl,?hhrc14⟩) (by assumption) ?rrrc14
      case hhrc14=>(intro wz9 hSw;(try dsimp only at hSw);go_simp;try with_reducible rfl)
      go_simp
      refine wpAnyH_done (by kernel_rfl) ?_ _
      go_wp2
      go_roundw
      case rel=>exact ⟨1,by go_num,by omega,HE,(((hk.alloc _).trans hk2).trans hk3).drew⟩
      case measure=>simp[intOf];omega
     ·obtain ⟨b9,of9,he9,hb9,o0,_,_,_⟩:=(hr.keptNo hk).prop (k:=i) (by omega)
      injection he9 with he9;injection he9 with e9 e8;subst e9 e8;have hil:i<L.length:=by omega
      have hwi:IntKind.i64.wrap (i:Int)=(i:Int):=by
       have h9:(i:Int)<1000000:=by omega
       rw[IntKind.wrap_i64];omega
      have hpv:vw L (i+1)=some L[i].id:=by simp[vw,List.getElem?_eq_getElem (show i<L.length by omega)]
      rw[hpv]at HG2;have h8:=(HW.out _ (List.getElem_mem (show i<L.length by omega))).hid;generalize L[i].id=pid at *;clear hpv;have HE0:Hid ((qo k pid id&&(vx k (vw L (i+1+1)) (L.drop (i+1+1))&&(s2||!s1)))=R):=Lib.hid (by rw[← HG2.out,HP1.out];simp[jEd,Bool.and_assoc]);have cO:=λwx=>jAf k pid id wx h8 p1
      clear HG2 HP1;rcases hfo:qo k pid id with _|_
      ·rw[hfo]at cO HE0
       have HFO:=Lib.hid cO;have HE:Hid (R=false):=Lib.hid (by rw[← HE0.out];rfl);clear cO hfo HE0
       go_wp2_with (first
        | (go_at_call 180;refine (HV.out _ hTr.out).mono ?_;rintro e w2 ⟨rfl,hk2⟩;have y0:=(hB0.kept hk2 (λf=>f)).cell 0;simp at y0)
        | (go_at_call 181;refine (HF.out _).mono ?_;rintro e w3 ⟨rfl,hk3⟩))
       have hk9:=((hk.alloc (.cells #[.int .u8 id,.int .u32 pn,.string A,.string B] 158)).trans hk2).trans hk3;have y0:=((hB0.kept hk2 (λf=>f)).kept hk3 (λf=>f)).cell 0;simp at y0;have ob:=(((Kept.refl No wr).alloc (.cells #[.int .u8 id,.int .u32 pn,.string A,.string B] 158)).trans hk2).trans hk3;have hb3:b<w3.heap.size:=Nat.lt_of_lt_of_le hb ob.size;have hz3:wr.heap.size<w3.heap.size:=((hB0.kept hk2 (λf=>f)).kept hk3 (λf=>f)).lt;have o0:=(ob.cell (p:=⟨b,off+i*4,none⟩) hb (λf=>f)).trans o0;refine wp_region_held_drew (S:=(λwx=>wx.cell? ⟨b,off+i*4,none⟩=some (.int .u8 pid)∧wx.cell? ⟨wr.heap.size,0,none⟩=some (.int .u8 id))) (by kernel_rfl) ?_ (λhHeld=>?_)
       ·exact ⟨by simpa using o0,by simpa using y0⟩
       refine wtk (i:=0) (v:=?vvrb0) rfl (Or.inl ⟨by rfl,?hhrb0⟩) (by assumption) ?rrrb0
       case hhrb0=>(intro wz9 hSw;(try dsimp only at hSw);go_simp;try with_reducible rfl)
       go_simp
       refine wtk (i:=1) (v:=Value.bool true) rfl (Or.inl ⟨by rfl,?hhrb1⟩) (by assumption) ?rrrb1
       case hhrb1=>(intro wz9 hSw;(try dsimp only at hSw);go_simp;try with_reducible rfl)
       go_simp
       refine wtk (i:=2) (v:=Value.bool true) rfl (Or.inl ⟨by rfl,?hhrb2⟩) (by assumption) ?rrrb2
       case hhrb2=>(intro wz9 hSw;(try dsimp only at hSw);go_simp;try with_reducible rfl)
       go_simp
       refine wtk (i:=3) (v:=?vvrb3) rfl (Or.inl ⟨by rfl,?hhrb3⟩) (by assumption) ?rrrb3
       case hhrb3=>(intro wz9 hSw;(try dsimp only at hSw);go_simp;try with_reducible rfl)
       go_simp
       refine wtk (i:=4) (v:=?vvrb4) rfl (Or.inl ⟨by rfl,?hhrb4⟩) (by assumption) ?rrrb4
       case hhrb4=>(intro wz9 hSw;(try dsimp only at hSw);go_simp;try with_reducible rfl)
       go_simp
       refine wtk (i:=5) (v:=?vvrb5) rfl (Or.inl ⟨by rfl,?hhrb5⟩) (by assumption) ?rrrb5
       case hhrb5=>(intro wz9 hSw;(try dsimp only at hSw);go_simp;try with_reducible rfl)
       go_simp
       refine wtk (i:=6) (v:=Value.int .i64 (i:Nat)) rfl (Or.inl ⟨by rfl,?hhrb6⟩) (by assumption) ?rrrb6
       case hhrb6=>(intro wz9 hSw;(try dsimp only at hSw);go_simp;(try rw[hwi]);try with_reducible rfl)
       go_simp
       refine wtk (i:=7) (v:=?vvrb7) rfl (Or.inl ⟨by rfl,?hhrb7⟩) (by assumption) ?rrrb7
       case hhrb7=>(intro wz9 hSw;(try dsimp only at hSw);go_simp;try with_reducible rfl)
       go_simp
       refine wtk (i:=8) (v:=?vvrb8) rfl (Or.inl ⟨by rfl,?hhrb8⟩) (by assumption) ?rrrb8
       case hhrb8=>(intro wz9 hSw;(try dsimp only at hSw);go_simp;try with_reducible rfl)
       go_simp
       refine wtk (i:=9) (v:=Value.int .u8 pid) rfl (Or.inl ⟨by rfl,?hhrb9⟩) (by assumption) ?rrrb9
       case hhrb9=>(intro wz9 hSw;(try dsimp only at hSw);go_simp;try with_reducible rfl)
       go_simp
       refine wtk (i:=10) (v:=?vvrb10) rfl (Or.inl ⟨by rfl,?hhrb10⟩) (by assumption) ?rrrb10
       case hhrb10=>(intro wz9 hSw;(try dsimp only at hSw);go_simp;try with_reducible rfl)
       go_simp
       refine wtk (i:=11) (v:=Value.int .u8 id) rfl (Or.inl ⟨by rfl,?hhrb11⟩) (by assumption) ?rrrb11
       case hhrb11=>(intro wz9 hSw;(try dsimp only at hSw);go_simp;try with_reducible rfl)
       go_simp
       refine wpAnyH_ready (rs:=[12]) (by kernel_rfl) (by simp) ?_;refine AllReadyH.cons rfl (λK9 hK9=>?_) AllReadyH.nil
       go_simp
       go_wp2_with (go_at_call 182;refine (HFO.out _).mono ?_;rintro e w4 ⟨rfl,hk4⟩)
       refine hK9.out _ _ ?_ (λhHeld=>?_)
       ·exact ⟨(hk4.cell (by simpa using hb3) (λf=>f)).trans hHeld.1,(hk4.cell (by simpa using hz3) (λf=>f)).trans hHeld.2⟩
       clear hK9 K9;refine wtk (i:=13) (v:=Value.bool true) rfl (Or.inl ⟨by rfl,?hhrb13⟩) (by assumption) ?rrrb13
       case hhrb13=>(intro wz9 hSw;(try dsimp only at hSw);go_simp;try with_reducible rfl)
       go_simp
       refine wtk (i:=14) (v:=Value.bool true) rfl (Or.inl ⟨by rfl,?hhrb14⟩) (by assumption) ?rrrb14
       case hhrb14=>(intro wz9 hSw;(try dsimp only at hSw);go_simp;try with_reducible rfl)
       go_simp
       refine wpAnyH_done (by kernel_rfl) ?_ _
       go_wp2
       go_ret
       exact ⟨by rw[HE.out];rfl,hk9.drew.trans hk4⟩
      ·rw[hfo]at cO HE0
       have HFO:=Lib.hid cO;have HE:Hid ((vx k (vw L (i+1+1)) (L.drop (i+1+1))&&(s2||!s1))=R):=Lib.hid (by rw[← HE0.out];rfl);clear cO hfo HE0
       go_wp2_with (first
        | (go_at_call 180;refine (HV.out _ hTr.out).mono ?_;rintro e w2 ⟨rfl,hk2⟩;have y0:=(hB0.kept hk2 (λf=>f)).cell 0;simp at y0)
        | (go_at_call 181;refine (HF.out _).mono ?_;rintro e w3 ⟨rfl,hk3⟩))
       have hk9:=((hk.alloc (.cells #[.int .u8 id,.int .u32 pn,.string A,.string B] 158)).trans hk2).trans hk3;have y0:=((hB0.kept hk2 (λf=>f)).kept hk3 (λf=>f)).cell 0;simp at y0;have ob:=(((Kept.refl No wr).alloc (.cells #[.int .u8 id,.int .u32 pn,.string A,.string B] 158)).trans hk2).trans hk3;have hb3:b<w3.heap.size:=Nat.lt_of_lt_of_le hb ob.size;have hz3:wr.heap.size<w3.heap.size:=((hB0.kept hk2 (λf=>f)).kept hk3 (λf=>f)).lt;have o0:=(ob.cell (p:=⟨b,off+i*4,none⟩) hb (λf=>f)).trans o0;refine wp_region_held_drew (S:=(λwx=>wx.cell? ⟨b,off+i*4,none⟩=some (.int .u8 pid)∧wx.cell? ⟨wr.heap.size,0,none⟩=some (.int .u8 id))) (by kernel_rfl) ?_ (λhHeld=>?_)
       ·exact ⟨by simpa using o0,by simpa using y0⟩
       refine wtk (i:=0) (v:=?vvra0) rfl (Or.inl ⟨by rfl,?hhra0⟩) (by assumption) ?rrra0
       case hhra0=>(intro wz9 hSw;(try dsimp only at hSw);go_simp;try with_reducible rfl)
       go_simp
       refine wtk (i:=1) (v:=Value.bool true) rfl (Or.inl ⟨by rfl,?hhra1⟩) (by assumption) ?rrra1
       case hhra1=>(intro wz9 hSw;(try dsimp only at hSw);go_simp;try with_reducible rfl)
       go_simp
       refine wtk (i:=2) (v:=Value.bool true) rfl (Or.inl ⟨by rfl,?hhra2⟩) (by assumption) ?rrra2
       case hhra2=>(intro wz9 hSw;(try dsimp only at hSw);go_simp;try with_reducible rfl)
       go_simp
       refine wtk (i:=3) (v:=?vvra3) rfl (Or.inl ⟨by rfl,?hhra3⟩) (by assumption) ?rrra3
       case hhra3=>(intro wz9 hSw;(try dsimp only at hSw);go_simp;try with_reducible rfl)
       go_simp
       refine wtk (i:=4) (v:=?vvra4) rfl (Or.inl ⟨by rfl,?hhra4⟩) (by assumption) ?rrra4
       case hhra4=>(intro wz9 hSw;(try dsimp only at hSw);go_simp;try with_reducible rfl)
       go_simp
       refine wtk (i:=5) (v:=?vvra5) rfl (Or.inl ⟨by rfl,?hhra5⟩) (by assumption) ?rrra5
       case hhra5=>(intro wz9 hSw;(try dsimp only at hSw);go_simp;try with_reducible rfl)
       go_simp
       refine wtk (i:=6) (v:=Value.int .i64 (i:Nat)) rfl (Or.inl ⟨by rfl,?hhra6⟩) (by assumption) ?rrra6
       case hhra6=>(intro wz9 hSw;(try dsimp only at hSw);go_simp;(try rw[hwi]);try with_reducible rfl)
       go_simp
       refine wtk (i:=7) (v:=?vvra7) rfl (Or.inl ⟨by rfl,?hhra7⟩) (by assumption) ?rrra7
       case hhra7=>(intro wz9 hSw;(try dsimp only at hSw);go_simp;try with_reducible rfl)
       go_simp
       refine wtk (i:=8) (v:=?vvra8) rfl (Or.inl ⟨by rfl,?hhra8⟩) (by assumption) ?rrra8
       case hhra8=>(intro wz9 hSw;(try dsimp only at hSw);go_simp;try with_reducible rfl)
       go_simp
       refine wtk (i:=9) (v:=Value.int .u8 pid) rfl (Or.inl ⟨by rfl,?hhra9⟩) (by assumption) ?rrra9
       case hhra9=>(intro wz9 hSw;(try dsimp only at hSw);go_simp;try with_reducible rfl)
       go_simp
       refine wtk (i:=10) (v:=?vvra10) rfl (Or.inl ⟨by rfl,?hhra10⟩) (by assumption) ?rrra10
       case hhra10=>(intro wz9 hSw;(try dsimp only at hSw);go_simp;try with_reducible rfl)
       go_simp
       refine wtk (i:=11) (v:=Value.int .u8 id) rfl (Or.inl ⟨by rfl,?hhra11⟩) (by assumption) ?rrra11
       case hhra11=>(intro wz9 hSw;(try dsimp only at hSw);go_simp;try with_reducible rfl)
       go_simp
       refine wpAnyH_ready (rs:=[12]) (by kernel_rfl) (by simp) ?_;refine AllReadyH.cons rfl (λK9 hK9=>?_) AllReadyH.nil
       go_simp
       go_wp2_with (go_at_call 182;refine (HFO.out _).mono ?_;rintro e w4 ⟨rfl,hk4⟩)
       refine hK9.out _ _ ?_ (λhHeld=>?_)
       ·exact ⟨(hk4.cell (by simpa using hb3) (λf=>f)).trans hHeld.1,(hk4.cell (by simpa using hz3) (λf=>f)).trans hHeld.2⟩
       clear hK9 K9;refine wtk (i:=13) (v:=Value.bool false) rfl (Or.inl ⟨by rfl,?hhra13⟩) (by assumption) ?rrra13
       case hhra13=>(intro wz9 hSw;(try dsimp only at hSw);go_simp;try with_reducible rfl)
       go_simp
       refine wtk (i:=14) (v:=Value.bool false) rfl (Or.inl ⟨by rfl,?hhra14⟩) (by assumption) ?rrra14
       case hhra14=>(intro wz9 hSw;(try dsimp only at hSw);go_simp;try with_reducible rfl)
       go_simp
       refine wpAnyH_done (by kernel_rfl) ?_ _
       go_wp2
       go_roundw
       case rel=>exact ⟨i+1+1,by go_num,by omega,HE,hk9.drew.trans hk4⟩
       case measure=>simp[intOf];omega
  ·have HE:Hid (R=(s2||!s1)):=Lib.hid (by rw[← HG.out,List.drop_of_length_le (by omega)];rfl)
   have hrr:=Lib.hid (hr.keptNo hk);clear HG HR
   go_wp2_with fail
   go_at_call 160
   refine (HG1.out _ hrr.out).mono ?_;rintro e w2 ⟨rfl,hk2⟩
   go_wp2_with fail
   go_at_call 160
   refine (HG2.out _ (hrr.out.keptNo (hk2.alloc _))).mono ?_;rintro e w3 ⟨rfl,hk3⟩;rcases s2 with _|_
   ·go_wp2
    go_ret
    exact ⟨by rw[HE.out];simp,(((hk.trans hk2).alloc _).trans hk3).alloc _⟩
   ·go_wp2
    go_ret
    exact ⟨by rw[HE.out];simp,(((hk.trans hk2).alloc _).trans hk3).alloc _⟩
theorem jB2 (a:Option Addr) (c:Nat) (L:List Pr) (x:Nat) (xi:Int) (hx:xi=x) (hl:L.length≤100000):∃ i n A B,∃ s,s=(qp L x).isSome∧∀ w,Row w a (PC L) →
  Calls Tryz.prog 44 #[.slice a L.length c,.int .u8 xi] w (λe w'=>e=.returned (.tuple #[.agg #[.int .u8 (i:Nat),.int .u32 (n:Nat),.string A,.string B],.bool s])∧Kept No w w') :=
 by
 subst hx;exact ⟨_,_,_,_,_,rfl,λw hr=>(j1f a c L x w hr hl).mono λe w' h=>⟨h.1,h.2⟩⟩
theorem j78 (k:Int) (a:Option Addr) (c:Nat) (L:List Pr) (w:World) (hr:Row w a (PC L)) (hl:L.length≤100000) (hw:∀ p∈L,p.wf') :
  Calls Tryz.prog 108 #[.int .i64 k,.slice a L.length c] w λe w'=>e=.returned (.bool (qY k L))∧Kept No w w':=by
 by_cases hbig:L.length≤1024
 case neg =>
  have hR:qY k L=false:=by simp[qY,hbig]
  rw[hR];have hbI:((1024:Int)<(L.length:Int)):=by omega
  go_enter Tryz.func108,Tryz.ntmps108
  go_wp2
  go_ret
  exact ⟨rfl,Kept.refl _ _⟩
 obtain ⟨i1,n1,a1,b1,s1,hs1,c1⟩:=jB2 a c L 22 22 rfl hl;obtain ⟨i2,n2,a2,b2,s2,hs2,c2⟩:=jB2 a c L 21 21 rfl hl;have hR:qY k L=(vx k none L&&(s2||!s1)):=by rw[hs1,hs2];simp[qY,hbig]
 rw[hR];clear hs1 hs2 hR;have HG1:=Lib.hid c1;have HG2:=Lib.hid c2;have HW:=Lib.hid hw;generalize hR:(vx k none L&&(s2||!s1))=R;have HR:=Lib.hid hR;clear hw hR c1 c2;have hbI:decide ((1024:Int)<(L.length:Int))=false:=by simp;omega
 go_enter Tryz.func108,Tryz.ntmps108
 go_wp2
 go_loopw [5] (λi wr=>∃ j:Nat,i=.int .i64 j∧j≤L.length∧Hid ((vx k (vw L j) (L.drop j)&&(s2||!s1))=R)∧Kept No w wr) (λi _=>L.length - (intOf i).toNat)
 case atStart=>exact ⟨0,rfl,by omega,Lib.hid (by rw[List.drop_zero];exact HR.out),Kept.refl No w⟩
 case round =>
  obtain ⟨j,rfl,hj,HG,hk⟩:=hrel
  by_cases hlt:j<L.length
  ·obtain ⟨b,off,rfl,hb,q0,q1,q2,q3⟩:=(hr.keptNo hk).prop hlt
   have HD:=Lib.hid (j3u hlt);have HP1:Hid (vw L (j+1)=some L[j].id):=Lib.hid (by simp[vw,List.getElem?_eq_getElem hlt]);have hp:=HW.out _ (List.getElem_mem hlt);generalize hLj:L[j]=p at *;clear hLj;obtain ⟨id,pn,A,B⟩:=p;obtain ⟨p1,p2,p3,p4⟩:=hp;dsimp only at q0 q1 q2 q3 p1 p2 p3 p4;have cV:=λwx=>jCj id pn A B wx p1 p2 (by omega) (by omega)
   have cF:=λwx=>xl id k wx p1
   have HG2:Hid (((xf id pn A B&&(xd id k&&(jEd k (vw L j) id&&vx k (some id) (L.drop (j+1)))))&&(s2||!s1))=R):=Lib.hid (by rw[← HG.out,HD.out,vx]);rcases hv:xf id pn A B with _|_
   ·rw[hv]at cV HG2
    have HV:=Lib.hid cV;have HE:Hid (R=false):=Lib.hid (by rw[← HG2.out];rfl);clear cV hv cF HG HG2 HD
    go_wp2_with (go_at_call 146;refine (HV.out _).mono ?_;rintro e w2 ⟨rfl,hk2⟩)
    go_ret
    exact ⟨by rw[HE.out];rfl,hk.trans hk2⟩
   ·rw[hv]at cV HG2
    have HV:=Lib.hid cV;clear cV hv HG HD;rcases hf:xd id k with _|_
    ·rw[hf]at cF HG2
     have HF:=Lib.hid cF;have HE:Hid (R=false):=Lib.hid (by rw[← HG2.out];rfl);clear cF hf HG2
     go_wp2_with (first
      | (go_at_call 146;refine (HV.out _).mono ?_;rintro e w2 ⟨rfl,hk2⟩;have y0:=(hk2.cell (p:=⟨b,off+j*4,none⟩) hb (λf=>f)).trans q0)
      | (go_at_call 138;refine (HF.out _).mono ?_;rintro e w3 ⟨rfl,hk3⟩))
     go_ret
     exact ⟨by rw[HE.out];rfl,(hk.trans hk2).trans hk3⟩
    ·rw[hf]at cF HG2
     have HF:=Lib.hid cF;clear cF hf;rcases j with _|i
     ·have HE:Hid ((vx k (vw L 1) (L.drop 1)&&(s2||!s1))=R):=Lib.hid (by rw[← HG2.out,HP1.out];rfl)
      clear HG2 HP1;simp only[Nat.zero_mul,Nat.add_zero]at q0 q1 q2 q3
      go_wp2_with (first
       | (go_at_call 146;refine (HV.out _).mono ?_;rintro e w2 ⟨rfl,hk2⟩;have y0:=(hk2.cell hb (λf=>f)).trans q0)
       | (go_at_call 138;refine (HF.out _).mono ?_;rintro e w3 ⟨rfl,hk3⟩))
      refine wp_region_held_drew (S:=(λ_=>True)) (by kernel_rfl) ?_ (λhHeld=>?_)
      ·exact trivial
      refine wtk (i:=0) (v:=?vvre0) rfl (Or.inl ⟨by rfl,?hhre0⟩) (by assumption) ?rrre0
      case hhre0=>(intro wz9 hSw;(try dsimp only at hSw);go_simp;try with_reducible rfl)
      go_simp
      refine wtk (i:=1) (v:=Value.bool false) rfl (Or.inl ⟨by rfl,?hhre1⟩) (by assumption) ?rrre1
      case hhre1=>(intro wz9 hSw;(try dsimp only at hSw);go_simp;try with_reducible rfl)
      go_simp
      refine wtk (i:=2) (v:=Value.bool false) rfl (Or.inl ⟨by rfl,?hhre2⟩) (by assumption) ?rrre2
      case hhre2=>(intro wz9 hSw;(try dsimp only at hSw);go_simp;try with_reducible rfl)
      go_simp
      refine wtk (i:=3) (v:=undef) rfl (Or.inr ⟨by rfl,rfl⟩) (by assumption) ?_
      go_simp
      refine wtk (i:=4) (v:=undef) rfl (Or.inr ⟨by rfl,rfl⟩) (by assumption) ?_
      go_simp
      refine wtk (i:=5) (v:=undef) rfl (Or.inr ⟨by rfl,rfl⟩) (by assumption) ?_
      go_simp
      refine wtk (i:=6) (v:=undef) rfl (Or.inr ⟨by rfl,rfl⟩) (by assumption) ?_
      go_simp
      refine wtk (i:=7) (v:=undef) rfl (Or.inr ⟨by rfl,rfl⟩) (by assumption) ?_
      go_simp
      refine wtk (i:=8) (v:=undef) rfl (Or.inr ⟨by rfl,rfl⟩) (by assumption) ?_
      go_simp
      refine wtk (i:=9) (v:=undef) rfl (Or.inr ⟨by rfl,rfl⟩) (by assumption) ?_
      go_simp
      refine wtk (i:=10) (v:=undef) rfl (Or.inr ⟨by rfl,rfl⟩) (by assumption) ?_
      go_simp
      refine wtk (i:=11) (v:=undef) rfl (Or.inr ⟨by rfl,rfl⟩) (by assumption) ?_
      go_simp
      refine wtk (i:=12) (v:=undef) rfl (Or.inr ⟨by rfl,rfl⟩) (by assumption) ?_
      go_simp
      refine wtk (i:=13) (v:=undef) rfl (Or.inr ⟨by rfl,rfl⟩) (by assumption) ?_
      go_simp
      refine wtk (i:=14) (v:=undef) rfl (Or.inr ⟨by rfl,rfl⟩) (by assumption) ?_
      go_simp
      refine wtk (i:=15) (v:=undef) rfl (Or.inr ⟨by rfl,rfl⟩) (by assumption) ?_
      go_simp
      refine wtk (i:=16) (v:=undef) rfl (Or.inr ⟨by rfl,rfl⟩) (by assumption) ?_
      go_simp
      refine wtk (i:=17) (v:=undef) rfl (Or.inr ⟨by rfl,rfl⟩) (by assumption) ?_
      go_simp
      refine wtk (i:=18) (v:=undef) rfl (Or.inr ⟨by rfl,rfl⟩) (by assumption) ?_
      go_simp
      refine wtk (i:=19) (v:=undef) rfl (Or.inr ⟨by rfl,rfl⟩) (by assumption) ?_
      go_simp
      refine wtk (i:=20) (v:=undef) rfl (Or.inr ⟨by rfl,rfl⟩) (by assumption) ?_
      go_simp
      refine wtk (i:=21) (v:=undef) rfl (Or.inr ⟨by rfl,rfl⟩) (by assumption) ?_
      go_simp
      refine wtk (i:=22) (v:=undef) rfl (Or.inr ⟨by rfl,rfl⟩) (by assumption) ?_
      go_simp
      refine wtk (i:=23) (v:=undef) rfl (Or.inr ⟨by rfl,rfl⟩) (by assumption) ?_
      go_simp
      refine wtk (i:=24) (v:=undef) rfl (Or.inr ⟨by rfl,rfl⟩) (by assumption) ?_
      go_simp
      refine wtk (i:=25) (v:=undef) rfl (Or.inr ⟨by rfl,rfl⟩) (by assumption) ?_
      go_simp
      refine wtk (i:=26) (v:=undef) rfl (Or.inr ⟨by rfl,rfl⟩) (by assumption) ?_
      go_simp
      refine wtk (i:=27) (v:=undef) rfl (Or.inr ⟨by rfl,rfl⟩) (by assumption) ?_
      go_simp
      refine wtk (i:=28) (v:=undef) rfl (Or.inr ⟨by rfl,rfl⟩) (by assumption) ?_
      go_simp
      refine wtk (i:=29) (v:=undef) rfl (Or.inr ⟨by rfl,rfl⟩) (by assumption) ?_
      go_simp
      refine wtk (i:=30) (v:=undef) rfl (Or.inr ⟨by rfl,rfl⟩) (by assumption) ?_
      go_simp
      refine wtk (i:=31) (v:=undef) rfl (Or.inr ⟨by rfl,rfl⟩) (by assumption) ?_
      go_simp
      refine wtk (i:=32) (v:=undef) rfl (Or.inr ⟨by rfl,rfl⟩) (by assumption) ?_
      go_simp
      refine wtk (i:=33) (v:=undef) rfl (Or.inr ⟨by rfl,rfl⟩) (by assumption) ?_
      go_simp
      refine wtk (i:=34) (v:=undef) rfl (Or.inr ⟨by rfl,rfl⟩) (by assumption) ?_
      go_simp
      refine wtk (i:=35) (v:=undef) rfl (Or.inr ⟨by rfl,rfl⟩) (by assumption) ?_
      go_simp
      refine wtk (i:=36) (v:=undef) rfl (Or.inr ⟨by rfl,rfl⟩) (by assumption) ?_
      go_simp
      refine wtk (i:=37) (v:=undef) rfl (Or.inr ⟨by rfl,rfl⟩) (by assumption) ?_
      go_simp
      refine wtk (i:=38) (v:=undef) rfl (Or.inr ⟨by rfl,rfl⟩) (by assumption) ?_
      go_simp
      refine wtk (i:=39) (v:=Value.bool false) rfl (Or.inl ⟨by rfl,?hhre39⟩) (by assumption) ?rrre39
      case hhre39=>(intro wz9 hSw;(try dsimp only at hSw);go_simp;try with_reducible rfl)
      go_simp
      refine wpAnyH_done (by kernel_rfl) ?_ _
      go_wp2
      go_roundw
      case rel=>exact ⟨1,by go_num,by omega,HE,((hk.trans hk2).trans hk3).drew⟩
      case measure=>simp[intOf];omega
     ·obtain ⟨b9,of9,he9,hb9,o0,_,_,_⟩:=(hr.keptNo hk).prop (k:=i) (by omega)
      injection he9 with he9;injection he9 with e9 e8;subst e9 e8;have hil:i<L.length:=by omega
      have h0i:(0:Int)≤(i:Int)+1:=by omega
      have hwi:IntKind.i64.wrap (i:Int)=(i:Int):=by
       have h9:(i:Int)<1000000:=by omega
       rw[IntKind.wrap_i64];omega
      have hpv:vw L (i+1)=some L[i].id:=by simp[vw,List.getElem?_eq_getElem (show i<L.length by omega)]
      rw[hpv]at HG2;have h8:=(HW.out _ (List.getElem_mem (show i<L.length by omega))).hid;generalize L[i].id=pid at *;clear hpv;have HE0:Hid ((qo k pid id&&(vx k (vw L (i+1+1)) (L.drop (i+1+1))&&(s2||!s1)))=R):=Lib.hid (by rw[← HG2.out,HP1.out];simp[jEd,Bool.and_assoc]);clear HG2 HP1;rcases Nat.lt_trichotomy pid id with hlt9|heq9|hgt9
      ·have hfo:qo k pid id=true:=by simp[qo,hlt9]
       have HE:Hid ((vx k (vw L (i+1+1)) (L.drop (i+1+1))&&(s2||!s1))=R):=Lib.hid (by rw[← HE0.out,hfo];rfl);have g1:decide ((id:Int)<(pid:Int))=false:=by simp;omega
       have g1n:decide (id<pid)=false:=by simp;omega
       have g2:((pid:Int) == (id:Int))=false:=by simp;omega
       have g2n:(pid == id)=false:=by simp;omega
       clear hfo HE0
       go_wp2_with (first
        | (go_at_call 146;refine (HV.out _).mono ?_;rintro e w2 ⟨rfl,hk2⟩;have y0:=(hk2.cell hb (λf=>f)).trans q0)
        | (go_at_call 138;refine (HF.out _).mono ?_;rintro e w3 ⟨rfl,hk3⟩))
       have hk9:=(hk.trans hk2).trans hk3;have ob:=hk2.trans hk3;have hb3:b<w3.heap.size:=Nat.lt_of_lt_of_le hb ob.size;have y0:=(ob.cell (p:=⟨b,off+(i+1)*4,none⟩) hb (λf=>f)).trans q0;have o0:=(ob.cell (p:=⟨b,off+i*4,none⟩) hb (λf=>f)).trans o0;refine wp_region_held_drew (S:=(λwx=>wx.cell? ⟨b,off+i*4,none⟩=some (.int .u8 pid)∧wx.cell? ⟨b,off+(i+1)*4,none⟩=some (.int .u8 id))) (by kernel_rfl) ?_ (λhHeld=>?_)
       ·exact ⟨by simpa using o0,by simpa using y0⟩
       refine wtk (i:=0) (v:=?vvra0) rfl (Or.inl ⟨by rfl,?hhra0⟩) (by assumption) ?rrra0
       case hhra0=>(intro wz9 hSw;(try dsimp only at hSw);go_simp;try with_reducible rfl)
       go_simp
       refine wtk (i:=1) (v:=Value.bool true) rfl (Or.inl ⟨by rfl,?hhra1⟩) (by assumption) ?rrra1
       case hhra1=>(intro wz9 hSw;(try dsimp only at hSw);go_simp;try with_reducible rfl)
       go_simp
       refine wtk (i:=2) (v:=Value.bool true) rfl (Or.inl ⟨by rfl,?hhra2⟩) (by assumption) ?rrra2
       case hhra2=>(intro wz9 hSw;(try dsimp only at hSw);go_simp;try with_reducible rfl)
       go_simp
       refine wtk (i:=3) (v:=?vvra3) rfl (Or.inl ⟨by rfl,?hhra3⟩) (by assumption) ?rrra3
       case hhra3=>(intro wz9 hSw;(try dsimp only at hSw);go_simp;try with_reducible rfl)
       go_simp
       refine wtk (i:=4) (v:=?vvra4) rfl (Or.inl ⟨by rfl,?hhra4⟩) (by assumption) ?rrra4
       case hhra4=>(intro wz9 hSw;(try dsimp only at hSw);go_simp;try with_reducible rfl)
       go_simp
       refine wtk (i:=5) (v:=Value.int .i64 (i:Nat)) rfl (Or.inl ⟨by rfl,?hhra5⟩) (by assumption) ?rrra5
       case hhra5=>(intro wz9 hSw;(try dsimp only at hSw);go_simp;(try rw[hwi]);(try rw[if_pos h0i]);try with_reducible rfl)
       go_simp
       refine wtk (i:=6) (v:=?vvra6) rfl (Or.inl ⟨by rfl,?hhra6⟩) (by assumption) ?rrra6
       case hhra6=>(intro wz9 hSw;(try dsimp only at hSw);go_simp;try with_reducible rfl)
       go_simp
       refine wtk (i:=7) (v:=?vvra7) rfl (Or.inl ⟨by rfl,?hhra7⟩) (by assumption) ?rrra7
       case hhra7=>(intro wz9 hSw;(try dsimp only at hSw);go_simp;try with_reducible rfl)
       go_simp
       refine wtk (i:=8) (v:=Value.int .u8 pid) rfl (Or.inl ⟨by rfl,?hhra8⟩) (by assumption) ?rrra8
       case hhra8=>(intro wz9 hSw;(try dsimp only at hSw);go_simp;try with_reducible rfl)
       go_simp
       refine wtk (i:=9) (v:=?vvra9) rfl (Or.inl ⟨by rfl,?hhra9⟩) (by assumption) ?rrra9
       case hhra9=>(intro wz9 hSw;(try dsimp only at hSw);go_simp;try with_reducible rfl)
       go_simp
       refine wtk (i:=10) (v:=?vvra10) rfl (Or.inl ⟨by rfl,?hhra10⟩) (by assumption) ?rrra10
       case hhra10=>(intro wz9 hSw;(try dsimp only at hSw);go_simp;try with_reducible rfl)
       go_simp
       refine wtk (i:=11) (v:=?vvra11) rfl (Or.inl ⟨by rfl,?hhra11⟩) (by assumption) ?rrra11
       case hhra11=>(intro wz9 hSw;(try dsimp only at hSw);go_simp;(try rw[hwi]);(try rw[if_pos h0i]);try with_reducible rfl)
       go_simp
       refine wtk (i:=12) (v:=?vvra12) rfl (Or.inl ⟨by rfl,?hhra12⟩) (by assumption) ?rrra12
       case hhra12=>(intro wz9 hSw;(try dsimp only at hSw);go_simp;try with_reducible rfl)
       go_simp
       refine wtk (i:=13) (v:=Value.int .u8 id) rfl (Or.inl ⟨by rfl,?hhra13⟩) (by assumption) ?rrra13
       case hhra13=>(intro wz9 hSw;(try dsimp only at hSw);go_simp;try with_reducible rfl)
       go_simp
       refine wtk (i:=14) (v:=Value.bool false) rfl (Or.inl ⟨by rfl,?hhra14⟩) (by assumption) ?rrra14
       case hhra14=>(intro wz9 hSw;(try dsimp only at hSw);go_simp;try with_reducible rfl)
       go_simp
       refine wtk (i:=15) (v:=Value.bool false) rfl (Or.inl ⟨by rfl,?hhra15⟩) (by assumption) ?rrra15
       case hhra15=>(intro wz9 hSw;(try dsimp only at hSw);go_simp;try with_reducible rfl)
       go_simp
       refine wtk (i:=16) (v:=?vvra16) rfl (Or.inl ⟨by rfl,?hhra16⟩) (by assumption) ?rrra16
       case hhra16=>(intro wz9 hSw;(try dsimp only at hSw);go_simp;try with_reducible rfl)
       go_simp
       refine wtk (i:=17) (v:=?vvra17) rfl (Or.inl ⟨by rfl,?hhra17⟩) (by assumption) ?rrra17
       case hhra17=>(intro wz9 hSw;(try dsimp only at hSw);go_simp;try with_reducible rfl)
       go_simp
       refine wtk (i:=18) (v:=Value.int .i64 (i:Nat)) rfl (Or.inl ⟨by rfl,?hhra18⟩) (by assumption) ?rrra18
       case hhra18=>(intro wz9 hSw;(try dsimp only at hSw);go_simp;(try rw[hwi]);(try rw[if_pos h0i]);try with_reducible rfl)
       go_simp
       refine wtk (i:=19) (v:=?vvra19) rfl (Or.inl ⟨by rfl,?hhra19⟩) (by assumption) ?rrra19
       case hhra19=>(intro wz9 hSw;(try dsimp only at hSw);go_simp;try with_reducible rfl)
       go_simp
       refine wtk (i:=20) (v:=?vvra20) rfl (Or.inl ⟨by rfl,?hhra20⟩) (by assumption) ?rrra20
       case hhra20=>(intro wz9 hSw;(try dsimp only at hSw);go_simp;try with_reducible rfl)
       go_simp
       refine wtk (i:=21) (v:=Value.int .u8 pid) rfl (Or.inl ⟨by rfl,?hhra21⟩) (by assumption) ?rrra21
       case hhra21=>(intro wz9 hSw;(try dsimp only at hSw);go_simp;try with_reducible rfl)
       go_simp
       refine wtk (i:=22) (v:=?vvra22) rfl (Or.inl ⟨by rfl,?hhra22⟩) (by assumption) ?rrra22
       case hhra22=>(intro wz9 hSw;(try dsimp only at hSw);go_simp;try with_reducible rfl)
       go_simp
       refine wtk (i:=23) (v:=?vvra23) rfl (Or.inl ⟨by rfl,?hhra23⟩) (by assumption) ?rrra23
       case hhra23=>(intro wz9 hSw;(try dsimp only at hSw);go_simp;try with_reducible rfl)
       go_simp
       refine wtk (i:=24) (v:=?vvra24) rfl (Or.inl ⟨by rfl,?hhra24⟩) (by assumption) ?rrra24
       case hhra24=>(intro wz9 hSw;(try dsimp only at hSw);go_simp;(try rw[hwi]);(try rw[if_pos h0i]);try with_reducible rfl)
       go_simp
       refine wtk (i:=25) (v:=?vvra25) rfl (Or.inl ⟨by rfl,?hhra25⟩) (by assumption) ?rrra25
       case hhra25=>(intro wz9 hSw;(try dsimp only at hSw);go_simp;try with_reducible rfl)
       go_simp
       refine wtk (i:=26) (v:=Value.int .u8 id) rfl (Or.inl ⟨by rfl,?hhra26⟩) (by assumption) ?rrra26
       case hhra26=>(intro wz9 hSw;(try dsimp only at hSw);go_simp;try with_reducible rfl)
       go_simp
       refine wtk (i:=27) (v:=Value.bool false) rfl (Or.inl ⟨by rfl,?hhra27⟩) (by assumption) ?rrra27
       case hhra27=>(intro wz9 hSw;(try dsimp only at hSw);go_simp;try with_reducible rfl)
       go_simp
       refine wtk (i:=28) (v:=Value.bool false) rfl (Or.inl ⟨by rfl,?hhra28⟩) (by assumption) ?rrra28
       case hhra28=>(intro wz9 hSw;(try dsimp only at hSw);go_simp;try with_reducible rfl)
       go_simp
       refine wtk (i:=29) (v:=undef) rfl (Or.inr ⟨by rfl,rfl⟩) (by assumption) ?_
       go_simp
       refine wtk (i:=30) (v:=undef) rfl (Or.inr ⟨by rfl,rfl⟩) (by assumption) ?_
       go_simp
       refine wtk (i:=31) (v:=undef) rfl (Or.inr ⟨by rfl,rfl⟩) (by assumption) ?_
       go_simp
       refine wtk (i:=32) (v:=undef) rfl (Or.inr ⟨by rfl,rfl⟩) (by assumption) ?_
       go_simp
       refine wtk (i:=33) (v:=undef) rfl (Or.inr ⟨by rfl,rfl⟩) (by assumption) ?_
       go_simp
       refine wtk (i:=34) (v:=undef) rfl (Or.inr ⟨by rfl,rfl⟩) (by assumption) ?_
       go_simp
       refine wtk (i:=35) (v:=undef) rfl (Or.inr ⟨by rfl,rfl⟩) (by assumption) ?_
       go_simp
       refine wtk (i:=36) (v:=undef) rfl (Or.inr ⟨by rfl,rfl⟩) (by assumption) ?_
       go_simp
       refine wtk (i:=37) (v:=Value.bool false) rfl (Or.inl ⟨by rfl,?hhra37⟩) (by assumption) ?rrra37
       case hhra37=>(intro wz9 hSw;(try dsimp only at hSw);go_simp;try with_reducible rfl)
       go_simp
       refine wtk (i:=38) (v:=Value.bool false) rfl (Or.inl ⟨by rfl,?hhra38⟩) (by assumption) ?rrra38
       case hhra38=>(intro wz9 hSw;(try dsimp only at hSw);go_simp;try with_reducible rfl)
       go_simp
       refine wtk (i:=39) (v:=Value.bool false) rfl (Or.inl ⟨by rfl,?hhra39⟩) (by assumption) ?rrra39
       case hhra39=>(intro wz9 hSw;(try dsimp only at hSw);go_simp;try with_reducible rfl)
       go_simp
       refine wpAnyH_done (by kernel_rfl) ?_ _
       go_wp2
       go_roundw
       case rel=>exact ⟨i+1+1,by go_num,by omega,HE,hk9.drew⟩
       case measure=>simp[intOf];omega
      ·subst heq9
       have hfo1:qo k pid pid=xF pid k:=by simp[qo]
       have cO:=λwx=>j7a pid k wx p1
       rcases ho:xF pid k with _|_
       ·have hfo:qo k pid pid=false:=by rw[hfo1,ho]
        rw[ho]at cO;have HFO:=Lib.hid cO;have HE:Hid (R=false):=Lib.hid (by rw[← HE0.out,hfo];rfl);clear hfo1 hfo HE0 ho cO
        go_wp2_with (first
         | (go_at_call 146;refine (HV.out _).mono ?_;rintro e w2 ⟨rfl,hk2⟩;have y0:=(hk2.cell hb (λf=>f)).trans q0)
         | (go_at_call 138;refine (HF.out _).mono ?_;rintro e w3 ⟨rfl,hk3⟩))
        have hk9:=(hk.trans hk2).trans hk3;have ob:=hk2.trans hk3;have hb3:b<w3.heap.size:=Nat.lt_of_lt_of_le hb ob.size;have y0:=(ob.cell (p:=⟨b,off+(i+1)*4,none⟩) hb (λf=>f)).trans q0;have o0:=(ob.cell (p:=⟨b,off+i*4,none⟩) hb (λf=>f)).trans o0;refine wp_region_held_drew (S:=(λwx=>wx.cell? ⟨b,off+i*4,none⟩=some (.int .u8 pid)∧wx.cell? ⟨b,off+(i+1)*4,none⟩=some (.int .u8 pid))) (by kernel_rfl) ?_ (λhHeld=>?_)
        ·exact ⟨by simpa using o0,by simpa using y0⟩
        refine wtk (i:=0) (v:=?vvrb0) rfl (Or.inl ⟨by rfl,?hhrb0⟩) (by assumption) ?rrrb0
        case hhrb0=>(intro wz9 hSw;(try dsimp only at hSw);go_simp;try with_reducible rfl)
        go_simp
        refine wtk (i:=1) (v:=Value.bool true) rfl (Or.inl ⟨by rfl,?hhrb1⟩) (by assumption) ?rrrb1
        case hhrb1=>(intro wz9 hSw;(try dsimp only at hSw);go_simp;try with_reducible rfl)
        go_simp
        refine wtk (i:=2) (v:=Value.bool true) rfl (Or.inl ⟨by rfl,?hhrb2⟩) (by assumption) ?rrrb2
        case hhrb2=>(intro wz9 hSw;(try dsimp only at hSw);go_simp;try with_reducible rfl)
        go_simp
        refine wtk (i:=3) (v:=?vvrb3) rfl (Or.inl ⟨by rfl,?hhrb3⟩) (by assumption) ?rrrb3
        case hhrb3=>(intro wz9 hSw;(try dsimp only at hSw);go_simp;try with_reducible rfl)
        go_simp
        refine wtk (i:=4) (v:=?vvrb4) rfl (Or.inl ⟨by rfl,?hhrb4⟩) (by assumption) ?rrrb4
        case hhrb4=>(intro wz9 hSw;(try dsimp only at hSw);go_simp;try with_reducible rfl)
        go_simp
        refine wtk (i:=5) (v:=Value.int .i64 (i:Nat)) rfl (Or.inl ⟨by rfl,?hhrb5⟩) (by assumption) ?rrrb5
        case hhrb5=>(intro wz9 hSw;(try dsimp only at hSw);go_simp;(try rw[hwi]);(try rw[if_pos h0i]);try with_reducible rfl)
        go_simp
        refine wtk (i:=6) (v:=?vvrb6) rfl (Or.inl ⟨by rfl,?hhrb6⟩) (by assumption) ?rrrb6
        case hhrb6=>(intro wz9 hSw;(try dsimp only at hSw);go_simp;try with_reducible rfl)
        go_simp
        refine wtk (i:=7) (v:=?vvrb7) rfl (Or.inl ⟨by rfl,?hhrb7⟩) (by assumption) ?rrrb7
        case hhrb7=>(intro wz9 hSw;(try dsimp only at hSw);go_simp;try with_reducible rfl)
        go_simp
        refine wtk (i:=8) (v:=Value.int .u8 pid) rfl (Or.inl ⟨by rfl,?hhrb8⟩) (by assumption) ?rrrb8
        case hhrb8=>(intro wz9 hSw;(try dsimp only at hSw);go_simp;try with_reducible rfl)
        go_simp
        refine wtk (i:=9) (v:=?vvrb9) rfl (Or.inl ⟨by rfl,?hhrb9⟩) (by assumption) ?rrrb9
        case hhrb9=>(intro wz9 hSw;(try dsimp only at hSw);go_simp;try with_reducible rfl)
        go_simp
        refine wtk (i:=10) (v:=?vvrb10) rfl (Or.inl ⟨by rfl,?hhrb10⟩) (by assumption) ?rrrb10
        case hhrb10=>(intro wz9 hSw;(try dsimp only at hSw);go_simp;try with_reducible rfl)
        go_simp
        refine wtk (i:=11) (v:=?vvrb11) rfl (Or.inl ⟨by rfl,?hhrb11⟩) (by assumption) ?rrrb11
        case hhrb11=>(intro wz9 hSw;(try dsimp only at hSw);go_simp;(try rw[hwi]);(try rw[if_pos h0i]);try with_reducible rfl)
        go_simp
        refine wtk (i:=12) (v:=?vvrb12) rfl (Or.inl ⟨by rfl,?hhrb12⟩) (by assumption) ?rrrb12
        case hhrb12=>(intro wz9 hSw;(try dsimp only at hSw);go_simp;try with_reducible rfl)
        go_simp
        refine wtk (i:=13) (v:=Value.int .u8 pid) rfl (Or.inl ⟨by rfl,?hhrb13⟩) (by assumption) ?rrrb13
        case hhrb13=>(intro wz9 hSw;(try dsimp only at hSw);go_simp;try with_reducible rfl)
        go_simp
        refine wtk (i:=14) (v:=Value.bool false) rfl (Or.inl ⟨by rfl,?hhrb14⟩) (by assumption) ?rrrb14
        case hhrb14=>(intro wz9 hSw;(try dsimp only at hSw);go_simp;try with_reducible rfl)
        go_simp
        refine wtk (i:=15) (v:=Value.bool false) rfl (Or.inl ⟨by rfl,?hhrb15⟩) (by assumption) ?rrrb15
        case hhrb15=>(intro wz9 hSw;(try dsimp only at hSw);go_simp;try with_reducible rfl)
        go_simp
        refine wtk (i:=16) (v:=?vvrb16) rfl (Or.inl ⟨by rfl,?hhrb16⟩) (by assumption) ?rrrb16
        case hhrb16=>(intro wz9 hSw;(try dsimp only at hSw);go_simp;try with_reducible rfl)
        go_simp
        refine wtk (i:=17) (v:=?vvrb17) rfl (Or.inl ⟨by rfl,?hhrb17⟩) (by assumption) ?rrrb17
        case hhrb17=>(intro wz9 hSw;(try dsimp only at hSw);go_simp;try with_reducible rfl)
        go_simp
        refine wtk (i:=18) (v:=Value.int .i64 (i:Nat)) rfl (Or.inl ⟨by rfl,?hhrb18⟩) (by assumption) ?rrrb18
        case hhrb18=>(intro wz9 hSw;(try dsimp only at hSw);go_simp;(try rw[hwi]);(try rw[if_pos h0i]);try with_reducible rfl)
        go_simp
        refine wtk (i:=19) (v:=?vvrb19) rfl (Or.inl ⟨by rfl,?hhrb19⟩) (by assumption) ?rrrb19
        case hhrb19=>(intro wz9 hSw;(try dsimp only at hSw);go_simp;try with_reducible rfl)
        go_simp
        refine wtk (i:=20) (v:=?vvrb20) rfl (Or.inl ⟨by rfl,?hhrb20⟩) (by assumption) ?rrrb20
        case hhrb20=>(intro wz9 hSw;(try dsimp only at hSw);go_simp;try with_reducible rfl)
        go_simp
        refine wtk (i:=21) (v:=Value.int .u8 pid) rfl (Or.inl ⟨by rfl,?hhrb21⟩) (by assumption) ?rrrb21
        case hhrb21=>(intro wz9 hSw;(try dsimp only at hSw);go_simp;try with_reducible rfl)
        go_simp
        refine wtk (i:=22) (v:=?vvrb22) rfl (Or.inl ⟨by rfl,?hhrb22⟩) (by assumption) ?rrrb22
        case hhrb22=>(intro wz9 hSw;(try dsimp only at hSw);go_simp;try with_reducible rfl)
        go_simp
        refine wtk (i:=23) (v:=?vvrb23) rfl (Or.inl ⟨by rfl,?hhrb23⟩) (by assumption) ?rrrb23
        case hhrb23=>(intro wz9 hSw;(try dsimp only at hSw);go_simp;try with_reducible rfl)
        go_simp
        refine wtk (i:=24) (v:=?vvrb24) rfl (Or.inl ⟨by rfl,?hhrb24⟩) (by assumption) ?rrrb24
        case hhrb24=>(intro wz9 hSw;(try dsimp only at hSw);go_simp;(try rw[hwi]);(try rw[if_pos h0i]);try with_reducible rfl)
        go_simp
        refine wtk (i:=25) (v:=?vvrb25) rfl (Or.inl ⟨by rfl,?hhrb25⟩) (by assumption) ?rrrb25
        case hhrb25=>(intro wz9 hSw;(try dsimp only at hSw);go_simp;try with_reducible rfl)
        go_simp
        refine wtk (i:=26) (v:=Value.int .u8 pid) rfl (Or.inl ⟨by rfl,?hhrb26⟩) (by assumption) ?rrrb26
        case hhrb26=>(intro wz9 hSw;(try dsimp only at hSw);go_simp;try with_reducible rfl)
        go_simp
        refine wtk (i:=27) (v:=Value.bool true) rfl (Or.inl ⟨by rfl,?hhrb27⟩) (by assumption) ?rrrb27
        case hhrb27=>(intro wz9 hSw;(try dsimp only at hSw);go_simp;try with_reducible rfl)
        go_simp
        refine wtk (i:=28) (v:=Value.bool true) rfl (Or.inl ⟨by rfl,?hhrb28⟩) (by assumption) ?rrrb28
        case hhrb28=>(intro wz9 hSw;(try dsimp only at hSw);go_simp;try with_reducible rfl)
        go_simp
        refine wtk (i:=29) (v:=?vvrb29) rfl (Or.inl ⟨by rfl,?hhrb29⟩) (by assumption) ?rrrb29
        case hhrb29=>(intro wz9 hSw;(try dsimp only at hSw);go_simp;try with_reducible rfl)
        go_simp
        refine wtk (i:=30) (v:=?vvrb30) rfl (Or.inl ⟨by rfl,?hhrb30⟩) (by assumption) ?rrrb30
        case hhrb30=>(intro wz9 hSw;(try dsimp only at hSw);go_simp;try with_reducible rfl)
        go_simp
        refine wtk (i:=31) (v:=?vvrb31) rfl (Or.inl ⟨by rfl,?hhrb31⟩) (by assumption) ?rrrb31
        case hhrb31=>(intro wz9 hSw;(try dsimp only at hSw);go_simp;(try rw[hwi]);(try rw[if_pos h0i]);try with_reducible rfl)
        go_simp
        refine wtk (i:=32) (v:=?vvrb32) rfl (Or.inl ⟨by rfl,?hhrb32⟩) (by assumption) ?rrrb32
        case hhrb32=>(intro wz9 hSw;(try dsimp only at hSw);go_simp;try with_reducible rfl)
        go_simp
        refine wtk (i:=33) (v:=Value.int .u8 pid) rfl (Or.inl ⟨by rfl,?hhrb33⟩) (by assumption) ?rrrb33
        case hhrb33=>(intro wz9 hSw;(try dsimp only at hSw);go_simp;try with_reducible rfl)
        go_simp
        refine wtk (i:=34) (v:=?vvrb34) rfl (Or.inl ⟨by rfl,?hhrb34⟩) (by assumption) ?rrrb34
        case hhrb34=>(intro wz9 hSw;(try dsimp only at hSw);go_simp;try with_reducible rfl)
        go_simp
        refine wpAnyH_ready (rs:=[35]) (by kernel_rfl) (by simp) ?_;refine AllReadyH.cons rfl (λK9 hK9=>?_) AllReadyH.nil
        go_simp
        go_wp2_with (go_at_call 94;refine (HFO.out _).mono ?_;rintro e w4 ⟨rfl,hk4⟩)
        refine hK9.out _ _ ?_ (λhHeld=>?_)
        ·exact ⟨(hk4.cell (by simpa using hb3) (λf=>f)).trans hHeld.1,(hk4.cell (by simpa using hb3) (λf=>f)).trans hHeld.2⟩
        clear hK9 K9;refine wtk (i:=36) (v:=Value.bool true) rfl (Or.inl ⟨by rfl,?hhrb36⟩) (by assumption) ?rrrb36
        case hhrb36=>(intro wz9 hSw;(try dsimp only at hSw);go_simp;try with_reducible rfl)
        go_simp
        refine wtk (i:=37) (v:=Value.bool true) rfl (Or.inl ⟨by rfl,?hhrb37⟩) (by assumption) ?rrrb37
        case hhrb37=>(intro wz9 hSw;(try dsimp only at hSw);go_simp;try with_reducible rfl)
        go_simp
        refine wtk (i:=38) (v:=Value.bool true) rfl (Or.inl ⟨by rfl,?hhrb38⟩) (by assumption) ?rrrb38
        case hhrb38=>(intro wz9 hSw;(try dsimp only at hSw);go_simp;try with_reducible rfl)
        go_simp
        refine wtk (i:=39) (v:=Value.bool true) rfl (Or.inl ⟨by rfl,?hhrb39⟩) (by assumption) ?rrrb39
        case hhrb39=>(intro wz9 hSw;(try dsimp only at hSw);go_simp;try with_reducible rfl)
        go_simp
        refine wpAnyH_done (by kernel_rfl) ?_ _
        go_wp2
        go_ret
        exact ⟨by rw[HE.out];rfl,hk9.drew.trans hk4⟩
       ·have hfo:qo k pid pid=true:=by rw[hfo1,ho]
        rw[ho]at cO;have HFO:=Lib.hid cO;have HE:Hid ((vx k (vw L (i+1+1)) (L.drop (i+1+1))&&(s2||!s1))=R):=Lib.hid (by rw[← HE0.out,hfo];rfl);clear hfo1 hfo HE0 ho cO
        go_wp2_with (first
         | (go_at_call 146;refine (HV.out _).mono ?_;rintro e w2 ⟨rfl,hk2⟩;have y0:=(hk2.cell hb (λf=>f)).trans q0)
         | (go_at_call 138;refine (HF.out _).mono ?_;rintro e w3 ⟨rfl,hk3⟩))
        have hk9:=(hk.trans hk2).trans hk3;have ob:=hk2.trans hk3;have hb3:b<w3.heap.size:=Nat.lt_of_lt_of_le hb ob.size;have y0:=(ob.cell (p:=⟨b,off+(i+1)*4,none⟩) hb (λf=>f)).trans q0;have o0:=(ob.cell (p:=⟨b,off+i*4,none⟩) hb (λf=>f)).trans o0;refine wp_region_held_drew (S:=(λwx=>wx.cell? ⟨b,off+i*4,none⟩=some (.int .u8 pid)∧wx.cell? ⟨b,off+(i+1)*4,none⟩=some (.int .u8 pid))) (by kernel_rfl) ?_ (λhHeld=>?_)
        ·exact ⟨by simpa using o0,by simpa using y0⟩
        refine wtk (i:=0) (v:=?vvrc0) rfl (Or.inl ⟨by rfl,?hhrc0⟩) (by assumption) ?rrrc0
        case hhrc0=>(intro wz9 hSw;(try dsimp only at hSw);go_simp;try with_reducible rfl)
        go_simp
        refine wtk (i:=1) (v:=Value.bool true) rfl (Or.inl ⟨by rfl,?hhrc1⟩) (by assumption) ?rrrc1
        case hhrc1=>(intro wz9 hSw;(try dsimp only at hSw);go_simp;try with_reducible rfl)
        go_simp
        refine wtk (i:=2) (v:=Value.bool true) rfl (Or.inl ⟨by rfl,?hhrc2⟩) (by assumption) ?rrrc2
        case hhrc2=>(intro wz9 hSw;(try dsimp only at hSw);go_simp;try with_reducible rfl)
        go_simp
        refine wtk (i:=3) (v:=?vvrc3) rfl (Or.inl ⟨by rfl,?hhrc3⟩) (by assumption) ?rrrc3
        case hhrc3=>(intro wz9 hSw;(try dsimp only at hSw);go_simp;try with_reducible rfl)
        go_simp
        refine wtk (i:=4) (v:=?vvrc4) rfl (Or.inl ⟨by rfl,?hhrc4⟩) (by assumption) ?rrrc4
        case hhrc4=>(intro wz9 hSw;(try dsimp only at hSw);go_simp;try with_reducible rfl)
        go_simp
        refine wtk (i:=5) (v:=Value.int .i64 (i:Nat)) rfl (Or.inl ⟨by rfl,?hhrc5⟩) (by assumption) ?rrrc5
        case hhrc5=>(intro wz9 hSw;(try dsimp only at hSw);go_simp;(try rw[hwi]);(try rw[if_pos h0i]);try with_reducible rfl)
        go_simp
        refine wtk (i:=6) (v:=?vvrc6) rfl (Or.inl ⟨by rfl,?hhrc6⟩) (by assumption) ?rrrc6
        case hhrc6=>(intro wz9 hSw;(try dsimp only at hSw);go_simp;try with_reducible rfl)
        go_simp
        refine wtk (i:=7) (v:=?vvrc7) rfl (Or.inl ⟨by rfl,?hhrc7⟩) (by assumption) ?rrrc7
        case hhrc7=>(intro wz9 hSw;(try dsimp only at hSw);go_simp;try with_reducible rfl)
        go_simp
        refine wtk (i:=8) (v:=Value.int .u8 pid) rfl (Or.inl ⟨by rfl,?hhrc8⟩) (by assumption) ?rrrc8
        case hhrc8=>(intro wz9 hSw;(try dsimp only at hSw);go_simp;try with_reducible rfl)
        go_simp
        refine wtk (i:=9) (v:=?vvrc9) rfl (Or.inl ⟨by rfl,?hhrc9⟩) (by assumption) ?rrrc9
        case hhrc9=>(intro wz9 hSw;(try dsimp only at hSw);go_simp;try with_reducible rfl)
        go_simp
        refine wtk (i:=10) (v:=?vvrc10) rfl (Or.inl ⟨by rfl,?hhrc10⟩) (by assumption) ?rrrc10
        case hhrc10=>(intro wz9 hSw;(try dsimp only at hSw);go_simp;try with_reducible rfl)
        go_simp
        refine wtk (i:=11) (v:=?vvrc11) rfl (Or.inl ⟨by rfl,?hhrc11⟩) (by assumption) ?rrrc11
        case hhrc11=>(intro wz9 hSw;(try dsimp only at hSw);go_simp;(try rw[hwi]);(try rw[if_pos h0i]);try with_reducible rfl)
        go_simp
        refine wtk (i:=12) (v:=?vvrc12) rfl (Or.inl ⟨by rfl,?hhrc12⟩) (by assumption) ?rrrc12
        case hhrc12=>(intro wz9 hSw;(try dsimp only at hSw);go_simp;try with_reducible rfl)
        go_simp
        refine wtk (i:=13) (v:=Value.int .u8 pid) rfl (Or.inl ⟨by rfl,?hhrc13⟩) (by assumption) ?rrrc13
        case hhrc13=>(intro wz9 hSw;(try dsimp only at hSw);go_simp;try with_reducible rfl)
        go_simp
        refine wtk (i:=14) (v:=Value.bool false) rfl (Or.inl ⟨by rfl,?hhrc14⟩) (by assumption) ?rrrc14
        case hhrc14=>(intro wz9 hSw;(try dsimp only at hSw);go_simp;try with_reducible rfl)
        go_simp
        refine wtk (i:=15) (v:=Value.bool false) rfl (Or.inl ⟨by rfl,?hhrc15⟩) (by assumption) ?rrrc15
        case hhrc15=>(intro wz9 hSw;(try dsimp only at hSw);go_simp;try with_reducible rfl)
        go_simp
        refine wtk (i:=16) (v:=?vvrc16) rfl (Or.inl ⟨by rfl,?hhrc16⟩) (by assumption) ?rrrc16
        case hhrc16=>(intro wz9 hSw;(try dsimp only at hSw);go_simp;try with_reducible rfl)
        go_simp
        refine wtk (i:=17) (v:=?vvrc17) rfl (Or.inl ⟨by rfl,?hhrc17⟩) (by assumption) ?rrrc17
        case hhrc17=>(intro wz9 hSw;(try dsimp only at hSw);go_simp;try with_reducible rfl)
        go_simp
        refine wtk (i:=18) (v:=Value.int .i64 (i:Nat)) rfl (Or.inl ⟨by rfl,?hhrc18⟩) (by assumption) ?rrrc18
        case hhrc18=>(intro wz9 hSw;(try dsimp only at hSw);go_simp;(try rw[hwi]);(try rw[if_pos h0i]);try with_reducible rfl)
        go_simp
        refine wtk (i:=19) (v:=?vvrc19) rfl (Or.inl ⟨by rfl,?hhrc19⟩) (by assumption) ?rrrc19
        case hhrc19=>(intro wz9 hSw;(try dsimp only at hSw);go_simp;try with_reducible rfl)
        go_simp
        refine wtk (i:=20) (v:=?vvrc20) rfl (Or.inl ⟨by rfl,?hhrc20⟩) (by assumption) ?rrrc20
        case hhrc20=>(intro wz9 hSw;(try dsimp only at hSw);go_simp;try with_reducible rfl)
        go_simp
        refine wtk (i:=21) (v:=Value.int .u8 pid) rfl (Or.inl ⟨by rfl,?hhrc21⟩) (by assumption) ?rrrc21
        case hhrc21=>(intro wz9 hSw;(try dsimp only at hSw);go_simp;try with_reducible rfl)
        go_simp
        refine wtk (i:=22) (v:=?vvrc22) rfl (Or.inl ⟨by rfl,?hhrc22⟩) (by assumption) ?rrrc22
        case hhrc22=>(intro wz9 hSw;(try dsimp only at hSw);go_simp;try with_reducible rfl)
        go_simp
        refine wtk (i:=23) (v:=?vvrc23) rfl (Or.inl ⟨by rfl,?hhrc23⟩) (by assumption) ?rrrc23
        case hhrc23=>(intro wz9 hSw;(try dsimp only at hSw);go_simp;try with_reducible rfl)
        go_simp
        refine wtk (i:=24) (v:=?vvrc24) rfl (Or.inl ⟨by rfl,?hhrc24⟩) (by assumption) ?rrrc24
        case hhrc24=>(intro wz9 hSw;(try dsimp only at hSw);go_simp;(try rw[hwi]);(try rw[if_pos h0i]);try with_reducible rfl)
        go_simp
        refine wtk (i:=25) (v:=?vvrc25) rfl (Or.inl ⟨by rfl,?hhrc25⟩) (by assumption) ?rrrc25
        case hhrc25=>(intro wz9 hSw;(try dsimp only at hSw);go_simp;try with_reducible rfl)
        go_simp
        refine wtk (i:=26) (v:=Value.int .u8 pid) rfl (Or.inl ⟨by rfl,?hhrc26⟩) (by assumption) ?rrrc26
        case hhrc26=>(intro wz9 hSw;(try dsimp only at hSw);go_simp;try with_reducible rfl)
        go_simp
        refine wtk (i:=27) (v:=Value.bool true) rfl (Or.inl ⟨by rfl,?hhrc27⟩) (by assumption) ?rrrc27
        case hhrc27=>(intro wz9 hSw;(try dsimp only at hSw);go_simp;try with_reducible rfl)
        go_simp
        refine wtk (i:=28) (v:=Value.bool true) rfl (Or.inl ⟨by rfl,?hhrc28⟩) (by assumption) ?rrrc28
        case hhrc28=>(intro wz9 hSw;(try dsimp only at hSw);go_simp;try with_reducible rfl)
        go_simp
        refine wtk (i:=29) (v:=?vvrc29) rfl (Or.inl ⟨by rfl,?hhrc29⟩) (by assumption) ?rrrc29
        case hhrc29=>(intro wz9 hSw;(try dsimp only at hSw);go_simp;try with_reducible rfl)
        go_simp
        refine wtk (i:=30) (v:=?vvrc30) rfl (Or.inl ⟨by rfl,?hhrc30⟩) (by assumption) ?rrrc30
        case hhrc30=>(intro wz9 hSw;(try dsimp only at hSw);go_simp;try with_reducible rfl)
        go_simp
        refine wtk (i:=31) (v:=?vvrc31) rfl (Or.inl ⟨by rfl,?hhrc31⟩) (by assumption) ?rrrc31
        case hhrc31=>(intro wz9 hSw;(try dsimp only at hSw);go_simp;(try rw[hwi]);(try rw[if_pos h0i]);try with_reducible rfl)
        go_simp
        refine wtk (i:=32) (v:=?vvrc32) rfl (Or.inl ⟨by rfl,?hhrc32⟩) (by assumption) ?rrrc32
        case hhrc32=>(intro wz9 hSw;(try dsimp only at hSw);go_simp;try with_reducible rfl)
        go_simp
        refine wtk (i:=33) (v:=Value.int .u8 pid) rfl (Or.inl ⟨by rfl,?hhrc33⟩) (by assumption) ?rrrc33
        case hhrc33=>(intro wz9 hSw;(try dsimp only at hSw);go_simp;try with_reducible rfl)
        go_simp
        refine wtk (i:=34) (v:=?vvrc34) rfl (Or.inl ⟨by rfl,?hhrc34⟩) (by assumption) ?rrrc34
        case hhrc34=>(intro wz9 hSw;(try dsimp only at hSw);go_simp;try with_reducible rfl)
        go_simp
        refine wpAnyH_ready (rs:=[35]) (by kernel_rfl) (by simp) ?_;refine AllReadyH.cons rfl (λK9 hK9=>?_) AllReadyH.nil
        go_simp
        go_wp2_with (go_at_call 94;refine (HFO.out _).mono ?_;rintro e w4 ⟨rfl,hk4⟩)
        refine hK9.out _ _ ?_ (λhHeld=>?_)
        ·exact ⟨(hk4.cell (by simpa using hb3) (λf=>f)).trans hHeld.1,(hk4.cell (by simpa using hb3) (λf=>f)).trans hHeld.2⟩
        clear hK9 K9;refine wtk (i:=36) (v:=Value.bool false) rfl (Or.inl ⟨by rfl,?hhrc36⟩) (by assumption) ?rrrc36
        case hhrc36=>(intro wz9 hSw;(try dsimp only at hSw);go_simp;try with_reducible rfl)
        go_simp
        refine wtk (i:=37) (v:=Value.bool false) rfl (Or.inl ⟨by rfl,?hhrc37⟩) (by assumption) ?rrrc37
        case hhrc37=>(intro wz9 hSw;(try dsimp only at hSw);go_simp;try with_reducible rfl)
        go_simp
        refine wtk (i:=38) (v:=Value.bool false) rfl (Or.inl ⟨by rfl,?hhrc38⟩) (by assumption) ?rrrc38
        case hhrc38=>(intro wz9 hSw;(try dsimp only at hSw);go_simp;try with_reducible rfl)
        go_simp
        refine wtk (i:=39) (v:=Value.bool false) rfl (Or.inl ⟨by rfl,?hhrc39⟩) (by assumption) ?rrrc39
        case hhrc39=>(intro wz9 hSw;(try dsimp only at hSw);go_simp;try with_reducible rfl)
        go_simp
        refine wpAnyH_done (by kernel_rfl) ?_ _
        go_wp2
        go_roundw
        case rel=>exact ⟨i+1+1,by go_num,by omega,HE,hk9.drew.trans hk4⟩
        case measure=>simp[intOf];omega
      ·have hfo:qo k pid id=false:=by simp[qo];omega
       have HE:Hid (R=false):=Lib.hid (by rw[← HE0.out,hfo];rfl);have g1:(id:Int)<(pid:Int):=by omega
       clear hfo HE0
       go_wp2_with (first
        | (go_at_call 146;refine (HV.out _).mono ?_;rintro e w2 ⟨rfl,hk2⟩;have y0:=(hk2.cell hb (λf=>f)).trans q0)
        | (go_at_call 138;refine (HF.out _).mono ?_;rintro e w3 ⟨rfl,hk3⟩))
       have hk9:=(hk.trans hk2).trans hk3;have ob:=hk2.trans hk3;have hb3:b<w3.heap.size:=Nat.lt_of_lt_of_le hb ob.size;have y0:=(ob.cell (p:=⟨b,off+(i+1)*4,none⟩) hb (λf=>f)).trans q0;have o0:=(ob.cell (p:=⟨b,off+i*4,none⟩) hb (λf=>f)).trans o0;refine wp_region_held_drew (S:=(λwx=>wx.cell? ⟨b,off+i*4,none⟩=some (.int .u8 pid)∧wx.cell? ⟨b,off+(i+1)*4,none⟩=some (.int .u8 id))) (by kernel_rfl) ?_ (λhHeld=>?_)
       ·exact ⟨by simpa using o0,by simpa using y0⟩
       refine wtk (i:=0) (v:=?vvrd0) rfl (Or.inl ⟨by rfl,?hhrd0⟩) (by assumption) ?rrrd0
       case hhrd0=>(intro wz9 hSw;(try dsimp only at hSw);go_simp;try with_reducible rfl)
       go_simp
       refine wtk (i:=1) (v:=Value.bool true) rfl (Or.inl ⟨by rfl,?hhrd1⟩) (by assumption) ?rrrd1
       case hhrd1=>(intro wz9 hSw;(try dsimp only at hSw);go_simp;try with_reducible rfl)
       go_simp
       refine wtk (i:=2) (v:=Value.bool true) rfl (Or.inl ⟨by rfl,?hhrd2⟩) (by assumption) ?rrrd2
       case hhrd2=>(intro wz9 hSw;(try dsimp only at hSw);go_simp;try with_reducible rfl)
       go_simp
       refine wtk (i:=3) (v:=?vvrd3) rfl (Or.inl ⟨by rfl,?hhrd3⟩) (by assumption) ?rrrd3
       case hhrd3=>(intro wz9 hSw;(try dsimp only at hSw);go_simp;try with_reducible rfl)
       go_simp
       refine wtk (i:=4) (v:=?vvrd4) rfl (Or.inl ⟨by rfl,?hhrd4⟩) (by assumption) ?rrrd4
       case hhrd4=>(intro wz9 hSw;(try dsimp only at hSw);go_simp;try with_reducible rfl)
       go_simp
       refine wtk (i:=5) (v:=Value.int .i64 (i:Nat)) rfl (Or.inl ⟨by rfl,?hhrd5⟩) (by assumption) ?rrrd5
       case hhrd5=>(intro wz9 hSw;(try dsimp only at hSw);go_simp;(try rw[hwi]);(try rw[if_pos h0i]);try with_reducible rfl)
       go_simp
       refine wtk (i:=6) (v:=?vvrd6) rfl (Or.inl ⟨by rfl,?hhrd6⟩) (by assumption) ?rrrd6
       case hhrd6=>(intro wz9 hSw;(try dsimp only at hSw);go_simp;try with_reducible rfl)
       go_simp
       refine wtk (i:=7) (v:=?vvrd7) rfl (Or.inl ⟨by rfl,?hhrd7⟩) (by assumption) ?rrrd7
       case hhrd7=>(intro wz9 hSw;(try dsimp only at hSw);go_simp;try with_reducible rfl)
       go_simp
       refine wtk (i:=8) (v:=Value.int .u8 pid) rfl (Or.inl ⟨by rfl,?hhrd8⟩) (by assumption) ?rrrd8
       case hhrd8=>(intro wz9 hSw;(try dsimp only at hSw);go_simp;try with_reducible rfl)
       go_simp
       refine wtk (i:=9) (v:=?vvrd9) rfl (Or.inl ⟨by rfl,?hhrd9⟩) (by assumption) ?rrrd9
       case hhrd9=>(intro wz9 hSw;(try dsimp only at hSw);go_simp;try with_reducible rfl)
       go_simp
       refine wtk (i:=10) (v:=?vvrd10) rfl (Or.inl ⟨by rfl,?hhrd10⟩) (by assumption) ?rrrd10
       case hhrd10=>(intro wz9 hSw;(try dsimp only at hSw);go_simp;try with_reducible rfl)
       go_simp
       refine wtk (i:=11) (v:=?vvrd11) rfl (Or.inl ⟨by rfl,?hhrd11⟩) (by assumption) ?rrrd11
       case hhrd11=>(intro wz9 hSw;(try dsimp only at hSw);go_simp;(try rw[hwi]);(try rw[if_pos h0i]);try with_reducible rfl)
       go_simp
       refine wtk (i:=12) (v:=?vvrd12) rfl (Or.inl ⟨by rfl,?hhrd12⟩) (by assumption) ?rrrd12
       case hhrd12=>(intro wz9 hSw;(try dsimp only at hSw);go_simp;try with_reducible rfl)
       go_simp
       refine wtk (i:=13) (v:=Value.int .u8 id) rfl (Or.inl ⟨by rfl,?hhrd13⟩) (by assumption) ?rrrd13
       case hhrd13=>(intro wz9 hSw;(try dsimp only at hSw);go_simp;try with_reducible rfl)
       go_simp
       refine wtk (i:=14) (v:=Value.bool true) rfl (Or.inl ⟨by rfl,?hhrd14⟩) (by assumption) ?rrrd14
       case hhrd14=>(intro wz9 hSw;(try dsimp only at hSw);go_simp;try with_reducible rfl)
       go_simp
       refine wtk (i:=15) (v:=Value.bool true) rfl (Or.inl ⟨by rfl,?hhrd15⟩) (by assumption) ?rrrd15
       case hhrd15=>(intro wz9 hSw;(try dsimp only at hSw);go_simp;try with_reducible rfl)
       go_simp
       refine wtk (i:=16) (v:=undef) rfl (Or.inr ⟨by rfl,rfl⟩) (by assumption) ?_
       go_simp
       refine wtk (i:=17) (v:=undef) rfl (Or.inr ⟨by rfl,rfl⟩) (by assumption) ?_
       go_simp
       refine wtk (i:=18) (v:=undef) rfl (Or.inr ⟨by rfl,rfl⟩) (by assumption) ?_
       go_simp
       refine wtk (i:=19) (v:=undef) rfl (Or.inr ⟨by rfl,rfl⟩) (by assumption) ?_
       go_simp
       refine wtk (i:=20) (v:=undef) rfl (Or.inr ⟨by rfl,rfl⟩) (by assumption) ?_
       go_simp
       refine wtk (i:=21) (v:=undef) rfl (Or.inr ⟨by rfl,rfl⟩) (by assumption) ?_
       go_simp
       refine wtk (i:=22) (v:=undef) rfl (Or.inr ⟨by rfl,rfl⟩) (by assumption) ?_
       go_simp
       refine wtk (i:=23) (v:=undef) rfl (Or.inr ⟨by rfl,rfl⟩) (by assumption) ?_
       go_simp
       refine wtk (i:=24) (v:=undef) rfl (Or.inr ⟨by rfl,rfl⟩) (by assumption) ?_
       go_simp
       refine wtk (i:=25) (v:=undef) rfl (Or.inr ⟨by rfl,rfl⟩) (by assumption) ?_
       go_simp
       refine wtk (i:=26) (v:=undef) rfl (Or.inr ⟨by rfl,rfl⟩) (by assumption) ?_
       go_simp
       refine wtk (i:=27) (v:=undef) rfl (Or.inr ⟨by rfl,rfl⟩) (by assumption) ?_
       go_simp
       refine wtk (i:=28) (v:=undef) rfl (Or.inr ⟨by rfl,rfl⟩) (by assumption) ?_
       go_simp
       refine wtk (i:=29) (v:=undef) rfl (Or.inr ⟨by rfl,rfl⟩) (by assumption) ?_
       go_simp
       refine wtk (i:=30) (v:=undef) rfl (Or.inr ⟨by rfl,rfl⟩) (by assumption) ?_
       go_simp
       refine wtk (i:=31) (v:=undef) rfl (Or.inr ⟨by rfl,rfl⟩) (by assumption) ?_
       go_simp
       refine wtk (i:=32) (v:=undef) rfl (Or.inr ⟨by rfl,rfl⟩) (by assumption) ?_
       go_simp
       refine wtk (i:=33) (v:=undef) rfl (Or.inr ⟨by rfl,rfl⟩) (by assumption) ?_
       go_simp
       refine wtk (i:=34) (v:=undef) rfl (Or.inr ⟨by rfl,rfl⟩) (by assumption) ?_
       go_simp
       refine wtk (i:=35) (v:=undef) rfl (Or.inr ⟨by rfl,rfl⟩) (by assumption) ?_
       go_simp
       refine wtk (i:=36) (v:=undef) rfl (Or.inr ⟨by rfl,rfl⟩) (by assumption) ?_
       go_simp
       refine wtk (i:=37) (v:=undef) rfl (Or.inr ⟨by rfl,rfl⟩) (by assumption) ?_
       go_simp
       refine wtk (i:=38) (v:=Value.bool true) rfl (Or.inl ⟨by rfl,?hhrd38⟩) (by assumption) ?rrrd38
       case hhrd38=>(intro wz9 hSw;(try dsimp only at hSw);go_simp;try with_reducible rfl)
       go_simp
       refine wtk (i:=39) (v:=Value.bool true) rfl (Or.inl ⟨by rfl,?hhrd39⟩) (by assumption) ?rrrd39
       case hhrd39=>(intro wz9 hSw;(try dsimp only at hSw);go_simp;try with_reducible rfl)
       go_simp
       refine wpAnyH_done (by kernel_rfl) ?_ _
       go_wp2
       go_ret
       exact ⟨by rw[HE.out];rfl,hk9.drew⟩
  ·have HE:Hid (R=(s2||!s1)):=Lib.hid (by rw[← HG.out,List.drop_of_length_le (by omega)];rfl)
   have hrr:=Lib.hid (hr.keptNo hk);clear HG HR
   go_wp2_with fail
   go_at_call 44
   refine (HG1.out _ hrr.out).mono ?_;rintro e w2 ⟨rfl,hk2⟩
   go_wp2_with fail
   go_at_call 44
   refine (HG2.out _ (hrr.out.keptNo (hk2.alloc _))).mono ?_;rintro e w3 ⟨rfl,hk3⟩;rcases s2 with _|_
   ·go_wp2
    go_ret
    exact ⟨by rw[HE.out];simp,(((hk.trans hk2).alloc _).trans hk3).alloc _⟩
   ·go_wp2
    go_ret
    exact ⟨by rw[HE.out];simp,(((hk.trans hk2).alloc _).trans hk3).alloc _⟩
end Go.Proofs.YtdeecgmihfakgaaGreatDoor
