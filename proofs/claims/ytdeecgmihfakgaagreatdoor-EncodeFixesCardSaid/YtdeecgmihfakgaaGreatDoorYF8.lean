import Derived.Test.YtdeecgmihfakgaaGreatDoorYF5
import Derived.Test.YtdeecgmihfakgaaGreatDoorYF6
import Derived.Test.YtdeecgmihfakgaaGreatDoorYF7
import Derived.Test.YtdeecgmihfakgaaGreatDoorYFN
import Derived.Test.YtdeecgmihfakgaaGreatDoorYF3
namespace Go.Proofs.YtdeecgmihfakgaaGreatDoor
open Go.RowKit
set_option linter.unusedVariables false
set_option linter.unusedSimpArgs false
set_option maxRecDepth 100000
def jOz (s:Nat) (Bs:List (List Pr)):Prop:=∀ B∈Bs,B.length=s∧Srt B
structure Rst (L:List Pr) (s:Nat) (Bs:List (List Pr)) (R:List Pr):Prop where
 blks:jOz s Bs
 ste:Ste L (Bs.flatten++R)
 len:Bs.flatten.length+R.length=L.length
theorem Rst.done {L:List Pr} {s:Nat} {Bs:List (List Pr)} {R:List Pr} (h:Rst L s Bs R) (hR:Srt R) (hs:L.length≤s):qS L=Bs.flatten++R:=by
 refine j4h ?_ h.ste;cases Bs with
 | nil=>simpa using hR
 | cons B t =>
  have h1:=h.len;have h2:=(h.blks B (by simp)).1;simp at h1;have e1:R=[]:=List.length_eq_zero_iff.1 (by omega);have e2:t.flatten=[]:=List.length_eq_zero_iff.1 (by rw[List.length_flatten];omega);rw[List.flatten_cons,e1,e2];simpa using (h.blks B (by simp)).2
theorem jBs {w:World} {t:TypeId} {base n c:Nat} {a:Option Addr} {L:List Pr} (h:w.ownsRow base t 4 (.slice a n c) n (PC L)) (h0:0<n) (hl:n=L.length) :
  ∃ g X,a=some ⟨g,0,none⟩∧base≤g∧n≤c∧Dat t w g X L∧(∀ L' w',L'.length=n→Dat t w' g X L'→w'.ownsRow base t 4 (.slice a n c) n (PC L')):=by
 rcases h.2 with ⟨hv,h9⟩|⟨g,cap,cur,hv,hg,hb,hn,hm,hs,hx⟩
 ·omega
 ·injection hv with e1 e2 e3
  subst e1 e3
  have hcur:cur=(PC L++cur.toList.drop (n*4)).toArray:=by
   rw[← hx,List.take_append_drop]
  refine ⟨g,cur.toList.drop (n*4),rfl,hg,hn,?_,?_⟩
  ·unfold Dat Blk
   rw[← hcur];exact hb
  ·intro L' w' hl' hd
   refine ⟨by rw[xB,hl'],.inr ⟨g,c,_,rfl,hg,hd,hn,hm,?_,?_⟩⟩
   ·have:cur.toList.length=c*4:=by rw[Array.length_toList];exact hs
    have hnc:n*4≤c*4:=Nat.mul_le_mul_right 4 hn;simp only[List.size_toArray,List.length_append,List.length_drop,xB,hl'];omega
   ·have e:n*4=(PC L').length:=by rw[xB,hl']
    rw[e];simp
set_option maxHeartbeats 8000000 in
theorem jEu (a:Option Addr) (c0:Nat) (M:List Pr) (w:World) (hr:Row w a (PC M)) (hn:a=none→M.length=0∧c0=0) (hl:M.length≤100000) :
  Calls Tryz.prog 45 #[.slice a M.length c0] w (OwnP 92 w (qS M)):=by
 obtain ⟨i0,hi,hz0,hz1,hz2⟩:=info_parts j3i
 by_cases hM:M.length=0
 ·obtain rfl:M=[]:=List.length_eq_zero_iff.1 hM
  cases a with
  | none =>
   obtain ⟨_,rfl⟩:=hn rfl
   go_enter Tryz.func45,Tryz.ntmps45
   go_wp2_with (at_builtin;refine wpList_append_own_none rfl _ _ _ rfl w.heap.size 92 i0 4 Tryz.underlying23 hi _ _ _ rfl (zX w _ _ 4 (Nat.le_refl _)) rfl ?_)
   go_loopw [4] (λx wr=>x=.int .i64 1∧wr=w.alloc (.cells #[] 92)) (λ_ _=>0)
   case atStart=>exact ⟨rfl,rfl⟩
   case round =>
    obtain ⟨rfl,rfl⟩:=hrel
    go_wp2
    go_ret
    exact j9e (zX w _ 92 4 (Nat.le_refl _)) (by simp[qS]) (by simp[qS]) ((Kept.refl No w).alloc _)
  | some ad =>
   go_enter Tryz.func45,Tryz.ntmps45
   go_wp2_with (at_builtin;refine wpList_append_own _ rfl _ _ _ rfl w.heap.size 92 i0 _ 4 40 Tryz.underlying23 hi hz0 hz1 hz2 rfl (by decide) _ _ _ rfl (zX w _ _ 4 (Nat.le_refl _)) ad 0 c0 (PC []) rfl (by simp) ?c0 (zA _) ?c1 ?c2 ?c3 ?_;rotate_right;intro v1 w1 hown1 hg1 hv1)
   case c0=>intro j u hj;simp at hj
   case c1=>unfold maxLen;omega
   case c2=>omega
   case c3=>simp
   obtain ⟨a1,c1,rfl,_,_⟩:=j1b hown1;have hk1:Kept No w w1:=((Kept.refl No w).alloc _).grown hg1 (qq (zX w _ 92 4 (Nat.le_refl _)))
   go_wp2
   go_loopw [4] (λx wr=>x=.int .i64 1∧wr=w1) (λ_ _=>0)
   case atStart=>exact ⟨rfl,rfl⟩
   case round =>
    obtain ⟨rfl,rfl⟩:=hrel
    go_wp2
    go_ret
    exact j9e hown1 (by simp[qS]) (by simp[qS]) hk1
 have hM0:0<M.length:=by omega
 clear hM
 obtain ⟨ad,rfl⟩:∃ ad,a=some ad:=by
  cases a with
  | none=>have:=hn rfl;omega
  | some ad=>exact ⟨ad,rfl⟩
 obtain ⟨N,hNM⟩:∃ N,N=M.length:=⟨_,rfl⟩
 have hNb:N≤100000:=by omega
 have hN0:0<N:=by omega
 rw[← hNM];have HN:=Lib.hid hNM;have HC0:=Lib.hid ((hr.keptNo ((Kept.refl No w).alloc (.cells #[] 92))).at_add ad rfl);have HL0:Hid ((PC M).length=N*4):=Lib.hid (by rw[xB,hNM]);clear hr hn hl hM0 hNM
 go_enter Tryz.func45,Tryz.ntmps45
 go_wp2_with (at_builtin;refine wpList_append_own _ rfl _ _ _ rfl w.heap.size 92 i0 _ 4 40 Tryz.underlying23 hi hz0 hz1 hz2 rfl (by decide) _ _ _ rfl (zX w _ _ 4 (Nat.le_refl _)) ad N c0 (PC M) rfl HL0.out HC0.out (zA _) ?c1 ?c2 ?c3 ?_;rotate_right;intro v1 w1 hown1 hg1 hv1)
 case c1=>unfold maxLen;omega
 case c2=>omega
 case c3=>simp
 have hk1:Kept No w w1:=((Kept.refl No w).alloc _).grown hg1 (qq (zX w _ 92 4 (Nat.le_refl _)));rw[List.nil_append,Nat.zero_add]at hown1;obtain ⟨a1,c,rfl,_,_⟩:=j1b hown1;obtain ⟨g,X,rfl,hg,hnc,hd,hback⟩:=jBs hown1 hN0 HN.out;have HD:=Lib.hid hd;have HBK:=Lib.hid hback;have HK1:=Lib.hid hk1;clear hd hback hown1 hv1 hg1 hk1 HC0 HL0;generalize w1=wS at *
 go_wp2
 go_loopw [4] (λvi wr=>∃ (i:Nat) (M1 M2:List Pr),vi=.int .i64 i∧0<i∧i≤N+1∧Hid (M=M1++M2∧i=M1.length)∧Hid (Dat 92 wr g X (qS M1++M2))∧Kept (One g) wS wr) (λi _=>N+1 - (intOf i).toNat)
 case atStart =>
  rcases hMM:M with _|⟨x,M'⟩
  ·exfalso;have:=HN.out;rw[hMM]at this;simp at this;omega
  ·exact ⟨1,[x],M',rfl,by omega,by omega,Lib.hid ⟨rfl,rfl⟩,Lib.hid (by have:=HD.out;rw[hMM]at this;simpa [qS] using this),Kept.refl _ _⟩
 case round =>
  obtain ⟨i,M1,M2,rfl,hai,hib,HM,HR,hkw⟩:=hrel
  by_cases hlt:i<N
  ·have hltz:(i:Int)<(N:Int):=by omega
   have hiB:(i:Int)≤100000:=by omega
   obtain ⟨x,M2',rfl⟩:∃ x M2',M2=x :: M2':=by
    cases M2 with
    | nil=>exfalso;have h1:=HM.out;have h2:=HN.out;rw[h1.1]at h2;simp at h2;omega
    | cons x t=>exact ⟨x,t,rfl⟩
   go_wp2
   go_loopw [5] (λvj wr=>∃ (j:Nat) (N1 N2:List Pr),vj=.int .i64 j∧j≤i∧Hid (qS M1=N1++N2∧j=N1.length∧∀ y∈N2,x.id<y.id)∧Hid (Dat 92 wr g X (N1++(x :: (N2++M2'))))∧Kept (One g) wS wr) (λj _=>(intOf j).toNat)
   case atStart=>exact ⟨i,qS M1,[],rfl,Nat.le_refl _,Lib.hid ⟨by simp,by rw[jv];exact HM.out.2,by simp⟩,Lib.hid (by simpa using HR.out),hkw⟩
   case round =>
    obtain ⟨j,N1,N2,rfl,hji,HJ,HR2,hkw2⟩:=hrel
    have OUT:Hid ((N1=[]∨∃ N1' y,N1=N1'++[y]∧¬ x.id<y.id)→∀ wx,Dat 92 wx g X (N1++(x :: (N2++M2')))→Hid (M=(M1++[x])++M2'∧i+1=(M1++[x]).length)∧Hid (Dat 92 wx g X (qS (M1++[x])++M2'))):=Lib.hid (λh wx hd=>by
     refine ⟨Lib.hid ⟨by rw[HM.out.1];simp,by have:=HM.out.2;simp;omega⟩,Lib.hid ?_⟩;rw[jH5 HJ.out.1 h HJ.out.2.2];simpa using hd)
    by_cases hja:0<j
    ·obtain ⟨jp,rfl⟩:∃ jp,j=jp+1:=⟨j - 1,by omega⟩
     obtain ⟨N1',y,hN1⟩:∃ N1' y,N1=N1'++[y]:=by
      have h0:N1≠[]:=λh=>by have:=HJ.out.2.1;rw[h]at this;simp at this
      exact ⟨N1.dropLast,N1.getLast h0,(List.dropLast_concat_getLast h0).symm⟩
     have HNN:=Lib.hid hN1;have HP:Hid (jp=N1'.length∧jp+1=N1'.length+1+([]:List Pr).length):=Lib.hid (by have h1:=HJ.out.2.1;rw[hN1]at h1;simp at h1 ⊢;omega);have HR3:Hid (Dat 92 wr g X (N1'++y :: ([]++x :: (N2++M2')))):=Lib.hid (by have:=HR2.out;rw[hN1]at this;simpa using this);have HR4:Hid (∀ wx,Dat 92 wx g X (N1'++y :: ([]++x :: (N2++M2')))→Dat 92 wx g X (N1++(x :: (N2++M2')))):=Lib.hid (λwx h=>by rw[hN1];simpa using h);clear hN1;have hwp:IntKind.i64.wrap (jp:Int)=(jp:Int):=by rw[IntKind.wrap_i64];omega
     have jz:(jp:Int)+1<(N:Int):=by omega
     have jz1:(jp:Int)<(N:Int):=by omega
     have hjaz':(0:Int)<(jp:Int)+1:=by omega
     have p0:(0:Int)≤(jp:Int)+1:=by omega
     have e0:((jp:Int)+1).toNat=jp+1:=by omega
     have hD3:=HR3.out;generalize hLS:N1'++y :: ([]++x :: (N2++M2'))=LS at *;have HLS:=Lib.hid hLS;have hly:∀ wx,Dat 92 wx g X LS→(Instr.loadAt 92 (.pointer (some ⟨g,jp*4,none⟩))).run Tryz.prog wx=.ok y.val wx∧wx.cell? ⟨g,jp*4,none⟩=some (.int .u8 y.id):=λwx h=>by rw[← hLS]at h;exact ⟨h.loadR HP.out.1,(h.cells HP.out.1).1⟩
     have hlx:∀ wx,Dat 92 wx g X LS→(Instr.loadAt 92 (.pointer (some ⟨g,(jp+1)*4,none⟩))).run Tryz.prog wx=.ok x.val wx∧wx.cell? ⟨g,(jp+1)*4,none⟩=some (.int .u8 x.id):=λwx h=>by
      rw[← hLS]at h;have h2:Dat 92 wx g X ((N1'++[y])++x :: (N2++M2')):=by simpa using h
      have h3:jp+1=(N1'++[y]).length:=by have:=HP.out.1;simp;omega
      exact ⟨h2.loadR h3,(h2.cells h3).1⟩
     have HLY:=Lib.hid hly;have HLX:=Lib.hid hlx;clear hLS hly hlx
     by_cases hlv:x.id<y.id
     ·have hcI:(x.id:Int)<(y.id:Int):=by omega
      go_wp2
      refine wp_region_held_drew (S:=(λwx=>Dat 92 wx g X LS∧Kept No wr wx)) (by kernel_rfl) ?_ (λhHeld=>?_)
      ·exact ⟨hD3.kept (S:=No) ((Kept.refl No wr).drew) (λf=>f),(Kept.refl No wr).drew⟩
      refine wtk (i:=0) (v:=?vvsa0) rfl (Or.inl ⟨by rfl,?hhsa0⟩) (by assumption) ?rrsa0
      case hhsa0=>(intro wz9 hSw;(try dsimp only at hSw);go_simp;try with_reducible rfl)
      go_simp
      refine wtk (i:=1) (v:=(.bool true)) rfl (Or.inl ⟨by rfl,?hhsa1⟩) (by assumption) ?rrsa1
      case hhsa1=>(intro wz9 hSw;(try dsimp only at hSw);go_simp;try with_reducible rfl)
      go_simp
      refine wtk (i:=2) (v:=(.bool true)) rfl (Or.inl ⟨by rfl,?hhsa2⟩) (by assumption) ?rrsa2
      case hhsa2=>(intro wz9 hSw;(try dsimp only at hSw);go_simp;try with_reducible rfl)
      go_simp
      refine wtk (i:=3) (v:=(.slice (some ⟨g,0,none⟩) N c)) rfl (Or.inl ⟨by rfl,?hhsa3⟩) (by assumption) ?rrsa3
      case hhsa3=>(intro wz9 hSw;(try dsimp only at hSw);go_simp;try with_reducible rfl)
      go_simp
      refine wtk (i:=4) (v:=?vvsa4) rfl (Or.inl ⟨by rfl,?hhsa4⟩) (by assumption) ?rrsa4
      case hhsa4=>(intro wz9 hSw;(try dsimp only at hSw);go_simp;try with_reducible rfl)
      go_simp
      refine wtk (i:=5) (v:=(.int .i64 (jp:Int))) rfl (Or.inl ⟨by rfl,?hhsa5⟩) (by assumption) ?rrsa5
      case hhsa5=>(intro wz9 hSw;clear hSw;go_simp;first|done|rw[hwp]|omega)
      go_simp
      refine wtk (i:=6) (v:=(.pointer (some ⟨g,jp*4,none⟩))) rfl (Or.inl ⟨by rfl,?hhsa6⟩) (by assumption) ?rrsa6
      case hhsa6=>(intro wz9 hSw;(try dsimp only at hSw);go_simp;try with_reducible rfl)
      go_simp
      refine wtk (i:=7) (v:=(.pointer (some ⟨g,jp*4,none⟩))) rfl (Or.inl ⟨by rfl,?hhsa7⟩) (by assumption) ?rrsa7
      case hhsa7=>(intro wz9 hSw;(try dsimp only at hSw);go_simp;try with_reducible rfl)
      go_simp
      refine wtk (i:=8) (v:=(.int .u8 (y.id:Int))) rfl (Or.inl ⟨by rfl,?hhsa8⟩) (by assumption) ?rrsa8
      case hhsa8=>(intro wz9 hSw;have hc:=(HLY.out wz9 hSw.1).2;clear hSw;go_simp;try with_reducible rfl)
      go_simp
      refine wtk (i:=9) (v:=(.slice (some ⟨g,0,none⟩) N c)) rfl (Or.inl ⟨by rfl,?hhsa9⟩) (by assumption) ?rrsa9
      case hhsa9=>(intro wz9 hSw;(try dsimp only at hSw);go_simp;try with_reducible rfl)
      go_simp
      refine wtk (i:=10) (v:=?vvsa10) rfl (Or.inl ⟨by rfl,?hhsa10⟩) (by assumption) ?rrsa10
      case hhsa10=>(intro wz9 hSw;(try dsimp only at hSw);go_simp;try with_reducible rfl)
      go_simp
      refine wtk (i:=11) (v:=(.pointer (some ⟨g,(jp+1)*4,none⟩))) rfl (Or.inl ⟨by rfl,?hhsa11⟩) (by assumption) ?rrsa11
      case hhsa11=>(intro wz9 hSw;(try dsimp only at hSw);go_simp;try with_reducible rfl)
      go_simp
      refine wtk (i:=12) (v:=(.pointer (some ⟨g,(jp+1)*4,none⟩))) rfl (Or.inl ⟨by rfl,?hhsa12⟩) (by assumption) ?rrsa12
      case hhsa12=>(intro wz9 hSw;(try dsimp only at hSw);go_simp;try with_reducible rfl)
      go_simp
      refine wtk (i:=13) (v:=(.int .u8 (x.id:Int))) rfl (Or.inl ⟨by rfl,?hhsa13⟩) (by assumption) ?rrsa13
      case hhsa13=>(intro wz9 hSw;have hc:=(HLX.out wz9 hSw.1).2;clear hSw;go_simp;try with_reducible rfl)
      go_simp
      refine wtk (i:=14) (v:=(.bool true)) rfl (Or.inl ⟨by rfl,?hhsa14⟩) (by assumption) ?rrsa14
      case hhsa14=>(intro wz9 hSw;(try dsimp only at hSw);go_simp;try with_reducible rfl)
      go_simp
      refine wtk (i:=15) (v:=(.bool true)) rfl (Or.inl ⟨by rfl,?hhsa15⟩) (by assumption) ?rrsa15
      case hhsa15=>(intro wz9 hSw;(try dsimp only at hSw);go_simp;try with_reducible rfl)
      go_simp
      refine wpAnyH_done (by kernel_rfl) ?_ _
      go_wp2
      have hD4:=hHeld.1;have hk4:=hkw2.trans hHeld.2.any;clear hHeld hD3;generalize wr.drew=w3 at *;have hWD:Dat 92 w3.drew g X LS:=hD4.kept (S:=No) ((Kept.refl No w3).drew) (λf=>f);have hKD:Kept (One g) wS w3.drew:=hk4.drew;clear hD4 hk4;refine wp_region_any (by kernel_rfl) ?_
      try (change wpAny _ _ _ _ _ _ _ (World.drew _))
      generalize w3.drew=wD at *;have hWD2:=hWD;rw[← HLS.out]at hWD2;obtain ⟨w1,st1,k1,w2,st2,k2,d2⟩:=hWD2.swap1R HP.out.1 HP.out.2;have HLI:=Lib.hid (HLY.out wD hWD).1;have HLJ:=Lib.hid (HLX.out wD hWD).1;have HST1:=Lib.hid st1;have HST2:=Lib.hid st2;have HD2:=Lib.hid d2;clear st1 st2 hWD hWD2 d2;refine wpAny_take (i:=0) (v:=(.slice (some ⟨g,0,none⟩) N c)) rfl (by kernel_rfl) (by kernel_rfl) (by kernel_rfl) (λ_ _ _ h=>h) (Or.inl ⟨by rfl,?hhsx0⟩) ?rrsx0
      case hhsx0=>(intro wz9;go_simp;try with_reducible rfl)
      go_simp
      refine wpAny_take (i:=1) (v:=(.int .i64 ((jp:Int)+1))) rfl (by kernel_rfl) (by kernel_rfl) (by kernel_rfl) (λ_ _ _ h=>h) (Or.inl ⟨by rfl,?hhsx1⟩) ?rrsx1
      case hhsx1=>(intro wz9;go_simp;try with_reducible rfl)
      go_simp
      refine wpAny_take (i:=2) (v:=(.int .i64 (jp:Int))) rfl (by kernel_rfl) (by kernel_rfl) (by kernel_rfl) (λ_ _ _ h=>h) (Or.inl ⟨by rfl,?hhsx2⟩) ?rrsx2
      case hhsx2=>(intro wz9;go_simp;first|done|rw[hwp]|omega)
      go_simp
      refine wpAny_take (i:=3) (v:=(.slice (some ⟨g,0,none⟩) N c)) rfl (by kernel_rfl) (by kernel_rfl) (by kernel_rfl) (λ_ _ _ h=>h) (Or.inl ⟨by rfl,?hhsx3⟩) ?rrsx3
      case hhsx3=>(intro wz9;go_simp;try with_reducible rfl)
      go_simp
      refine wpAny_take (i:=4) (v:=(.int .i64 ((jp:Int)+1))) rfl (by kernel_rfl) (by kernel_rfl) (by kernel_rfl) (λ_ _ _ h=>h) (Or.inl ⟨by rfl,?hhsx4⟩) ?rrsx4
      case hhsx4=>(intro wz9;go_simp;try with_reducible rfl)
      go_simp
      refine wpAny_take (i:=5) (v:=(.slice (some ⟨g,0,none⟩) N c)) rfl (by kernel_rfl) (by kernel_rfl) (by kernel_rfl) (λ_ _ _ h=>h) (Or.inl ⟨by rfl,?hhsx5⟩) ?rrsx5
      case hhsx5=>(intro wz9;go_simp;try with_reducible rfl)
      go_simp
      refine wpAny_take (i:=6) (v:=(.int .i64 ((jp:Int)+1))) rfl (by kernel_rfl) (by kernel_rfl) (by kernel_rfl) (λ_ _ _ h=>h) (Or.inl ⟨by rfl,?hhsx6⟩) ?rrsx6
      case hhsx6=>(intro wz9;go_simp;try with_reducible rfl)
      go_simp
      refine wpAny_take (i:=7) (v:=(.pointer (some ⟨g,(jp+1)*4,none⟩))) rfl (by kernel_rfl) (by kernel_rfl) (by kernel_rfl) (λ_ _ _ h=>h) (Or.inl ⟨by rfl,?hhsx7⟩) ?rrsx7
      case hhsx7=>(intro wz9;go_simp;try with_reducible rfl)
      go_simp
      refine wpAny_take (i:=9) (v:=(.slice (some ⟨g,0,none⟩) N c)) rfl (by kernel_rfl) (by kernel_rfl) (by kernel_rfl) (λ_ _ _ h=>h) (Or.inl ⟨by rfl,?hhsx9⟩) ?rrsx9
      case hhsx9=>(intro wz9;go_simp;try with_reducible rfl)
      go_simp
      refine wpAny_take (i:=10) (v:=(.int .i64 ((jp:Int)+1))) rfl (by kernel_rfl) (by kernel_rfl) (by kernel_rfl) (λ_ _ _ h=>h) (Or.inl ⟨by rfl,?hhsx10⟩) ?rrsx10
      case hhsx10=>(intro wz9;go_simp;try with_reducible rfl)
      go_simp
      refine wpAny_take (i:=11) (v:=(.int .i64 (jp:Int))) rfl (by kernel_rfl) (by kernel_rfl) (by kernel_rfl) (λ_ _ _ h=>h) (Or.inl ⟨by rfl,?hhsx11⟩) ?rrsx11
      case hhsx11=>(intro wz9;go_simp;first|done|rw[hwp]|omega)
      go_simp
      refine wpAny_take (i:=12) (v:=(.pointer (some ⟨g,jp*4,none⟩))) rfl (by kernel_rfl) (by kernel_rfl) (by kernel_rfl) (λ_ _ _ h=>h) (Or.inl ⟨by rfl,?hhsx12⟩) ?rrsx12
      case hhsx12=>(intro wz9;go_simp;try with_reducible rfl)
      go_simp
      refine wpAny_ready (rs:=[8,13]) (by kernel_rfl) (by simp) ?_;refine AllReady.cons rfl (λK9 hK9=>?_) (AllReady.cons rfl (λK9 hK9=>?_) AllReady.nil)
      ·refine (if_pos (show Region.wanted _ _=true from rfl)).mpr ?_
       refine j4a 92 (.tmp 41) rfl rfl HLJ.out ?_;refine hK9 _ _ ?_;clear hK9 K9
       go_simp
       refine wpAny_ready (rs:=[13]) (by kernel_rfl) (by simp) ?_;refine AllReady.cons rfl (λK9 hK9=>?_) AllReady.nil;refine (if_pos (show Region.wanted _ _=true from rfl)).mpr ?_;refine j4a 92 (.tmp 46) rfl rfl HLI.out ?_;refine hK9 _ _ ?_;clear hK9 K9
       go_simp
       refine wpAny_take (i:=14) (v:=(.pointer (some ⟨g,jp*4,none⟩))) rfl (by kernel_rfl) (by kernel_rfl) (by kernel_rfl) (λ_ _ _ h=>h) (Or.inl ⟨by rfl,?hhsxp14⟩) ?rrsxp14
       case hhsxp14=>(intro wz9;go_simp;try with_reducible rfl)
       go_simp
       refine wpAny_ready (rs:=[15]) (by kernel_rfl) (by simp) ?_;refine AllReady.cons rfl (λK9 hK9=>?_) AllReady.nil;refine (if_pos (show Region.wanted _ _=true from rfl)).mpr ?_;refine j2y 92 (.tmp 48) (.tmp 42) rfl rfl rfl HST1.out ?_;refine hK9 _ _ ?_;clear hK9 K9
       go_simp
       refine wpAny_take (i:=16) (v:=(.pointer (some ⟨g,(jp+1)*4,none⟩))) rfl (by kernel_rfl) (by kernel_rfl) (by kernel_rfl) (λ_ _ _ h=>h) (Or.inl ⟨by rfl,?hhsxp16⟩) ?rrsxp16
       case hhsxp16=>(intro wz9;go_simp;try with_reducible rfl)
       go_simp
       refine wpAny_ready (rs:=[17]) (by kernel_rfl) (by simp) ?_;refine AllReady.cons rfl (λK9 hK9=>?_) AllReady.nil;refine (if_pos (show Region.wanted _ _=true from rfl)).mpr ?_;refine j2y 92 (.tmp 49) (.tmp 47) rfl rfl rfl HST2.out ?_;refine hK9 _ _ ?_;clear hK9 K9
       go_simp
       refine wpAny_done (by kernel_rfl) ?_ _
       go_wp2
       go_roundw
       case rel=>exact ⟨jp,N1',y :: N2,by first|rfl|go_num,by omega,Lib.hid (by have h1:=HJ.out;have h2:=HNN.out;exact ⟨by rw[h1.1,h2];simp,by have:=h1.2.1;rw[h2]at this;simp at this;omega,λz hz=>by rcases List.mem_cons.1 hz with rfl|hz;exact hlv;exact h1.2.2 z hz⟩),Lib.hid (by simpa using HD2.out),(hKD.trans k1).trans k2⟩
       case measure=>simp[intOf]
      ·refine (if_pos (show Region.wanted _ _=true from rfl)).mpr ?_
       refine j4a 92 (.tmp 46) rfl rfl HLI.out ?_;refine hK9 _ _ ?_;clear hK9 K9
       go_simp
       refine wpAny_ready (rs:=[8]) (by kernel_rfl) (by simp) ?_;refine AllReady.cons rfl (λK9 hK9=>?_) AllReady.nil;refine (if_pos (show Region.wanted _ _=true from rfl)).mpr ?_;refine j4a 92 (.tmp 41) rfl rfl HLJ.out ?_;refine hK9 _ _ ?_;clear hK9 K9
       go_simp
       refine wpAny_take (i:=14) (v:=(.pointer (some ⟨g,jp*4,none⟩))) rfl (by kernel_rfl) (by kernel_rfl) (by kernel_rfl) (λ_ _ _ h=>h) (Or.inl ⟨by rfl,?hhsxq14⟩) ?rrsxq14
       case hhsxq14=>(intro wz9;go_simp;try with_reducible rfl)
       go_simp
       refine wpAny_ready (rs:=[15]) (by kernel_rfl) (by simp) ?_;refine AllReady.cons rfl (λK9 hK9=>?_) AllReady.nil;refine (if_pos (show Region.wanted _ _=true from rfl)).mpr ?_;refine j2y 92 (.tmp 48) (.tmp 42) rfl rfl rfl HST1.out ?_;refine hK9 _ _ ?_;clear hK9 K9
       go_simp
       refine wpAny_take (i:=16) (v:=(.pointer (some ⟨g,(jp+1)*4,none⟩))) rfl (by kernel_rfl) (by kernel_rfl) (by kernel_rfl) (λ_ _ _ h=>h) (Or.inl ⟨by rfl,?hhsxq16⟩) ?rrsxq16
       case hhsxq16=>(intro wz9;go_simp;try with_reducible rfl)
       go_simp
       refine wpAny_ready (rs:=[17]) (by kernel_rfl) (by simp) ?_;refine AllReady.cons rfl (λK9 hK9=>?_) AllReady.nil;refine (if_pos (show Region.wanted _ _=true from rfl)).mpr ?_;refine j2y 92 (.tmp 49) (.tmp 47) rfl rfl rfl HST2.out ?_;refine hK9 _ _ ?_;clear hK9 K9
       go_simp
       refine wpAny_done (by kernel_rfl) ?_ _
       go_wp2
       go_roundw
       case rel=>exact ⟨jp,N1',y :: N2,by first|rfl|go_num,by omega,Lib.hid (by have h1:=HJ.out;have h2:=HNN.out;exact ⟨by rw[h1.1,h2];simp,by have:=h1.2.1;rw[h2]at this;simp at this;omega,λz hz=>by rcases List.mem_cons.1 hz with rfl|hz;exact hlv;exact h1.2.2 z hz⟩),Lib.hid (by simpa using HD2.out),(hKD.trans k1).trans k2⟩
       case measure=>simp[intOf]
     ·have hcI:¬ (y.id:Int) > (x.id:Int):=by omega
      have hcI2:¬ (x.id:Int)<(y.id:Int):=by omega
      go_wp2
      refine wp_region_held_drew (S:=(λwx=>Dat 92 wx g X LS∧Kept No wr wx)) (by kernel_rfl) ?_ (λhHeld=>?_)
      ·exact ⟨hD3.kept (S:=No) ((Kept.refl No wr).drew) (λf=>f),(Kept.refl No wr).drew⟩
      refine wtk (i:=0) (v:=?vvsb0) rfl (Or.inl ⟨by rfl,?hhsb0⟩) (by assumption) ?rrsb0
      case hhsb0=>(intro wz9 hSw;(try dsimp only at hSw);go_simp;try with_reducible rfl)
      go_simp
      refine wtk (i:=1) (v:=(.bool true)) rfl (Or.inl ⟨by rfl,?hhsb1⟩) (by assumption) ?rrsb1
      case hhsb1=>(intro wz9 hSw;(try dsimp only at hSw);go_simp;try with_reducible rfl)
      go_simp
      refine wtk (i:=2) (v:=(.bool true)) rfl (Or.inl ⟨by rfl,?hhsb2⟩) (by assumption) ?rrsb2
      case hhsb2=>(intro wz9 hSw;(try dsimp only at hSw);go_simp;try with_reducible rfl)
      go_simp
      refine wtk (i:=3) (v:=(.slice (some ⟨g,0,none⟩) N c)) rfl (Or.inl ⟨by rfl,?hhsb3⟩) (by assumption) ?rrsb3
      case hhsb3=>(intro wz9 hSw;(try dsimp only at hSw);go_simp;try with_reducible rfl)
      go_simp
      refine wtk (i:=4) (v:=?vvsb4) rfl (Or.inl ⟨by rfl,?hhsb4⟩) (by assumption) ?rrsb4
      case hhsb4=>(intro wz9 hSw;(try dsimp only at hSw);go_simp;try with_reducible rfl)
      go_simp
      refine wtk (i:=5) (v:=(.int .i64 (jp:Int))) rfl (Or.inl ⟨by rfl,?hhsb5⟩) (by assumption) ?rrsb5
      case hhsb5=>(intro wz9 hSw;clear hSw;go_simp;first|done|rw[hwp]|omega)
      go_simp
      refine wtk (i:=6) (v:=(.pointer (some ⟨g,jp*4,none⟩))) rfl (Or.inl ⟨by rfl,?hhsb6⟩) (by assumption) ?rrsb6
      case hhsb6=>(intro wz9 hSw;(try dsimp only at hSw);go_simp;try with_reducible rfl)
      go_simp
      refine wtk (i:=7) (v:=(.pointer (some ⟨g,jp*4,none⟩))) rfl (Or.inl ⟨by rfl,?hhsb7⟩) (by assumption) ?rrsb7
      case hhsb7=>(intro wz9 hSw;(try dsimp only at hSw);go_simp;try with_reducible rfl)
      go_simp
      refine wtk (i:=8) (v:=(.int .u8 (y.id:Int))) rfl (Or.inl ⟨by rfl,?hhsb8⟩) (by assumption) ?rrsb8
      case hhsb8=>(intro wz9 hSw;have hc:=(HLY.out wz9 hSw.1).2;clear hSw;go_simp;try with_reducible rfl)
      go_simp
      refine wtk (i:=9) (v:=(.slice (some ⟨g,0,none⟩) N c)) rfl (Or.inl ⟨by rfl,?hhsb9⟩) (by assumption) ?rrsb9
      case hhsb9=>(intro wz9 hSw;(try dsimp only at hSw);go_simp;try with_reducible rfl)
      go_simp
      refine wtk (i:=10) (v:=?vvsb10) rfl (Or.inl ⟨by rfl,?hhsb10⟩) (by assumption) ?rrsb10
      case hhsb10=>(intro wz9 hSw;(try dsimp only at hSw);go_simp;try with_reducible rfl)
      go_simp
      refine wtk (i:=11) (v:=(.pointer (some ⟨g,(jp+1)*4,none⟩))) rfl (Or.inl ⟨by rfl,?hhsb11⟩) (by assumption) ?rrsb11
      case hhsb11=>(intro wz9 hSw;(try dsimp only at hSw);go_simp;try with_reducible rfl)
      go_simp
      refine wtk (i:=12) (v:=(.pointer (some ⟨g,(jp+1)*4,none⟩))) rfl (Or.inl ⟨by rfl,?hhsb12⟩) (by assumption) ?rrsb12
      case hhsb12=>(intro wz9 hSw;(try dsimp only at hSw);go_simp;try with_reducible rfl)
      go_simp
      refine wtk (i:=13) (v:=(.int .u8 (x.id:Int))) rfl (Or.inl ⟨by rfl,?hhsb13⟩) (by assumption) ?rrsb13
      case hhsb13=>(intro wz9 hSw;have hc:=(HLX.out wz9 hSw.1).2;clear hSw;go_simp;try with_reducible rfl)
      go_simp
      refine wtk (i:=14) (v:=(.bool false)) rfl (Or.inl ⟨by rfl,?hhsb14⟩) (by assumption) ?rrsb14
      case hhsb14=>(intro wz9 hSw;(try dsimp only at hSw);go_simp;try with_reducible rfl)
      go_simp
      refine wtk (i:=15) (v:=(.bool false)) rfl (Or.inl ⟨by rfl,?hhsb15⟩) (by assumption) ?rrsb15
      case hhsb15=>(intro wz9 hSw;(try dsimp only at hSw);go_simp;try with_reducible rfl)
      go_simp
      refine wpAnyH_done (by kernel_rfl) ?_ _
      go_wp2
      have HOO:=OUT.out (.inr ⟨N1',y,HNN.out,hlv⟩) wr.drew (HR4.out _ hHeld.1)
      go_roundw
      case rel=>exact ⟨i+1,M1++[x],M2',by go_num,by omega,by omega,HOO.1,HOO.2,hkw2.drew⟩
      case measure=>simp[intOf];omega
    ·have hjaz:decide ((j:Int) > 0)=false:=decide_eq_false (by omega)
     have hjaz':¬ (0:Int)<(j:Int):=by omega
     have hjzd:decide ((0:Int)<(j:Int))=false:=decide_eq_false (by omega);have h0:N1=[]:=List.length_eq_zero_iff.1 (by have:=HJ.out.2.1;omega);have HOO:=OUT.out (.inl h0) wr.drew (HR2.out.kept (S:=No) ((Kept.refl No wr).drew) (λf=>f));have HJ0:Hid (j=0):=Lib.hid (by omega);clear h0
     go_wp2
     refine wp_region_held_drew (S:=(λ_=>True)) (by kernel_rfl) ?_ (λhHeld=>?_)
     ·exact trivial
     refine wtk (i:=0) (v:=?vvsc0) rfl (Or.inl ⟨by rfl,?hhsc0⟩) (by assumption) ?rrsc0
     case hhsc0=>(intro wz9 hSw;(try dsimp only at hSw);go_simp;try with_reducible rfl)
     go_simp
     refine wtk (i:=1) (v:=(.bool false)) rfl (Or.inl ⟨by rfl,?hhsc1⟩) (by assumption) ?rrsc1
     case hhsc1=>(intro wz9 hSw;(try dsimp only at hSw);go_simp;try with_reducible rfl)
     go_simp
     refine wtk (i:=2) (v:=(.bool false)) rfl (Or.inl ⟨by rfl,?hhsc2⟩) (by assumption) ?rrsc2
     case hhsc2=>(intro wz9 hSw;(try dsimp only at hSw);go_simp;try with_reducible rfl)
     go_simp
     refine wtk (i:=3) (v:=undef) rfl (Or.inr ⟨by rfl,rfl⟩) (by assumption) ?_
     go_simp
     refine wtk (i:=4) (v:=undef) rfl (Or.inr ⟨by rfl,rfl⟩) (by assumption) ?_
     go_simp
     refine wtk (i:=5) (v:=undef) rfl (Or.inr ⟨by rfl,rfl⟩) (by assumption) ?_
     go_simp
     refine wtk (i:=6) (v:=undef) rfl (Or.inr ⟨by rfl,rfl⟩) (by assumption) ?_
     go_simp
     refine wtk (i:=7) (v:=undef) rfl (Or.inr ⟨by rfl,rfl⟩) (by assumption) ?_
     go_simp
     refine wtk (i:=8) (v:=undef) rfl (Or.inr ⟨by rfl,rfl⟩) (by assumption) ?_
     go_simp
     refine wtk (i:=9) (v:=undef) rfl (Or.inr ⟨by rfl,rfl⟩) (by assumption) ?_
     go_simp
     refine wtk (i:=10) (v:=undef) rfl (Or.inr ⟨by rfl,rfl⟩) (by assumption) ?_
     go_simp
     refine wtk (i:=11) (v:=undef) rfl (Or.inr ⟨by rfl,rfl⟩) (by assumption) ?_
     go_simp
     refine wtk (i:=12) (v:=undef) rfl (Or.inr ⟨by rfl,rfl⟩) (by assumption) ?_
     go_simp
     refine wtk (i:=13) (v:=undef) rfl (Or.inr ⟨by rfl,rfl⟩) (by assumption) ?_
     go_simp
     refine wtk (i:=14) (v:=undef) rfl (Or.inr ⟨by rfl,rfl⟩) (by assumption) ?_
     go_simp
     refine wtk (i:=15) (v:=(.bool false)) rfl (Or.inl ⟨by rfl,?hhsc15⟩) (by assumption) ?rrsc15
     case hhsc15=>(intro wz9 hSw;(try dsimp only at hSw);go_simp;try with_reducible rfl)
     go_simp
     refine wpAnyH_done (by kernel_rfl) ?_ _
     go_wp2
     go_roundw
     case rel=>exact ⟨i+1,M1++[x],M2',by go_num,by omega,by omega,HOO.1,HOO.2,hkw2.drew⟩
     case measure=>simp[intOf];omega
  ·have hltz:¬ (i:Int)<(N:Int):=by omega
   go_wp2
   go_ret
   have h1:=HM.out;have h2:=HN.out;have e2:M2=[]:=List.length_eq_zero_iff.1 (by rw[h1.1]at h2;simp at h2;omega);subst e2;have e3:M1=M:=by rw[h1.1];simp
   subst e3;refine ⟨some ⟨g,0,none⟩,c,by simp[jv,← h2],?_,HK1.out.then hkw (λi hi e=>by have:i=g:=e;omega)⟩;rw[jv,← h2];exact HBK.out _ _ (by rw[jv,← h2]) (by simpa using HR.out)
def jS (s:ByteArray):List UInt8:=jY ((s.size:Int) / 256) :: jY ((s.size:Int) % 256) :: s.data.toList
theorem Pr.sm.wf' {p:Pr} (h:p.sm):p.wf':=⟨h.hid,h.hn,by have:=h.ha;omega,by have:=h.hb;omega⟩
def Fewp (L:List Pr):Prop:=L.length≤30∧∀ p∈L,p.a.size≤200∧p.b.size≤200
theorem Fewp.wf {L:List Pr} (h:Fewp L) (hw:∀ p∈L,p.id<256∧p.n<4294967296):∀ p∈L,p.wf':=λp hp=>⟨(hw p hp).1,(hw p hp).2,by have:=h.2 p hp;omega,by have:=h.2 p hp;omega⟩
end Go.Proofs.YtdeecgmihfakgaaGreatDoor
