import Derived.Test.YtkochkhfbhjicaaGreatDoorYF5
import Derived.Test.YtkochkhfbhjicaaGreatDoorYF6
import Derived.Test.YtkochkhfbhjicaaGreatDoorYF7
import Derived.Test.YtkochkhfbhjicaaGreatDoorYFN
import Derived.Test.YtkochkhfbhjicaaGreatDoorYF3
namespace Go.Proofs.YtkochkhfbhjicaaGreatDoor
open Go.RowKit
set_option linter.unusedVariables false
set_option linter.unusedSimpArgs false
set_option maxRecDepth 100000
def jP1 (s:Nat) (Bs:List (List Pr)):Prop:=∀ B∈Bs,B.length=s∧Srt B
structure Rst (L:List Pr) (s:Nat) (Bs:List (List Pr)) (R:List Pr):Prop where
 blks:jP1 s Bs
 ste:Ste L (Bs.flatten++R)
 len:Bs.flatten.length+R.length=L.length
theorem Rst.done {L:List Pr} {s:Nat} {Bs:List (List Pr)} {R:List Pr} (h:Rst L s Bs R) (hR:Srt R) (hs:L.length≤s):jX L=Bs.flatten++R:=by
 refine j35 ?_ h.ste;cases Bs with
 | nil=>simpa using hR
 | cons B t =>
  have h1:=h.len;have h2:=(h.blks B (by simp)).1;simp at h1;have e1:R=[]:=List.length_eq_zero_iff.1 (by omega);have e2:t.flatten=[]:=List.length_eq_zero_iff.1 (by rw[List.length_flatten];omega);rw[List.flatten_cons,e1,e2];simpa using (h.blks B (by simp)).2
theorem jB7 {w:World} {t:TypeId} {base n c:Nat} {a:Option Addr} {L:List Pr} (h:w.ownsRow base t 4 (.slice a n c) n (PC L)) (h0:0<n) (hl:n=L.length) :
  ∃ g X,a=some ⟨g,0,none⟩∧base≤g∧n≤c∧Dat t w g X L∧(∀ L' w',L'.length=n→Dat t w' g X L'→w'.ownsRow base t 4 (.slice a n c) n (PC L')):=by
 rcases h.2 with ⟨hv,h9⟩|⟨g,cap,cur,hv,hg,hb,hn,hm,hs,hx⟩
 ·omega
 ·injection hv with e1 e2 e3
  subst e1 e3
  have hcur:cur=(PC L++cur.toList.drop (n*4)).toArray:=by
   rw[← hx,List.take_append_drop]
  refine ⟨g,cur.toList.drop (n*4),rfl,hg,hn,?_,?_⟩
  ·unfold Dat Blk
   rw[← hcur];exact hb
  ·intro L' w' hl' hd
   refine ⟨by rw[vh,hl'],.inr ⟨g,c,_,rfl,hg,hd,hn,hm,?_,?_⟩⟩
   ·have:cur.toList.length=c*4:=by rw[Array.length_toList];exact hs
    have hnc:n*4≤c*4:=Nat.mul_le_mul_right 4 hn;simp only[List.size_toArray,List.length_append,List.length_drop,vh,hl'];omega
   ·have e:n*4=(PC L').length:=by rw[vh,hl']
    rw[e];simp
set_option maxHeartbeats 8000000 in
theorem jEl (a:Option Addr) (c0:Nat) (M:List Pr) (w:World) (hr:Row w a (PC M)) (hn:a=none→M.length=0∧c0=0) (hl:M.length≤100000) :
  Calls Tryz.prog 14 #[.slice a M.length c0] w (OwnP 46 w (jX M)):=by
 obtain ⟨i0,hi,hz0,hz1,hz2⟩:=info_parts j2a
 by_cases hM:M.length=0
 ·obtain rfl:M=[]:=List.length_eq_zero_iff.1 hM
  cases a with
  | none =>
   obtain ⟨_,rfl⟩:=hn rfl
   go_enter Tryz.func14,Tryz.ntmps14
   go_wp2_with (at_builtin;refine wpList_append_own_none rfl _ _ _ rfl w.heap.size 46 i0 4 Tryz.underlying23 hi _ _ _ rfl (xv w _ _ 4 (Nat.le_refl _)) rfl ?_)
   go_loopw [4] (λx wr=>x=.int .i64 1∧wr=w.alloc (.cells #[] 46)) (λ_ _=>0)
   case atStart=>exact ⟨rfl,rfl⟩
   case round =>
    obtain ⟨rfl,rfl⟩:=hrel
    go_wp2
    go_ret
    exact j8z (xv w _ 46 4 (Nat.le_refl _)) (by simp[jX]) (by simp[jX]) ((Kept.refl No w).alloc _)
  | some ad =>
   go_enter Tryz.func14,Tryz.ntmps14
   go_wp2_with (at_builtin;refine wpList_append_own _ rfl _ _ _ rfl w.heap.size 46 i0 _ 4 40 Tryz.underlying23 hi hz0 hz1 hz2 rfl (by decide) _ _ _ rfl (xv w _ _ 4 (Nat.le_refl _)) ad 0 c0 (PC []) rfl (by simp) ?c0 (xX _) ?c1 ?c2 ?c3 ?_;rotate_right;intro v1 w1 hown1 hg1 hv1)
   case c0=>intro j u hj;simp at hj
   case c1=>unfold maxLen;omega
   case c2=>omega
   case c3=>simp
   obtain ⟨a1,c1,rfl,_,_⟩:=j1f hown1;have hk1:Kept No w w1:=((Kept.refl No w).alloc _).grown hg1 (vH (xv w _ 46 4 (Nat.le_refl _)))
   go_wp2
   go_loopw [4] (λx wr=>x=.int .i64 1∧wr=w1) (λ_ _=>0)
   case atStart=>exact ⟨rfl,rfl⟩
   case round =>
    obtain ⟨rfl,rfl⟩:=hrel
    go_wp2
    go_ret
    exact j8z hown1 (by simp[jX]) (by simp[jX]) hk1
 have hM0:0<M.length:=by omega
 clear hM
 obtain ⟨ad,rfl⟩:∃ ad,a=some ad:=by
  cases a with
  | none=>have:=hn rfl;omega
  | some ad=>exact ⟨ad,rfl⟩
 obtain ⟨N,hNM⟩:∃ N,N=M.length:=⟨_,rfl⟩
 have hNb:N≤100000:=by omega
 have hN0:0<N:=by omega
 rw[← hNM];have HN:=Lib.hid hNM;have HC0:=Lib.hid ((hr.keptNo ((Kept.refl No w).alloc (.cells #[] 46))).at_add ad rfl);have HL0:Hid ((PC M).length=N*4):=Lib.hid (by rw[vh,hNM]);clear hr hn hl hM0 hNM
 go_enter Tryz.func14,Tryz.ntmps14
 go_wp2_with (at_builtin;refine wpList_append_own _ rfl _ _ _ rfl w.heap.size 46 i0 _ 4 40 Tryz.underlying23 hi hz0 hz1 hz2 rfl (by decide) _ _ _ rfl (xv w _ _ 4 (Nat.le_refl _)) ad N c0 (PC M) rfl HL0.out HC0.out (xX _) ?c1 ?c2 ?c3 ?_;rotate_right;intro v1 w1 hown1 hg1 hv1)
 case c1=>unfold maxLen;omega
 case c2=>omega
 case c3=>simp
 have hk1:Kept No w w1:=((Kept.refl No w).alloc _).grown hg1 (vH (xv w _ 46 4 (Nat.le_refl _)));rw[List.nil_append,Nat.zero_add]at hown1;obtain ⟨a1,c,rfl,_,_⟩:=j1f hown1;obtain ⟨g,X,rfl,hg,hnc,hd,hback⟩:=jB7 hown1 hN0 HN.out;have HD:=Lib.hid hd;have HBK:=Lib.hid hback;have HK1:=Lib.hid hk1;clear hd hback hown1 hv1 hg1 hk1 HC0 HL0;generalize w1=wS at *
 go_wp2
 go_loopw [4] (λvi wr=>∃ (i:Nat) (M1 M2:List Pr),vi=.int .i64 i∧0<i∧i≤N+1∧Hid (M=M1++M2∧i=M1.length)∧Hid (Dat 46 wr g X (jX M1++M2))∧Kept (One g) wS wr) (λi _=>N+1 - (intOf i).toNat)
 case atStart =>
  rcases hMM:M with _|⟨x,M'⟩
  ·exfalso;have:=HN.out;rw[hMM]at this;simp at this;omega
  ·exact ⟨1,[x],M',rfl,by omega,by omega,Lib.hid ⟨rfl,rfl⟩,Lib.hid (by have:=HD.out;rw[hMM]at this;simpa [jX] using this),Kept.refl _ _⟩
 case round =>
  obtain ⟨i,M1,M2,rfl,hai,hib,HM,HR,hkw⟩:=hrel
  by_cases hlt:i<N
  ·have hltz:(i:Int)<(N:Int):=by omega
   have hiB:(i:Int)≤100000:=by omega
   obtain ⟨x,M2',rfl⟩:∃ x M2',M2=x :: M2':=by
    cases M2 with
    | nil=>exfalso;have h1:=HM.out;have h2:=HN.out;rw[h1.1]at h2;simp at h2;omega
    | cons x t=>exact ⟨x,t,rfl⟩
   go_wp2
   go_loopw [5] (λvj wr=>∃ (j:Nat) (N1 N2:List Pr),vj=.int .i64 j∧j≤i∧Hid (jX M1=N1++N2∧j=N1.length∧∀ y∈N2,x.id<y.id)∧Hid (Dat 46 wr g X (N1++(x :: (N2++M2'))))∧Kept (One g) wS wr) (λj _=>(intOf j).toNat)
   case atStart=>exact ⟨i,jX M1,[],rfl,Nat.le_refl _,Lib.hid ⟨by simp,by rw[je];exact HM.out.2,by simp⟩,Lib.hid (by simpa using HR.out),hkw⟩
   case round =>
    obtain ⟨j,N1,N2,rfl,hji,HJ,HR2,hkw2⟩:=hrel
    have OUT:Hid ((N1=[]∨∃ N1' y,N1=N1'++[y]∧¬ x.id<y.id)→∀ wx,Dat 46 wx g X (N1++(x :: (N2++M2')))→Hid (M=(M1++[x])++M2'∧i+1=(M1++[x]).length)∧Hid (Dat 46 wx g X (jX (M1++[x])++M2'))):=Lib.hid (λh wx hd=>by
     refine ⟨Lib.hid ⟨by rw[HM.out.1];simp,by have:=HM.out.2;simp;omega⟩,Lib.hid ?_⟩;rw[jGv HJ.out.1 h HJ.out.2.2];simpa using hd)
    by_cases hja:0<j
    ·obtain ⟨jp,rfl⟩:∃ jp,j=jp+1:=⟨j - 1,by omega⟩
     obtain ⟨N1',y,hN1⟩:∃ N1' y,N1=N1'++[y]:=by
      have h0:N1≠[]:=λh=>by have:=HJ.out.2.1;rw[h]at this;simp at this
      exact ⟨N1.dropLast,N1.getLast h0,(List.dropLast_concat_getLast h0).symm⟩
     have HNN:=Lib.hid hN1;have HP:Hid (jp=N1'.length∧jp+1=N1'.length+1+([]:List Pr).length):=Lib.hid (by have h1:=HJ.out.2.1;rw[hN1]at h1;simp at h1 ⊢;omega);have HR3:Hid (Dat 46 wr g X (N1'++y :: ([]++x :: (N2++M2')))):=Lib.hid (by have:=HR2.out;rw[hN1]at this;simpa using this);have HR4:Hid (∀ wx,Dat 46 wx g X (N1'++y :: ([]++x :: (N2++M2')))→Dat 46 wx g X (N1++(x :: (N2++M2')))):=Lib.hid (λwx h=>by rw[hN1];simpa using h);clear hN1;have hwp:IntKind.i64.wrap (jp:Int)=(jp:Int):=by rw[IntKind.wrap_i64];omega
     have jz:(jp:Int)+1<(N:Int):=by omega
     have jz1:(jp:Int)<(N:Int):=by omega
     have hjaz':(0:Int)<(jp:Int)+1:=by omega
     have p0:(0:Int)≤(jp:Int)+1:=by omega
     have e0:((jp:Int)+1).toNat=jp+1:=by omega
     have hD3:=HR3.out;generalize hLS:N1'++y :: ([]++x :: (N2++M2'))=LS at *;have HLS:=Lib.hid hLS;have hly:∀ wx,Dat 46 wx g X LS→(Instr.loadAt 46 (.pointer (some ⟨g,jp*4,none⟩))).run Tryz.prog wx=.ok y.val wx∧wx.cell? ⟨g,jp*4,none⟩=some (.int .u8 y.id):=λwx h=>by rw[← hLS]at h;exact ⟨h.loadR HP.out.1,(h.cells HP.out.1).1⟩
     have hlx:∀ wx,Dat 46 wx g X LS→(Instr.loadAt 46 (.pointer (some ⟨g,(jp+1)*4,none⟩))).run Tryz.prog wx=.ok x.val wx∧wx.cell? ⟨g,(jp+1)*4,none⟩=some (.int .u8 x.id):=λwx h=>by
      rw[← hLS]at h;have h2:Dat 46 wx g X ((N1'++[y])++x :: (N2++M2')):=by simpa using h
      have h3:jp+1=(N1'++[y]).length:=by have:=HP.out.1;simp;omega
      exact ⟨h2.loadR h3,(h2.cells h3).1⟩
     have HLY:=Lib.hid hly;have HLX:=Lib.hid hlx;clear hLS hly hlx
     by_cases hlv:x.id<y.id
     ·have hcI:(x.id:Int)<(y.id:Int):=by omega
      go_wp2
      refine wp_region_held_drew (S:=(λwx=>Dat 46 wx g X LS∧Kept No wr wx)) (by kernel_rfl) ?_ (λhHeld=>?_)
      ·exact ⟨hD3.kept (S:=No) ((Kept.refl No wr).drew) (λf=>f),(Kept.refl No wr).drew⟩
      refine wtv (i:=0) (v:=?_) rfl (λwz9 hSw=>?_) ?_;rotate_left;(·(try dsimp only at hSw);go_simp;try with_reducible rfl);go_simp
      refine wtv (i:=1) (v:=(.bool true)) rfl (λwz9 hSw=>?_) ?_;(·(try dsimp only at hSw);go_simp;try with_reducible rfl);go_simp
      refine wtv (i:=2) (v:=(.bool true)) rfl (λwz9 hSw=>?_) ?_;(·(try dsimp only at hSw);go_simp;try with_reducible rfl);go_simp
      refine wtv (i:=3) (v:=(.slice (some ⟨g,0,none⟩) N c)) rfl (λwz9 hSw=>?_) ?_;(·(try dsimp only at hSw);go_simp;try with_reducible rfl);go_simp
      refine wtv (i:=4) (v:=?_) rfl (λwz9 hSw=>?_) ?_;rotate_left;(·(try dsimp only at hSw);go_simp;try with_reducible rfl);go_simp
      refine wtk (i:=5) (v:=(.int .i64 (jp:Int))) rfl (Or.inl ⟨by rfl,?hhsa5⟩) (by assumption) ?rrsa5
      case hhsa5=>(intro wz9 hSw;clear hSw;go_simp;first|done|rw[hwp]|omega)
      go_simp
      refine wtv (i:=6) (v:=(.pointer (some ⟨g,jp*4,none⟩))) rfl (λwz9 hSw=>?_) ?_;(·(try dsimp only at hSw);go_simp;try with_reducible rfl);go_simp
      refine wtv (i:=7) (v:=(.pointer (some ⟨g,jp*4,none⟩))) rfl (λwz9 hSw=>?_) ?_;(·(try dsimp only at hSw);go_simp;try with_reducible rfl);go_simp
      refine wtk (i:=8) (v:=(.int .u8 (y.id:Int))) rfl (Or.inl ⟨by rfl,?hhsa8⟩) (by assumption) ?rrsa8
      case hhsa8=>(intro wz9 hSw;have hc:=(HLY.out wz9 hSw.1).2;clear hSw;go_simp;try with_reducible rfl)
      go_simp
      refine wtv (i:=9) (v:=(.slice (some ⟨g,0,none⟩) N c)) rfl (λwz9 hSw=>?_) ?_;(·(try dsimp only at hSw);go_simp;try with_reducible rfl);go_simp
      refine wtv (i:=10) (v:=?_) rfl (λwz9 hSw=>?_) ?_;rotate_left;(·(try dsimp only at hSw);go_simp;try with_reducible rfl);go_simp
      refine wtv (i:=11) (v:=(.pointer (some ⟨g,(jp+1)*4,none⟩))) rfl (λwz9 hSw=>?_) ?_;(·(try dsimp only at hSw);go_simp;try with_reducible rfl);go_simp
      refine wtv (i:=12) (v:=(.pointer (some ⟨g,(jp+1)*4,none⟩))) rfl (λwz9 hSw=>?_) ?_;(·(try dsimp only at hSw);go_simp;try with_reducible rfl);go_simp
      refine wtk (i:=13) (v:=(.int .u8 (x.id:Int))) rfl (Or.inl ⟨by rfl,?hhsa13⟩) (by assumption) ?rrsa13
      case hhsa13=>(intro wz9 hSw;have hc:=(HLX.out wz9 hSw.1).2;clear hSw;go_simp;try with_reducible rfl)
      go_simp
      refine wtv (i:=14) (v:=(.bool true)) rfl (λwz9 hSw=>?_) ?_;(·(try dsimp only at hSw);go_simp;try with_reducible rfl);go_simp
      refine wtv (i:=15) (v:=(.bool true)) rfl (λwz9 hSw=>?_) ?_;(·(try dsimp only at hSw);go_simp;try with_reducible rfl);go_simp
      refine wpAnyH_done (by kernel_rfl) ?_ _
      go_wp2
      have hD4:=hHeld.1;have hk4:=hkw2.trans hHeld.2.any;clear hHeld hD3;generalize wr.drew=w3 at *;have hWD:Dat 46 w3.drew g X LS:=hD4.kept (S:=No) ((Kept.refl No w3).drew) (λf=>f);have hKD:Kept (One g) wS w3.drew:=hk4.drew;clear hD4 hk4;refine wp_region_any (by kernel_rfl) ?_
      try (change wpAny _ _ _ _ _ _ _ (World.drew _))
      generalize w3.drew=wD at *;have hWD2:=hWD;rw[← HLS.out]at hWD2;obtain ⟨w1,st1,k1,w2,st2,k2,d2⟩:=hWD2.swap1R HP.out.1 HP.out.2;have HLI:=Lib.hid (HLY.out wD hWD).1;have HLJ:=Lib.hid (HLX.out wD hWD).1;have HST1:=Lib.hid st1;have HST2:=Lib.hid st2;have HD2:=Lib.hid d2;clear st1 st2 hWD hWD2 d2;refine wpAny_take (i:=0) (v:=(.slice (some ⟨g,0,none⟩) N c)) rfl (by kernel_rfl) (by kernel_rfl) (by kernel_rfl) (λ_ _ _ h=>h) (Or.inl ⟨by rfl,?hhsx0⟩) ?rrsx0
      case hhsx0=>(intro wz9;go_simp;try with_reducible rfl)
      go_simp
      refine wpAny_take (i:=1) (v:=(.int .i64 ((jp:Int)+1))) rfl (by kernel_rfl) (by kernel_rfl) (by kernel_rfl) (λ_ _ _ h=>h) (Or.inl ⟨by rfl,?hhsx1⟩) ?rrsx1
      case hhsx1=>(intro wz9;go_simp;try with_reducible rfl)
      go_simp
      refine wpAny_take (i:=2) (v:=(.int .i64 (jp:Int))) rfl (by kernel_rfl) (by kernel_rfl) (by kernel_rfl) (λ_ _ _ h=>h) (Or.inl ⟨by rfl,?hhsx2⟩) ?rrsx2
      case hhsx2=>(intro wz9;go_simp;first|done|rw[hwp]|omega)
      go_simp
      refine wpAny_take (i:=3) (v:=(.slice (some ⟨g,0,none⟩) N c)) rfl (by kernel_rfl) (by kernel_rfl) (by kernel_rfl) (λ_ _ _ h=>h) (Or.inl ⟨by rfl,?hhsx3⟩) ?rrsx3
      case hhsx3=>(intro wz9;go_simp;try with_reducible rfl)
      go_simp
      refine wpAny_take (i:=4) (v:=(.int .i64 ((jp:Int)+1))) rfl (by kernel_rfl) (by kernel_rfl) (by kernel_rfl) (λ_ _ _ h=>h) (Or.inl ⟨by rfl,?hhsx4⟩) ?rrsx4
      case hhsx4=>(intro wz9;go_simp;try with_reducible rfl)
      go_simp
      refine wpAny_take (i:=5) (v:=(.slice (some ⟨g,0,none⟩) N c)) rfl (by kernel_rfl) (by kernel_rfl) (by kernel_rfl) (λ_ _ _ h=>h) (Or.inl ⟨by rfl,?hhsx5⟩) ?rrsx5
      case hhsx5=>(intro wz9;go_simp;try with_reducible rfl)
      go_simp
      refine wpAny_take (i:=6) (v:=(.int .i64 ((jp:Int)+1))) rfl (by kernel_rfl) (by kernel_rfl) (by kernel_rfl) (λ_ _ _ h=>h) (Or.inl ⟨by rfl,?hhsx6⟩) ?rrsx6
      case hhsx6=>(intro wz9;go_simp;try with_reducible rfl)
      go_simp
      refine wpAny_take (i:=7) (v:=(.pointer (some ⟨g,(jp+1)*4,none⟩))) rfl (by kernel_rfl) (by kernel_rfl) (by kernel_rfl) (λ_ _ _ h=>h) (Or.inl ⟨by rfl,?hhsx7⟩) ?rrsx7
      case hhsx7=>(intro wz9;go_simp;try with_reducible rfl)
      go_simp
      refine wpAny_take (i:=9) (v:=(.slice (some ⟨g,0,none⟩) N c)) rfl (by kernel_rfl) (by kernel_rfl) (by kernel_rfl) (λ_ _ _ h=>h) (Or.inl ⟨by rfl,?hhsx9⟩) ?rrsx9
      case hhsx9=>(intro wz9;go_simp;try with_reducible rfl)
      go_simp
      refine wpAny_take (i:=10) (v:=(.int .i64 ((jp:Int)+1))) rfl (by kernel_rfl) (by kernel_rfl) (by kernel_rfl) (λ_ _ _ h=>h) (Or.inl ⟨by rfl,?hhsx10⟩) ?rrsx10
      case hhsx10=>(intro wz9;go_simp;try with_reducible rfl)
      go_simp
      refine wpAny_take (i:=11) (v:=(.int .i64 (jp:Int))) rfl (by kernel_rfl) (by kernel_rfl) (by kernel_rfl) (λ_ _ _ h=>h) (Or.inl ⟨by rfl,?hhsx11⟩) ?rrsx11
      case hhsx11=>(intro wz9;go_simp;first|done|rw[hwp]|omega)
      go_simp
      refine wpAny_take (i:=12) (v:=(.pointer (some ⟨g,jp*4,none⟩))) rfl (by kernel_rfl) (by kernel_rfl) (by kernel_rfl) (λ_ _ _ h=>h) (Or.inl ⟨by rfl,?hhsx12⟩) ?rrsx12
      case hhsx12=>(intro wz9;go_simp;try with_reducible rfl)
      go_simp
      refine wpAny_ready (rs:=[8,13]) (by kernel_rfl) (by simp) ?_;refine AllReady.cons rfl (λK9 hK9=>?_) (AllReady.cons rfl (λK9 hK9=>?_) AllReady.nil)
      ·refine (if_pos (show Region.wanted _ _=true from rfl)).mpr ?_
       refine j31 46 (.tmp 41) rfl rfl HLJ.out ?_;refine hK9 _ _ ?_;clear hK9 K9
       go_simp
       refine wpAny_ready (rs:=[13]) (by kernel_rfl) (by simp) ?_;refine AllReady.cons rfl (λK9 hK9=>?_) AllReady.nil;refine (if_pos (show Region.wanted _ _=true from rfl)).mpr ?_;refine j31 46 (.tmp 46) rfl rfl HLI.out ?_;refine hK9 _ _ ?_;clear hK9 K9
       go_simp
       refine wpAny_take (i:=14) (v:=(.pointer (some ⟨g,jp*4,none⟩))) rfl (by kernel_rfl) (by kernel_rfl) (by kernel_rfl) (λ_ _ _ h=>h) (Or.inl ⟨by rfl,?hhsxp14⟩) ?rrsxp14
       case hhsxp14=>(intro wz9;go_simp;try with_reducible rfl)
       go_simp
       refine wpAny_ready (rs:=[15]) (by kernel_rfl) (by simp) ?_;refine AllReady.cons rfl (λK9 hK9=>?_) AllReady.nil;refine (if_pos (show Region.wanted _ _=true from rfl)).mpr ?_;refine j1t 46 (.tmp 48) (.tmp 42) rfl rfl rfl HST1.out ?_;refine hK9 _ _ ?_;clear hK9 K9
       go_simp
       refine wpAny_take (i:=16) (v:=(.pointer (some ⟨g,(jp+1)*4,none⟩))) rfl (by kernel_rfl) (by kernel_rfl) (by kernel_rfl) (λ_ _ _ h=>h) (Or.inl ⟨by rfl,?hhsxp16⟩) ?rrsxp16
       case hhsxp16=>(intro wz9;go_simp;try with_reducible rfl)
       go_simp
       refine wpAny_ready (rs:=[17]) (by kernel_rfl) (by simp) ?_;refine AllReady.cons rfl (λK9 hK9=>?_) AllReady.nil;refine (if_pos (show Region.wanted _ _=true from rfl)).mpr ?_;refine j1t 46 (.tmp 49) (.tmp 47) rfl rfl rfl HST2.out ?_;refine hK9 _ _ ?_;clear hK9 K9
       go_simp
       refine wpAny_done (by kernel_rfl) ?_ _
       go_wp2
       go_roundw
       case rel=>exact ⟨jp,N1',y :: N2,by first|rfl|go_num,by omega,Lib.hid (by have h1:=HJ.out;have h2:=HNN.out;exact ⟨by rw[h1.1,h2];simp,by have:=h1.2.1;rw[h2]at this;simp at this;omega,λz hz=>by rcases List.mem_cons.1 hz with rfl|hz;exact hlv;exact h1.2.2 z hz⟩),Lib.hid (by simpa using HD2.out),(hKD.trans k1).trans k2⟩
       case measure=>simp[intOf]
      ·refine (if_pos (show Region.wanted _ _=true from rfl)).mpr ?_
       refine j31 46 (.tmp 46) rfl rfl HLI.out ?_;refine hK9 _ _ ?_;clear hK9 K9
       go_simp
       refine wpAny_ready (rs:=[8]) (by kernel_rfl) (by simp) ?_;refine AllReady.cons rfl (λK9 hK9=>?_) AllReady.nil;refine (if_pos (show Region.wanted _ _=true from rfl)).mpr ?_;refine j31 46 (.tmp 41) rfl rfl HLJ.out ?_;refine hK9 _ _ ?_;clear hK9 K9
       go_simp
       refine wpAny_take (i:=14) (v:=(.pointer (some ⟨g,jp*4,none⟩))) rfl (by kernel_rfl) (by kernel_rfl) (by kernel_rfl) (λ_ _ _ h=>h) (Or.inl ⟨by rfl,?hhsxq14⟩) ?rrsxq14
       case hhsxq14=>(intro wz9;go_simp;try with_reducible rfl)
       go_simp
       refine wpAny_ready (rs:=[15]) (by kernel_rfl) (by simp) ?_;refine AllReady.cons rfl (λK9 hK9=>?_) AllReady.nil;refine (if_pos (show Region.wanted _ _=true from rfl)).mpr ?_;refine j1t 46 (.tmp 48) (.tmp 42) rfl rfl rfl HST1.out ?_;refine hK9 _ _ ?_;clear hK9 K9
       go_simp
       refine wpAny_take (i:=16) (v:=(.pointer (some ⟨g,(jp+1)*4,none⟩))) rfl (by kernel_rfl) (by kernel_rfl) (by kernel_rfl) (λ_ _ _ h=>h) (Or.inl ⟨by rfl,?hhsxq16⟩) ?rrsxq16
       case hhsxq16=>(intro wz9;go_simp;try with_reducible rfl)
       go_simp
       refine wpAny_ready (rs:=[17]) (by kernel_rfl) (by simp) ?_;refine AllReady.cons rfl (λK9 hK9=>?_) AllReady.nil;refine (if_pos (show Region.wanted _ _=true from rfl)).mpr ?_;refine j1t 46 (.tmp 49) (.tmp 47) rfl rfl rfl HST2.out ?_;refine hK9 _ _ ?_;clear hK9 K9
       go_simp
       refine wpAny_done (by kernel_rfl) ?_ _
       go_wp2
       go_roundw
       case rel=>exact ⟨jp,N1',y :: N2,by first|rfl|go_num,by omega,Lib.hid (by have h1:=HJ.out;have h2:=HNN.out;exact ⟨by rw[h1.1,h2];simp,by have:=h1.2.1;rw[h2]at this;simp at this;omega,λz hz=>by rcases List.mem_cons.1 hz with rfl|hz;exact hlv;exact h1.2.2 z hz⟩),Lib.hid (by simpa using HD2.out),(hKD.trans k1).trans k2⟩
       case measure=>simp[intOf]
     ·have hcI:¬ (y.id:Int) > (x.id:Int):=by omega
      have hcI2:¬ (x.id:Int)<(y.id:Int):=by omega
      go_wp2
      refine wp_region_held_drew (S:=(λwx=>Dat 46 wx g X LS∧Kept No wr wx)) (by kernel_rfl) ?_ (λhHeld=>?_)
      ·exact ⟨hD3.kept (S:=No) ((Kept.refl No wr).drew) (λf=>f),(Kept.refl No wr).drew⟩
      refine wtv (i:=0) (v:=?_) rfl (λwz9 hSw=>?_) ?_;rotate_left;(·(try dsimp only at hSw);go_simp;try with_reducible rfl);go_simp
      refine wtv (i:=1) (v:=(.bool true)) rfl (λwz9 hSw=>?_) ?_;(·(try dsimp only at hSw);go_simp;try with_reducible rfl);go_simp
      refine wtv (i:=2) (v:=(.bool true)) rfl (λwz9 hSw=>?_) ?_;(·(try dsimp only at hSw);go_simp;try with_reducible rfl);go_simp
      refine wtv (i:=3) (v:=(.slice (some ⟨g,0,none⟩) N c)) rfl (λwz9 hSw=>?_) ?_;(·(try dsimp only at hSw);go_simp;try with_reducible rfl);go_simp
      refine wtv (i:=4) (v:=?_) rfl (λwz9 hSw=>?_) ?_;rotate_left;(·(try dsimp only at hSw);go_simp;try with_reducible rfl);go_simp
      refine wtk (i:=5) (v:=(.int .i64 (jp:Int))) rfl (Or.inl ⟨by rfl,?hhsb5⟩) (by assumption) ?rrsb5
      case hhsb5=>(intro wz9 hSw;clear hSw;go_simp;first|done|rw[hwp]|omega)
      go_simp
      refine wtv (i:=6) (v:=(.pointer (some ⟨g,jp*4,none⟩))) rfl (λwz9 hSw=>?_) ?_;(·(try dsimp only at hSw);go_simp;try with_reducible rfl);go_simp
      refine wtv (i:=7) (v:=(.pointer (some ⟨g,jp*4,none⟩))) rfl (λwz9 hSw=>?_) ?_;(·(try dsimp only at hSw);go_simp;try with_reducible rfl);go_simp
      refine wtk (i:=8) (v:=(.int .u8 (y.id:Int))) rfl (Or.inl ⟨by rfl,?hhsb8⟩) (by assumption) ?rrsb8
      case hhsb8=>(intro wz9 hSw;have hc:=(HLY.out wz9 hSw.1).2;clear hSw;go_simp;try with_reducible rfl)
      go_simp
      refine wtv (i:=9) (v:=(.slice (some ⟨g,0,none⟩) N c)) rfl (λwz9 hSw=>?_) ?_;(·(try dsimp only at hSw);go_simp;try with_reducible rfl);go_simp
      refine wtv (i:=10) (v:=?_) rfl (λwz9 hSw=>?_) ?_;rotate_left;(·(try dsimp only at hSw);go_simp;try with_reducible rfl);go_simp
      refine wtv (i:=11) (v:=(.pointer (some ⟨g,(jp+1)*4,none⟩))) rfl (λwz9 hSw=>?_) ?_;(·(try dsimp only at hSw);go_simp;try with_reducible rfl);go_simp
      refine wtv (i:=12) (v:=(.pointer (some ⟨g,(jp+1)*4,none⟩))) rfl (λwz9 hSw=>?_) ?_;(·(try dsimp only at hSw);go_simp;try with_reducible rfl);go_simp
      refine wtk (i:=13) (v:=(.int .u8 (x.id:Int))) rfl (Or.inl ⟨by rfl,?hhsb13⟩) (by assumption) ?rrsb13
      case hhsb13=>(intro wz9 hSw;have hc:=(HLX.out wz9 hSw.1).2;clear hSw;go_simp;try with_reducible rfl)
      go_simp
      refine wtv (i:=14) (v:=(.bool false)) rfl (λwz9 hSw=>?_) ?_;(·(try dsimp only at hSw);go_simp;try with_reducible rfl);go_simp
      refine wtv (i:=15) (v:=(.bool false)) rfl (λwz9 hSw=>?_) ?_;(·(try dsimp only at hSw);go_simp;try with_reducible rfl);go_simp
      refine wpAnyH_done (by kernel_rfl) ?_ _
      go_wp2
      have HOO:=OUT.out (.inr ⟨N1',y,HNN.out,hlv⟩) wr.drew (HR4.out _ hHeld.1)
      go_roundw
      case rel=>exact ⟨i+1,M1++[x],M2',by go_num,by omega,by omega,HOO.1,HOO.2,hkw2.drew⟩
      case measure=>simp[intOf];omega
    ·have hjaz:decide ((j:Int) > 0)=false:=decide_eq_false (by omega)
     have hjaz':¬ (0:Int)<(j:Int):=by omega
     have hjzd:decide ((0:Int)<(j:Int))=false:=decide_eq_false (by omega);have h0:N1=[]:=List.length_eq_zero_iff.1 (by have:=HJ.out.2.1;omega);have HOO:=OUT.out (.inl h0) wr.drew (HR2.out.kept (S:=No) ((Kept.refl No wr).drew) (λf=>f));have HJ0:Hid (j=0):=Lib.hid (by omega);clear h0
     go_wp2
     refine wp_region_held_drew (S:=(λ_=>True)) (by kernel_rfl) ?_ (λhHeld=>?_)
     ·exact trivial
     refine wtv (i:=0) (v:=?_) rfl (λwz9 hSw=>?_) ?_;rotate_left;(·(try dsimp only at hSw);go_simp;try with_reducible rfl);go_simp
     refine wtv (i:=1) (v:=(.bool false)) rfl (λwz9 hSw=>?_) ?_;(·(try dsimp only at hSw);go_simp;try with_reducible rfl);go_simp
     refine wtv (i:=2) (v:=(.bool false)) rfl (λwz9 hSw=>?_) ?_;(·(try dsimp only at hSw);go_simp;try with_reducible rfl);go_simp
     refine wtu (i:=3) rfl ?_;go_simp
     refine wtu (i:=4) rfl ?_;go_simp
     refine wtu (i:=5) rfl ?_;go_simp
     refine wtu (i:=6) rfl ?_;go_simp
     refine wtu (i:=7) rfl ?_;go_simp
     refine wtu (i:=8) rfl ?_;go_simp
     refine wtu (i:=9) rfl ?_;go_simp
     refine wtu (i:=10) rfl ?_;go_simp
     refine wtu (i:=11) rfl ?_;go_simp
     refine wtu (i:=12) rfl ?_;go_simp
     refine wtu (i:=13) rfl ?_;go_simp
     refine wtu (i:=14) rfl ?_;go_simp
     refine wtv (i:=15) (v:=(.bool false)) rfl (λwz9 hSw=>?_) ?_;(·(try dsimp only at hSw);go_simp;try with_reducible rfl);go_simp
     refine wpAnyH_done (by kernel_rfl) ?_ _
     go_wp2
     go_roundw
     case rel=>exact ⟨i+1,M1++[x],M2',by go_num,by omega,by omega,HOO.1,HOO.2,hkw2.drew⟩
     case measure=>simp[intOf];omega
  ·have hltz:¬ (i:Int)<(N:Int):=by omega
   go_wp2
   go_ret
   have h1:=HM.out;have h2:=HN.out;have e2:M2=[]:=List.length_eq_zero_iff.1 (by rw[h1.1]at h2;simp at h2;omega);subst e2;have e3:M1=M:=by rw[h1.1];simp
   subst e3;refine ⟨some ⟨g,0,none⟩,c,by simp[je,← h2],?_,HK1.out.then hkw (λi hi e=>by have:i=g:=e;omega)⟩;rw[je,← h2];exact HBK.out _ _ (by rw[je,← h2]) (by simpa using HR.out)
theorem j0o (n:Nat) (a b:List UInt8) (h:a.length=n):qb (n:Int) (a++b) 0=a∧qt (n:Int) (a++b) 0=b∧qq (n:Int) (a++b) 0=0:=by
 have h1:(0:Int)≤n∧(n:Int)≤(a++b).length:=by rw[List.length_append];omega
 unfold qb qt qq;rw[if_pos ⟨rfl,h1⟩,if_pos rfl,if_pos h1,if_pos rfl,if_pos h1,Int.toNat_natCast];subst h;exact ⟨List.take_left,List.drop_left,rfl⟩
theorem qv {n:Int} (h0:0≤n) (h1:n≤255):(jN n).toNat=n.toNat:=by have:=xO h0 h1;omega
theorem jOt (x:Nat):num [jN ((x:Int) % 256)]=x % 256:=by
 rw[j0v,qv (by omega) (by omega)];omega
theorem jOv (x:Nat):num [jN ((x:Int) % 65536 / 256),jN ((x:Int) % 65536 % 256)]=x % 65536:=by
 have e:num [jN ((x:Int) % 65536 / 256),jN ((x:Int) % 65536 % 256)]=(0*256+(jN ((x:Int) % 65536 / 256)).toNat)*256+(jN ((x:Int) % 65536 % 256)).toNat:=rfl;rw[e,qv (by omega) (by omega),qv (by omega) (by omega)];omega
theorem jOu (x:Nat) (h:x≤4294967295):num [jN ((x:Int) / 16777216),jN ((x:Int) / 65536 % 256),jN ((x:Int) / 256 % 256),jN ((x:Int) % 256)]=x:=by
 have e:num [jN ((x:Int) / 16777216),jN ((x:Int) / 65536 % 256),jN ((x:Int) / 256 % 256),jN ((x:Int) % 256)]=(((0*256+(jN ((x:Int) / 16777216)).toNat)*256+(jN ((x:Int) / 65536 % 256)).toNat)*256+(jN ((x:Int) / 256 % 256)).toNat)*256+(jN ((x:Int) % 256)).toNat:=rfl;rw[e,qv (by omega) (by omega),qv (by omega) (by omega),qv (by omega) (by omega),qv (by omega) (by omega)];omega
theorem jD9:∀ (f i n y:Nat) (r:List UInt8),y<128 ^ f→(0<i→0<y)→0<f→rv f i n (j3a y++r) 0=(n+y*128 ^ i,r,0)
 | 0,_,_,_,_,_,_,h=>absurd h (by omega)
 | f+1,i,n,y,r,hy,hi,_=>by
  by_cases hl:y<128
  ·rw[zY hl,List.cons_append,List.nil_append,j97 f i n _ _ (by rw[qv (by omega) (by omega)];omega) (by
    rw[qv (by omega) (by omega)];intro ⟨h1,h2⟩;have:=hi h2;omega),qv (by omega) (by omega)]
   have e:((y:Int).toNat % 128)=y:=by omega
   rw[e]
  ·have hb:(jN ((y:Int) % 128+128)).toNat=y % 128+128:=by rw[qv (by omega) (by omega)];omega
   have hf:0<f:=by
    rcases Nat.eq_zero_or_pos f with h0|h0
    ·subst h0;simp at hy;omega
    ·exact h0
   rw[zX hl,List.cons_append,j98 f i n _ _ (by omega),hb,jD9 f (i+1) _ (y / 128) r (by rw[Nat.pow_succ]at hy;omega) (by omega) hf]
   have e:n+(y % 128+128) % 128*128 ^ i+y / 128*128 ^ (i+1)=n+y*128 ^ i:=by
    rw[Nat.pow_succ,show (y % 128+128) % 128=y % 128 by omega,Nat.add_assoc,show y / 128*(128 ^ i*128)=(128*(y / 128))*128 ^ i by
     rw[Nat.mul_comm (128 ^ i) 128,← Nat.mul_assoc,Nat.mul_comm (y / 128) 128],← Nat.add_mul,Nat.mod_add_div]
   rw[e]
theorem j9b (x:Nat) (r:List UInt8) (h:x≤268435455):rv 4 0 0 (vD x++r) 0=(x,r,0):=by
 unfold vD;rw[if_pos h,jD9 4 0 0 x r (by have:=(by decide:(128:Nat) ^ 4=268435456);omega) (by omega) (by omega)];simp
theorem jDo (a b:UInt8) (t u:List UInt8) (h:num [a,b]=t.length):zC (a :: b :: (t++u)) 0=t∧j55 (a :: b :: (t++u)) 0=u∧j6z (a :: b :: (t++u)) 0=0:=by
 have h2:(2:Int)≤((a :: b :: (t++u)).length:Nat):=by simp;omega
 have e1:qb 2 (a :: b :: (t++u)) 0=[a,b]:=by unfold qb;rw[if_pos ⟨rfl,by omega,h2⟩];rfl
 have e2:qt 2 (a :: b :: (t++u)) 0=t++u:=by unfold qt;rw[if_pos rfl,if_pos ⟨by omega,h2⟩];rfl
 have e3:qq 2 (a :: b :: (t++u)) 0=0:=by unfold qq;rw[if_pos rfl,if_pos ⟨by omega,h2⟩]
 have h3:0≤((t.length:Nat):Int)∧((t.length:Nat):Int)≤((t++u).length:Nat):=by simp;omega
 unfold zC j55 j6z;rw[e1,e2,e3,h];exact j0o t.length t u rfl
theorem jJg (n:Nat) (h:n≤65535):num [jN ((n:Int) / 256),jN ((n:Int) % 256)]=n:=by
 have h1:=xO (n:=(n:Int) / 256) (by omega) (by omega);have h2:=xO (n:=(n:Int) % 256) (by omega) (by omega);simp only[num,List.foldl_cons,List.foldl_nil];omega
def jR (s:ByteArray):List UInt8:=jN ((s.size:Int) / 256) :: jN ((s.size:Int) % 256) :: s.data.toList
theorem j17 (s:ByteArray) (r:List UInt8) (h:s.size≤65535):zC (jR s++r) 0=s.data.toList∧j55 (jR s++r) 0=r∧j6z (jR s++r) 0=0:=by
 unfold jR;exact jDo _ _ s.data.toList r (by rw[jJg _ h,jEr])
theorem j77 (l:List UInt8) (s:ByteArray):j0g l s=l++jR s:=rfl
theorem j4l (s:ByteArray):(⟨s.data.toList.toArray⟩:ByteArray)=s:=by cases s;simp
theorem j0h {a:ByteArray} (h:a.size=0):a=⟨#[]⟩:=ByteArray.ext (Array.eq_empty_of_size_eq_zero h)
theorem jM7 (id:Nat) (b:List UInt8) (h:id<256):num (qb 1 (jN id :: b) 0)=id∧qt 1 (jN id :: b) 0=b∧qq 1 (jN id :: b) 0=0:=by
 obtain ⟨h1,h2,h3⟩:=vY (jN id) b;exact ⟨by rw[h1,j0v,qv (by omega) (by omega)];omega,h2,h3⟩
theorem jH2 (id:Nat) (b:List UInt8) (h:id<256):xq (jN id :: b) 0=j0p (jl id) id b 0:=by
 obtain ⟨h1,h2,h3⟩:=jM7 id b h;unfold xq;rw[h1,h2,h3]
theorem jAf (p:Pr) (r:List UInt8) (hw:p.wf') (hk:p.ok=true):xq (p.lay++r) 0=(p,r,0):=by
 obtain ⟨id,n,a,b⟩:=p;obtain ⟨h8,hn,_,_⟩:=hw;dsimp only at h8 hn;have hk':xw id n a b=true:=hk;have hf:=j4p h8 hn hk';obtain ⟨⟨_,_,ha,hb,ht⟩,h4⟩:=hf;have ht7:=zW id;show xq (j8w id n a b++r) 0=_;unfold xw at hk';unfold j8w;generalize hT:jl id=t at *
 have key:∀ c,c=jN id :: (c.drop 1)→xq (c++r) 0=j0p t id (c.drop 1++r) 0:=λc hc=>by
  rw[hc,List.cons_append,jH2 id _ h8,hT];rfl
 rcases (show t=1∨t=2∨t=3∨t=4∨t=5∨t=6∨t=7 from by omega) with rfl|rfl|rfl|rfl|rfl|rfl|rfl
 ·have h:=xS (m:=255) hk'
  obtain rfl:=j0h h.2.1;obtain rfl:=j0h h.2.2;rw[if_pos rfl,key _ rfl];show j0p 1 id ([jN ((n:Int) % 256)]++r) 0=_;obtain ⟨e1,e2,e3⟩:=j0o 1 [jN ((n:Int) % 256)] r rfl;unfold j0p;rw[if_pos rfl];rw[show ((1:Nat):Int)=1 from rfl]at e1 e2 e3;rw[e1,e2,e3,jOt,Nat.mod_eq_of_lt (by omega)]
 ·have h:=xS (m:=65535) hk'
  obtain rfl:=j0h h.2.1;obtain rfl:=j0h h.2.2;rw[if_neg (by decide),if_pos rfl,key _ rfl];show j0p 2 id ([jN ((n:Int) % 65536 / 256),jN ((n:Int) % 65536 % 256)]++r) 0=_;obtain ⟨e1,e2,e3⟩:=j0o 2 [jN ((n:Int) % 65536 / 256),jN ((n:Int) % 65536 % 256)] r rfl;unfold j0p;rw[if_neg (by decide),if_pos rfl];rw[show ((2:Nat):Int)=2 from rfl]at e1 e2 e3;rw[e1,e2,e3,jOv,Nat.mod_eq_of_lt (by omega)]
 ·have h:=xS (m:=4294967295) hk'
  obtain rfl:=j0h h.2.1;obtain rfl:=j0h h.2.2;rw[if_neg (by decide),if_neg (by decide),if_pos rfl,key _ rfl];show j0p 3 id ([jN ((n:Int) / 16777216),jN ((n:Int) / 65536 % 256),jN ((n:Int) / 256 % 256),jN ((n:Int) % 256)]++r) 0=_;obtain ⟨e1,e2,e3⟩:=j0o 4 [jN ((n:Int) / 16777216),jN ((n:Int) / 65536 % 256),jN ((n:Int) / 256 % 256),jN ((n:Int) % 256)] r rfl;unfold j0p;rw[if_neg (by decide),if_neg (by decide),if_pos rfl];rw[show ((4:Nat):Int)=4 from rfl]at e1 e2 e3;rw[e1,e2,e3,jOu n (by omega)]
 ·have h:=xS (m:=268435455) hk'
  obtain rfl:=j0h h.2.1;obtain rfl:=j0h h.2.2;rw[if_neg (by decide),if_neg (by decide),if_neg (by decide),if_pos rfl,key _ rfl];show j0p 4 id (vD n++r) 0=_;unfold j0p;rw[if_neg (by decide),if_neg (by decide),if_neg (by decide),if_pos rfl,j9b n r h.1]
 ·have h':(decide (n=0)&&(jb a&&b.toList.isEmpty))=true:=hk'
  rw[aE9,aE9]at h';obtain rfl:=of_decide_eq_true h'.1;obtain rfl:=j0h (vm h'.2.2);rw[if_neg (by decide),if_neg (by decide),if_neg (by decide),if_neg (by decide),if_neg (by decide),key _ rfl];show j0p 5 id (jR a++r) 0=_;obtain ⟨e1,e2,e3⟩:=j17 a r ha;unfold j0p;rw[if_neg (by decide),if_neg (by decide),if_neg (by decide),if_neg (by decide),if_pos rfl,e1,e2,e3,j4l]
 ·have h':(decide (n=0)&&(decide (a.size≤65535)&&b.toList.isEmpty))=true:=hk'
  rw[aE9,aE9]at h';obtain rfl:=of_decide_eq_true h'.1;obtain rfl:=j0h (vm h'.2.2);rw[if_neg (by decide),if_neg (by decide),if_neg (by decide),if_neg (by decide),if_neg (by decide),key _ rfl];show j0p 6 id (jR a++r) 0=_;obtain ⟨e1,e2,e3⟩:=j17 a r ha;unfold j0p;rw[if_neg (by decide),if_neg (by decide),if_neg (by decide),if_neg (by decide),if_neg (by decide),if_pos rfl,e1,e2,e3,j4l]
 ·have h':(decide (n=0)&&(jb a&&jb b))=true:=hk'
  rw[aE9,aE9]at h';obtain rfl:=of_decide_eq_true h'.1;rw[if_neg (by decide),if_neg (by decide),if_neg (by decide),if_neg (by decide),if_pos rfl,key _ rfl]
  have e0:(j0g (j0g [jN id] a) b).drop 1++r=jR a++(jR b++r):=by
   rw[j77,j77];simp
  rw[e0];obtain ⟨e1,e2,e3⟩:=j17 a (jR b++r) ha;obtain ⟨f1,f2,f3⟩:=j17 b r hb;unfold j0p;rw[if_neg (by decide),if_neg (by decide),if_neg (by decide),if_neg (by decide),if_neg (by decide),if_neg (by decide),if_pos rfl,e1,e2,e3,f1,f2,f3,j4l,j4l]
theorem jEb (p:Pr) (r:List UInt8) (hw:p.wf') (hk:p.ok=true):j43 (p.lay++r)=true:=by
 unfold j43;rw[jAf p r hw hk];simp[hk]
theorem jM3 {p:Pr} (hw:p.wf') (hk:p.ok=true):p.lay≠[]:=by
 have h1:=jA9 (Pr.fits hw hk);have h2:=jHl (Pr.fits hw hk) (j4p hw.hid hw.hn hk).2;intro h
 have:p.lay.length=szP p.id p.n p.a p.b:=h1
 rw[h]at this;simp at this;omega
theorem j9w:∀ (L:List Pr),(∀ p∈L,p.wf')→(∀ p∈L,p.ok=true)→j5g (qf L)=(L,true)
 | [],_,_=>rfl
 | p :: L,hw,hk=>by
  have e:qf (p :: L)=p.lay++qf L:=by simp[qf]
  have h1:=hw p (by simp);have h2:=hk p (by simp);rw[e,jB9 (jEb p _ h1 h2),jAf p _ h1 h2,j9w L (λq hq=>hw q (by simp[hq])) (λq hq=>hk q (by simp[hq]))]
theorem Pr.sm.wf' {p:Pr} (h:p.sm):p.wf':=⟨h.hid,h.hn,by have:=h.ha;omega,by have:=h.hb;omega⟩
theorem jEw (s r:List UInt8) (h:s.length≤268435455):j38 (vD s.length++(s++r)) 0=s∧j37 (vD s.length++(s++r)) 0=r∧j36 (vD s.length++(s++r)) 0=0:=by
 unfold j38 j37 j36;rw[j9b _ _ h];exact j0o s.length s r rfl
theorem jAx {L:List Pr} {n:Nat} (l r:List UInt8) (hw:∀ p∈L,p.wf') (h:vL L 0=some n):j4g l L++r=l++(vD n++(qf L++r))∧jDd (vD n++(qf L++r)) 0=(jX L,true)∧j37 (vD n++(qf L++r)) 0=r∧j36 (vD n++(qf L++r)) 0=0∧j38 (vD n++(qf L++r)) 0=qf L:=by
 obtain ⟨hok,hlen,hn⟩:=xQ L 0 n hw h (by omega);have hlen':n=(qf L).length:=by omega
 obtain ⟨h1,h2,h3⟩:=jEw (qf L) r (by omega);refine ⟨?_,?_⟩
 ·unfold j4g
  rw[h];simp[zl]
 ·rw[hlen']
  refine ⟨?_,h2,h3,h1⟩;unfold jDd;rw[h3,h1,j9w L hw hok];simp
def Fewp (L:List Pr):Prop:=L.length≤30∧∀ p∈L,p.a.size≤200∧p.b.size≤200
theorem Fewp.wf {L:List Pr} (h:Fewp L) (hw:∀ p∈L,p.id<256∧p.n<4294967296):∀ p∈L,p.wf':=λp hp=>⟨(hw p hp).1,(hw p hp).2,by have:=h.2 p hp;omega,by have:=h.2 p hp;omega⟩
end Go.Proofs.YtkochkhfbhjicaaGreatDoor
