import Derived.Test.YtofjhopecfmbcaaGreatDoorYF5
import Derived.Laws.Shifts
import Derived.Deep.CutRange
namespace Go.Proofs.YtofjhopecfmbcaaGreatDoor
open Go.RowKit
set_option linter.unusedVariables false
set_option linter.unusedSimpArgs false
set_option maxRecDepth 100000
theorem op_shr {P:Program} {o:Oper} {a:Act} {w:World} {K:Act→World→Prop} {Q:Exit→Act→World→Prop} (t1 t2:TypeId) (x y:Operand) {X Y:Int} (hop:o.op=Op.binOp .shr t1 x y t2) (hx:a.eval x=.int .u64 X) (hy:a.eval y=.int .u64 1) (hY:X / 2=Y)
  (hK:K (a.put o.dst (.int .u64 Y)) w):o.wp P a w K Q:=by
 subst hY;unfold Oper.wp;simp only[execOp,hop,hx,hy]
 go_simp
 exact hK
theorem get_cut {L:List Pr} {k:Nat} (h:k < L.length):L=L.take k++L[k]! :: L.drop (k+1):=by
 rw[get_pos L k h]
 conv=>lhs;rw[← List.take_append_drop k L,List.drop_eq_getElem_cons h]
theorem take_len {L:List Pr} {k:Nat} (h:k < L.length):k=(L.take k).length:=by rw[List.length_take];omega
theorem Dat.load_get {w:World} {g:Nat} {X:List Value} {L:List Pr} (h:Dat 95 w g X L) {k:Nat} (hk:k < L.length):(Instr.loadAt 95 (.pointer (some ⟨g,k * 4,none⟩))).run Tryz.prog w=.ok L[k]!.val w:=by
 have h2:=h;rw[get_cut hk]at h2;exact h2.load (take_len hk)
theorem get_U {P U V S:List Pr} {i:Nat} (h1:P.length≤i) (h2:i < P.length+U.length):(P++(U++(V++S)))[i]! = U[i - P.length]!:=by
 have:=get_mid P U (V++S) (i - P.length) (by omega)
 rwa [show P.length+(i - P.length)=i by omega]at this
theorem get_V {P U V S:List Pr} {i:Nat} (h1:P.length+U.length≤i) (h2:i < P.length+U.length+V.length):(P++(U++(V++S)))[i]! = V[i - (P.length+U.length)]!:=by
 have:=get_mid (P++U) V S (i - (P.length+U.length)) (by omega)
 rw[show (P++U).length+(i - (P.length+U.length))=i by simp;omega]at this;simpa using this
structure SM (N:Nat) (P U V S:List Pr) (a m b:Nat):Prop where
 hN:N=P.length+U.length+V.length+S.length
 ha:a=P.length
 hm:m=P.length+U.length
 hb:b=P.length+U.length+V.length
 hU:0 < U.length
 hV:0 < V.length
 sU:Srt U
 sV:Srt V
theorem SM.len {N a m b:Nat} {P U V S:List Pr} (h:SM N P U V S a m b):N=(P++(U++(V++S))).length:=by have:=h.hN;simp;omega
theorem SM.getU {N a m b:Nat} {P U V S:List Pr} (h:SM N P U V S a m b) {i:Nat} (h1:a≤i) (h2:i < m):(P++(U++(V++S)))[i]! = U[i - a]!:=by
 have:=h.ha;have:=h.hm
 rw[get_U (by omega) (by omega),h.ha]
theorem SM.getV {N a m b:Nat} {P U V S:List Pr} (h:SM N P U V S a m b) {i:Nat} (h1:m≤i) (h2:i < b):(P++(U++(V++S)))[i]! = V[i - m]!:=by
 have:=h.hb;have:=h.hm
 rw[get_V (by omega) (by omega),h.hm]
theorem SM.front {N a m b:Nat} {P U V S:List Pr} (h:SM N P U V S a m b) (h1:U.length=1) {i:Nat} (hi:m≤i) (hib:i≤b)
  (hl:i=m∨(P++(U++(V++S)))[i - 1]!.id < (P++(U++(V++S)))[a]!.id) (hr:i=b∨¬ (P++(U++(V++S)))[i]!.id < (P++(U++(V++S)))[a]!.id) :
  ∃ x V1 V2,U=[x]∧V=V1++V2∧V1.length=i - m∧sortL (U++V)=V1++x :: V2:=by
 obtain ⟨x,rfl⟩:=List.length_eq_one_iff.1 h1;have e1:=h.ha;have e2:=h.hm;have e3:=h.hb;simp at e2 e3;have hx:(P++([x]++(V++S)))[a]! = x:=by rw[h.getU (Nat.le_refl _) (by omega),Nat.sub_self];rfl
 rw[hx]at hl hr;refine ⟨x,V.take (i - m),V.drop (i - m),rfl,(List.take_append_drop _ _).symm,by rw[List.length_take];omega,?_⟩;have hV:Srt (V.take (i - m)++V.drop (i - m)):=by rw[List.take_append_drop];exact h.sV
 have:=sortL_front (x:=x) hV (fun y hy=>by
  rcases hl with hl|hl
  ·subst hl;simp at hy
  ·rcases Nat.eq_or_lt_of_le hi with he|hlt
   ·subst he;simp at hy
   ·rw[h.getV (by omega) (by omega)]at hl
    exact lt_split (s:=0) (Srt.one x) h.sV (by omega) (.inr (.inr (by rw[show i - m - 1=i - 1 - m by omega];exact hl))) y hy x (by simp)) (fun y hy=>by
  rcases hr with hr|hr
  ·subst hr;rw[List.drop_eq_nil_of_le (by omega)]at hy;simp at hy
  ·rcases Nat.eq_or_lt_of_le hib with he|hlt
   ·subst he;rw[List.drop_eq_nil_of_le (by omega)]at hy;simp at hy
   ·rw[h.getV (by omega) (by omega)]at hr
    exact le_split (s:=1) (Srt.one x) h.sV (by simp) (.inr (.inr (by simpa using hr))) x (by simp) y hy)
 rw[List.take_append_drop]at this;exact this
theorem SM.back {N a m b:Nat} {P U V S:List Pr} (h:SM N P U V S a m b) (h1:V.length=1) {i:Nat} (hi:a≤i) (him:i≤m)
  (hl:i=a∨¬ (P++(U++(V++S)))[m]!.id < (P++(U++(V++S)))[i - 1]!.id) (hr:i=m∨(P++(U++(V++S)))[m]!.id < (P++(U++(V++S)))[i]!.id) :
  ∃ y U1 U2,V=[y]∧U=U1++U2∧U1.length=i - a∧sortL (U++V)=U1++y :: U2:=by
 obtain ⟨y,rfl⟩:=List.length_eq_one_iff.1 h1;have e1:=h.ha;have e2:=h.hm;have e3:=h.hb;simp at e3;have hxm:(P++(U++([y]++S)))[m]! = y:=by rw[h.getV (Nat.le_refl _) (by omega),Nat.sub_self];rfl
 rw[hxm]at hl hr;clear hxm;refine ⟨y,U.take (i - a),U.drop (i - a),rfl,(List.take_append_drop _ _).symm,by rw[List.length_take];omega,?_⟩;have hU:Srt (U.take (i - a)++U.drop (i - a)):=by rw[List.take_append_drop];exact h.sU
 have:=sortL_back (y:=y) hU (fun x hx=>by
  rcases hl with hl|hl
  ·subst hl;simp at hx
  ·rcases Nat.eq_or_lt_of_le hi with he|hlt
   ·subst he;simp at hx
   ·rw[h.getU (by omega) (by omega)]at hl
    exact le_split (e:=0) h.sU (Srt.one y) (by omega) (.inr (.inr (by rw[show i - a - 1=i - 1 - a by omega];simpa using hl))) x hx y (by simp)) (fun x hx=>by
  rcases hr with hr|hr
  ·subst hr;rw[List.drop_eq_nil_of_le (by omega)]at hx;simp at hx
  ·rcases Nat.eq_or_lt_of_le him with he|hlt
   ·subst he;rw[List.drop_eq_nil_of_le (by omega)]at hx;simp at hx
   ·rw[h.getU (by omega) (by omega)]at hr
    exact lt_split (e:=1) h.sU (Srt.one y) (by simp) (.inr (.inr (by simpa using hr))) y (by simp) x hx)
 rw[List.take_append_drop]at this;exact this
theorem SM.cut {N a m b:Nat} {P U V S:List Pr} (h:SM N P U V S a m b) {mid n s0 r0 p s:Nat} (hmid:mid=(a+b) / 2) (hn:n=mid+m) (hp:p+1=n)
  (h0:(mid < m∧s0+b=n∧r0=mid)∨(m≤mid∧s0=a∧r0=m)) (hs:s0≤s) (hr:s≤r0)
  (hl:s=s0∨¬ (P++(U++(V++S)))[p - (s - 1)]!.id < (P++(U++(V++S)))[s - 1]!.id) (hg:s=r0∨(P++(U++(V++S)))[p - s]!.id < (P++(U++(V++S)))[s]!.id) :
  ∃ U1 U2 V1 V2,U=U1++U2∧V=V1++V2∧s=a+U1.length∧m=s+U2.length∧n - s=m+V1.length∧b=(n - s)+V2.length∧mid=s+V1.length∧n - s=mid+U2.length ∧
   sortL (U++V)=sortL (U1++V1)++sortL (U2++V2):=by
 have e1:=h.ha;have e2:=h.hm;have e3:=h.hb;have e4:U.length=m - a:=by omega
 have e5:V.length=b - m:=by omega
 have hU:=h.hU;have hV:=h.hV;have b1:a≤s∧s≤m∧m+s≤n∧n≤b+s:=by omega
 refine ⟨U.take (s - a),U.drop (s - a),V.take (n - s - m),V.drop (n - s - m),(List.take_append_drop _ _).symm,(List.take_append_drop _ _).symm,?_,?_,?_,?_,?_,?_,?_⟩
 ·rw[List.length_take];omega
 ·rw[List.length_drop];omega
 ·rw[List.length_take];omega
 ·rw[List.length_drop];omega
 ·rw[List.length_take];omega
 ·rw[List.length_drop];omega
 ·have hUs:Srt (U.take (s - a)++U.drop (s - a)):=by rw[List.take_append_drop];exact h.sU
  have hVs:Srt (V.take (n - s - m)++V.drop (n - s - m)):=by rw[List.take_append_drop];exact h.sV
  have:=sortL_split hUs hVs (le_split h.sU h.sV (by omega) (by
   by_cases q1:s - a=0
   ·exact .inl q1
   by_cases q2:n - s - m=V.length
   ·exact .inr (.inl q2)
   refine .inr (.inr ?_);rcases hl with hl|hl
   ·omega
   ·rw[h.getV (by omega) (by omega),h.getU (by omega) (by omega)]at hl
    rw[show s - a - 1=s - 1 - a by omega,show n - s - m=p - (s - 1) - m by omega];omega)) (lt_split h.sU h.sV (by omega) (by
   by_cases q1:n - s - m=0
   ·exact .inl q1
   by_cases q2:s - a=U.length
   ·exact .inr (.inl q2)
   refine .inr (.inr ?_);rcases hg with hg|hg
   ·omega
   ·rw[h.getV (by omega) (by omega),h.getU (by omega) (by omega)]at hg
    rw[show n - s - m - 1=p - s - m by omega];exact hg))
  rw[List.take_append_drop,List.take_append_drop]at this;exact this
set_option maxHeartbeats 8000000 in
theorem sym_front (g c:Nat) (X:List Value) (P U V S:List Pr) (N a m b:Nat) (h:SM N P U V S a m b) (h1:U.length=1) (hNb:N≤100000) (w:World) (hd:Dat 95 w g X (P++(U++(V++S)))) :
  Calls Tryz.prog 196 #[.slice (some ⟨g,0,none⟩) N c,.int .i64 a,.int .i64 m,.int .i64 b,.func (.func 176) #[] #[]] w (Turns 95 g X (P++(sortL (U++V)++S)) w):=by
 have HSM:=Lib.hid h;have HU1:=Lib.hid h1;have e1:=h.ha;have e2:=h.hm;have e3:=h.hb;have e4:=h.hN;have e5:=h.hV;have HMA:Hid (m=a+1):=Lib.hid (by omega);have ham:a+1≤m:=by omega
 have hmb:m < b:=by omega
 have hbN:b≤N:=by omega
 clear e1 e2 e3 e4 e5 h1 h;have hLl:=HSM.out.len;obtain ⟨LS,hLS⟩:∃ LS,LS=P++(U++(V++S)):=⟨_,rfl⟩
 have HFR:Hid (∀ i,m≤i→i≤b→(i=m∨LS[i - 1]!.id < LS[a]!.id)→(i=b∨¬ LS[i]!.id < LS[a]!.id)→∃ x V1 V2,U=[x]∧V=V1++V2∧V1.length=i - m∧sortL (U++V)=V1++x :: V2):=Lib.hid (fun i q1 q2 q3 q4=>by rw[hLS]at q3 q4;exact HSM.out.front HU1.out q1 q2 q3 q4);have HL:=Lib.hid hLS;rw[← hLS]at hd hLl;have HD:=Lib.hid hd;have HLL:=Lib.hid hLl;clear hLS hd hLl;have hd1:(m:Int) - (a:Int)=1:=by have:=HMA.out;omega
 have hd3:(((m:Int) - (a:Int)) == 1)=true:=by rw[hd1];rfl
 go_enter Tryz.func196,Tryz.ntmps196
 go_wp2
 clear hd1 hd3
 go_loopw [10,11] (fun vi vj wr=>∃ i j:Nat,vi=.int .i64 i∧vj=.int .i64 j∧m≤i∧i≤j∧j≤b∧Hid (i=m∨LS[i - 1]!.id < LS[a]!.id)∧Hid (j=b∨¬ LS[j]!.id < LS[a]!.id)∧Kept No w wr) (fun vi vj _=>(intOf vj).toNat - (intOf vi).toNat)
 case atStart=>exact ⟨m,b,rfl,rfl,Nat.le_refl _,by omega,Nat.le_refl _,Lib.hid (.inl rfl),Lib.hid (.inl rfl),Kept.refl _ _⟩
 case round =>
  obtain ⟨i,j,rfl,rfl,hmi,hij,hjb,HI,HJ,hkw⟩:=hrel
  by_cases hlt:i < j
  ·have hltI:(i:Int) < (j:Int):=by omega
   obtain ⟨q,hq⟩:∃ q,q=(i+j) / 2:=⟨_,rfl⟩
   have hq1:i≤q:=by omega
   have hq2:q < j:=by omega
   have hqI:((i:Int)+(j:Int)) / 2=(q:Int):=by omega
   have hsum:(i:Int)+(j:Int)≤200000:=by omega
   have HQ:=Lib.hid hqI;clear hq
   go_wp2_with (refine op_shr 156 156 (.tmp 37) (.const (.int .u64 1)) rfl rfl rfl HQ.out ?_)
   have hqN:q < N:=by omega
   have haN:a < N:=by omega
   have hqNI:(q:Int) < (N:Int):=by omega
   have haNI:(a:Int) < (N:Int):=by omega
   have hDr:Dat 95 wr g X LS:=HD.out.kept hkw (fun f=>f);have HLQ:Hid (∀ wx,Dat 95 wx g X LS→(Instr.loadAt 95 (.pointer (some ⟨g,q * 4,none⟩))).run Tryz.prog wx=.ok LS[q]!.val wx):=Lib.hid (fun wx h=>h.load_get (by rw[← HLL.out];exact hqN));have HLA:Hid (∀ wx,Dat 95 wx g X LS→(Instr.loadAt 95 (.pointer (some ⟨g,a * 4,none⟩))).run Tryz.prog wx=.ok LS[a]!.val wx):=Lib.hid (fun wx h=>h.load_get (by rw[← HLL.out];exact haN));obtain ⟨y,hy⟩:∃ y,y=LS[q]!:=⟨_,rfl⟩
   obtain ⟨x,hx⟩:∃ x,x=LS[a]!:=⟨_,rfl⟩
   have HY:=Lib.hid hy;have HX:=Lib.hid hx;rw[← hx]at HLA;rw[← hy]at HLQ;clear hx hy
   by_cases hlv:y.id < x.id
   ·have hcI:(cfP y x) < 0:=cfP_lt.2 hlv
    have hcD:decide (cfP y x < 0)=true:=decide_eq_true hcI;obtain ⟨cv,hcv⟩:∃ cv,cv=cfP y x:=⟨_,rfl⟩
    have HCC:Hid (∀ wx,Calls Tryz.prog 176 #[y.val,x.val] wx fun e w'=>e=.returned (.int .i64 cv)∧Kept No wx w'):=Lib.hid (fun wx=>by rw[hcv];exact cmp_any y x wx);rw[← hcv]at hcI hcD;clear hcv;refine wp_region_held_drew (S:=(fun wx=>Dat 95 wx g X LS∧Kept No wr wx)) (by kernel_rfl) ?_ (fun hHeld=>?_)
    ·exact ⟨hDr.kept (S:=No) ((Kept.refl No wr).drew) (fun f=>f),(Kept.refl No wr).drew⟩
    refine wtv (i:=0) (v:=(.func (.func 176) #[] #[])) rfl (λwz9 hSw=>?_) ?_;(·(try dsimp only at hSw);go_simp;try with_reducible rfl);go_simp
    refine wtv (i:=1) (v:=(.slice (some ⟨g,0,none⟩) N c)) rfl (λwz9 hSw=>?_) ?_;(·(try dsimp only at hSw);go_simp;try with_reducible rfl);go_simp
    refine wtv (i:=2) (v:=?_) rfl (λwz9 hSw=>?_) ?_;rotate_left;(·(try dsimp only at hSw);go_simp;try with_reducible rfl);go_simp
    refine wtv (i:=3) (v:=(.pointer (some ⟨g,q * 4,none⟩))) rfl (λwz9 hSw=>?_) ?_;(·(try dsimp only at hSw);go_simp;try with_reducible rfl);go_simp
    refine wtk (i:=4) (v:=y.val) rfl (Or.inl ⟨by rfl,?hhra4⟩) (by assumption) ?rrra4
    case hhra4=>(intro wz9 hSw;exact run_valueS (HLQ.out wz9 hSw.1))
    go_simp
    refine wtv (i:=5) (v:=(.slice (some ⟨g,0,none⟩) N c)) rfl (λwz9 hSw=>?_) ?_;(·(try dsimp only at hSw);go_simp;try with_reducible rfl);go_simp
    refine wtv (i:=6) (v:=?_) rfl (λwz9 hSw=>?_) ?_;rotate_left;(·(try dsimp only at hSw);go_simp;try with_reducible rfl);go_simp
    refine wtv (i:=7) (v:=(.pointer (some ⟨g,a * 4,none⟩))) rfl (λwz9 hSw=>?_) ?_;(·(try dsimp only at hSw);go_simp;try with_reducible rfl);go_simp
    refine wtk (i:=8) (v:=x.val) rfl (Or.inl ⟨by rfl,?hhra8⟩) (by assumption) ?rrra8
    case hhra8=>(intro wz9 hSw;exact run_valueS (HLA.out wz9 hSw.1))
    go_simp
    refine wpAnyH_ready (rs:=[9]) (by kernel_rfl) (by simp) ?_;refine AllReadyH.cons rfl (fun K9 hK9=>?_) AllReadyH.nil
    go_simp
    go_wp2_with (go_at_call 176;refine (HCC.out _).mono ?_;rintro e w3 ⟨rfl,hk3⟩)
    refine hK9.out _ _ ?_ (fun hHeld=>?_)
    ·exact ⟨hHeld.1.kept hk3 (fun f=>f),hHeld.2.trans hk3⟩
    clear hK9 K9;refine wtk (i:=10) (v:=(.bool true)) rfl (Or.inl ⟨by rfl,?hhra10⟩) (by assumption) ?rrra10
    case hhra10=>(intro wz9 hSw;(try dsimp only at hSw);go_simp;try with_reducible rfl)
    go_simp
    refine wpAnyH_done (by kernel_rfl) ?_ _
    go_wp2
    have hkw3:=hkw.trans hHeld.2;clear hHeld
    go_roundw
    case rel=>exact ⟨q+1,j,by go_num,rfl,by omega,by omega,hjb,Lib.hid (.inr (by rw[Nat.add_sub_cancel,← HY.out,← HX.out];exact hlv)),HJ,hkw3⟩
    case measure=>simp[intOf];omega
   ·have hcI:¬ (cfP y x) < 0:=fun h=>hlv (cfP_lt.1 h)
    have hcD:decide (cfP y x < 0)=false:=decide_eq_false hcI;obtain ⟨cv,hcv⟩:∃ cv,cv=cfP y x:=⟨_,rfl⟩
    have HCC:Hid (∀ wx,Calls Tryz.prog 176 #[y.val,x.val] wx fun e w'=>e=.returned (.int .i64 cv)∧Kept No wx w'):=Lib.hid (fun wx=>by rw[hcv];exact cmp_any y x wx);rw[← hcv]at hcI hcD;clear hcv;refine wp_region_held_drew (S:=(fun wx=>Dat 95 wx g X LS∧Kept No wr wx)) (by kernel_rfl) ?_ (fun hHeld=>?_)
    ·exact ⟨hDr.kept (S:=No) ((Kept.refl No wr).drew) (fun f=>f),(Kept.refl No wr).drew⟩
    refine wtv (i:=0) (v:=(.func (.func 176) #[] #[])) rfl (λwz9 hSw=>?_) ?_;(·(try dsimp only at hSw);go_simp;try with_reducible rfl);go_simp
    refine wtv (i:=1) (v:=(.slice (some ⟨g,0,none⟩) N c)) rfl (λwz9 hSw=>?_) ?_;(·(try dsimp only at hSw);go_simp;try with_reducible rfl);go_simp
    refine wtv (i:=2) (v:=?_) rfl (λwz9 hSw=>?_) ?_;rotate_left;(·(try dsimp only at hSw);go_simp;try with_reducible rfl);go_simp
    refine wtv (i:=3) (v:=(.pointer (some ⟨g,q * 4,none⟩))) rfl (λwz9 hSw=>?_) ?_;(·(try dsimp only at hSw);go_simp;try with_reducible rfl);go_simp
    refine wtk (i:=4) (v:=y.val) rfl (Or.inl ⟨by rfl,?hhrb4⟩) (by assumption) ?rrrb4
    case hhrb4=>(intro wz9 hSw;exact run_valueS (HLQ.out wz9 hSw.1))
    go_simp
    refine wtv (i:=5) (v:=(.slice (some ⟨g,0,none⟩) N c)) rfl (λwz9 hSw=>?_) ?_;(·(try dsimp only at hSw);go_simp;try with_reducible rfl);go_simp
    refine wtv (i:=6) (v:=?_) rfl (λwz9 hSw=>?_) ?_;rotate_left;(·(try dsimp only at hSw);go_simp;try with_reducible rfl);go_simp
    refine wtv (i:=7) (v:=(.pointer (some ⟨g,a * 4,none⟩))) rfl (λwz9 hSw=>?_) ?_;(·(try dsimp only at hSw);go_simp;try with_reducible rfl);go_simp
    refine wtk (i:=8) (v:=x.val) rfl (Or.inl ⟨by rfl,?hhrb8⟩) (by assumption) ?rrrb8
    case hhrb8=>(intro wz9 hSw;exact run_valueS (HLA.out wz9 hSw.1))
    go_simp
    refine wpAnyH_ready (rs:=[9]) (by kernel_rfl) (by simp) ?_;refine AllReadyH.cons rfl (fun K9 hK9=>?_) AllReadyH.nil
    go_simp
    go_wp2_with (go_at_call 176;refine (HCC.out _).mono ?_;rintro e w3 ⟨rfl,hk3⟩)
    refine hK9.out _ _ ?_ (fun hHeld=>?_)
    ·exact ⟨hHeld.1.kept hk3 (fun f=>f),hHeld.2.trans hk3⟩
    clear hK9 K9;refine wtk (i:=10) (v:=(.bool false)) rfl (Or.inl ⟨by rfl,?hhrb10⟩) (by assumption) ?rrrb10
    case hhrb10=>(intro wz9 hSw;(try dsimp only at hSw);go_simp;try with_reducible rfl)
    go_simp
    refine wpAnyH_done (by kernel_rfl) ?_ _
    go_wp2
    have hkw3:=hkw.trans hHeld.2;clear hHeld
    go_roundw
    case rel=>exact ⟨i,q,rfl,rfl,by omega,by omega,by omega,HI,Lib.hid (.inr (by rw[← HY.out,← HX.out];exact hlv)),hkw3⟩
    case measure=>simp[intOf];omega
  ·have hije:j=i:=by omega
   subst hije;obtain ⟨x,V1,V2,hx,hV,hV1,hsort⟩:=HFR.out j hmi hjb HI.out HJ.out;obtain ⟨ip,hip⟩:∃ ip,j=ip+1:=⟨j - 1,by omega⟩
   subst hip;have HV:Hid (V=V1++V2∧V1.length=ip - a∧sortL (U++V)=V1++x :: V2∧U=[x]):=Lib.hid ⟨hV,by have:=HMA.out;omega,hsort,hx⟩;have HPA:=Lib.hid HSM.out.ha
   have hD1:Dat 95 wr g X (P++(x :: (V1++(V2++S)))):=by
    have:=HD.out.kept hkw (fun f=>f)
    rw[HL.out,hx,hV]at this;simpa using this
   have HD1:=Lib.hid hD1;have hkw1:Kept (One g) w wr:=hkw.any;have hpa:a≤ip:=by have:=HMA.out;omega
   have hipN:ip+1≤N:=by omega
   clear hx hV hV1 hsort hD1 HI HJ hkw HFR HL HD HLL hij;generalize wr=wS at *
   go_wp2
   go_loopw [13] (fun vk wr=>∃ (k:Nat) (Va Vb:List Pr),vk=.int .i64 k∧a≤k∧k≤ip∧Hid (V1=Va++Vb∧k=a+Va.length)∧Hid (Dat 95 wr g X (P++(Va++(x :: (Vb++(V2++S))))))∧Kept (One g) w wr) (fun vk _=>ip - (intOf vk).toNat)
   case atStart=>exact ⟨a,[],V1,rfl,Nat.le_refl _,hpa,Lib.hid ⟨rfl,rfl⟩,Lib.hid (by simpa using HD1.out),hkw1⟩
   case round =>
    obtain ⟨k,Va,Vb,rfl,hak,hki,HK,HR,hkw⟩:=hrel
    by_cases hlt:k < ip
    ·obtain ⟨z,Vb',rfl⟩:∃ z Vb',Vb=z :: Vb':=by
      cases Vb with
      | nil=>exfalso;have h1:=HK.out;have h2:=HV.out;rw[h1.1]at h2;simp at h2;omega
      | cons z t=>exact ⟨z,t,rfl⟩
     have hltI:(k:Int) < (ip:Int):=by omega
     have hkN:k+1 < N:=by omega
     have hkNI:(k:Int)+1 < (N:Int):=by omega
     have hkNI2:(k:Int) < (N:Int):=by omega
     have e0:((k:Int)+1).toNat=k+1:=by omega
     have p0:(0:Int)≤(k:Int)+1:=by omega
     have hkB:(k:Int)≤100000:=by omega
     have hwk:IntKind.i64.wrap ((k:Int)+1)=(k:Int)+1:=by rw[IntKind.wrap_i64];omega
     have HP:Hid (k=(P++Va).length∧k+1=(P++Va).length+1+([]:List Pr).length):=Lib.hid (by have h1:=HK.out;have h2:=HPA.out;simp;omega);have hWD:Dat 95 wr.drew g X ((P++Va)++x :: ([]++z :: (Vb'++(V2++S)))):=(by simpa using HR.out:Dat 95 wr g X ((P++Va)++x :: ([]++z :: (Vb'++(V2++S))))).kept (S:=No) ((Kept.refl No wr).drew) (fun f=>f);have hKD:Kept (One g) w wr.drew:=hkw.drew
     go_wp2
     refine wp_region_any (by kernel_rfl) ?_
     try (change wpAny _ _ _ _ _ _ _ (World.drew _))
     generalize wr.drew=wD at *;obtain ⟨w1,st1,k1,w2,st2,k2,d2⟩:=hWD.swap1 HP.out.1 HP.out.2;have hld_i:=hWD.load HP.out.1;have hld_j:=(by simpa using hWD:Dat 95 wD g X (((P++Va)++[x])++z :: (Vb'++(V2++S)))).load (i:=k+1) (by have:=HP.out.1;simp at this ⊢;omega);have HST1:=Lib.hid st1;have HST2:=Lib.hid st2;have HLI:=Lib.hid hld_i;have HLJ:=Lib.hid hld_j;have HD2:=Lib.hid d2;clear st1 st2 hld_i hld_j hWD d2;refine wpAny_take (i:=0) (v:=(.slice (some ⟨g,0,none⟩) N c)) rfl (by kernel_rfl) (by kernel_rfl) (by kernel_rfl) (fun _ _ _ h=>h) (Or.inl ⟨by rfl,?hhxa0⟩) ?rrxa0
     case hhxa0=>(intro wz9;go_simp;try with_reducible rfl)
     go_simp
     refine wpAny_take (i:=1) (v:=(.int .i64 (k:Int))) rfl (by kernel_rfl) (by kernel_rfl) (by kernel_rfl) (fun _ _ _ h=>h) (Or.inl ⟨by rfl,?hhxa1⟩) ?rrxa1
     case hhxa1=>(intro wz9;go_simp;try with_reducible rfl)
     go_simp
     refine wpAny_take (i:=2) (v:=(.slice (some ⟨g,0,none⟩) N c)) rfl (by kernel_rfl) (by kernel_rfl) (by kernel_rfl) (fun _ _ _ h=>h) (Or.inl ⟨by rfl,?hhxa2⟩) ?rrxa2
     case hhxa2=>(intro wz9;go_simp;try with_reducible rfl)
     go_simp
     refine wpAny_take (i:=3) (v:=(.int .i64 (k:Int))) rfl (by kernel_rfl) (by kernel_rfl) (by kernel_rfl) (fun _ _ _ h=>h) (Or.inl ⟨by rfl,?hhxa3⟩) ?rrxa3
     case hhxa3=>(intro wz9;go_simp;try with_reducible rfl)
     go_simp
     refine wpAny_take (i:=4) (v:=(.int .i64 ((k:Int)+1))) rfl (by kernel_rfl) (by kernel_rfl) (by kernel_rfl) (fun _ _ _ h=>h) (Or.inl ⟨by rfl,?hhxa4⟩) ?rrxa4
     case hhxa4=>(intro wz9;go_simp;try with_reducible rfl)
     go_simp
     refine wpAny_take (i:=5) (v:=(.slice (some ⟨g,0,none⟩) N c)) rfl (by kernel_rfl) (by kernel_rfl) (by kernel_rfl) (fun _ _ _ h=>h) (Or.inl ⟨by rfl,?hhxa5⟩) ?rrxa5
     case hhxa5=>(intro wz9;go_simp;try with_reducible rfl)
     go_simp
     refine wpAny_take (i:=6) (v:=(.int .i64 (k:Int))) rfl (by kernel_rfl) (by kernel_rfl) (by kernel_rfl) (fun _ _ _ h=>h) (Or.inl ⟨by rfl,?hhxa6⟩) ?rrxa6
     case hhxa6=>(intro wz9;go_simp;try with_reducible rfl)
     go_simp
     refine wpAny_take (i:=7) (v:=(.int .i64 ((k:Int)+1))) rfl (by kernel_rfl) (by kernel_rfl) (by kernel_rfl) (fun _ _ _ h=>h) (Or.inl ⟨by rfl,?hhxa7⟩) ?rrxa7
     case hhxa7=>(intro wz9;go_simp;try with_reducible rfl)
     go_simp
     refine wpAny_take (i:=8) (v:=(.pointer (some ⟨g,(k+1) * 4,none⟩))) rfl (by kernel_rfl) (by kernel_rfl) (by kernel_rfl) (fun _ _ _ h=>h) (Or.inl ⟨by rfl,?hhxa8⟩) ?rrxa8
     case hhxa8=>(intro wz9;go_simp;try with_reducible rfl)
     go_simp
     refine wpAny_take (i:=10) (v:=(.slice (some ⟨g,0,none⟩) N c)) rfl (by kernel_rfl) (by kernel_rfl) (by kernel_rfl) (fun _ _ _ h=>h) (Or.inl ⟨by rfl,?hhxa10⟩) ?rrxa10
     case hhxa10=>(intro wz9;go_simp;try with_reducible rfl)
     go_simp
     refine wpAny_take (i:=11) (v:=(.int .i64 (k:Int))) rfl (by kernel_rfl) (by kernel_rfl) (by kernel_rfl) (fun _ _ _ h=>h) (Or.inl ⟨by rfl,?hhxa11⟩) ?rrxa11
     case hhxa11=>(intro wz9;go_simp;try with_reducible rfl)
     go_simp
     refine wpAny_take (i:=12) (v:=(.pointer (some ⟨g,k * 4,none⟩))) rfl (by kernel_rfl) (by kernel_rfl) (by kernel_rfl) (fun _ _ _ h=>h) (Or.inl ⟨by rfl,?hhxa12⟩) ?rrxa12
     case hhxa12=>(intro wz9;go_simp;try with_reducible rfl)
     go_simp
     refine wpAny_ready (rs:=[9,13]) (by kernel_rfl) (by simp) ?_;refine AllReady.cons rfl (fun K9 hK9=>?_) (AllReady.cons rfl (fun K9 hK9=>?_) AllReady.nil)
     ·refine (if_pos (show Region.wanted _ _=true from rfl)).mpr ?_
      refine op_loadN 95 (.tmp 69) rfl rfl HLJ.out ?_;refine hK9 _ _ ?_;clear hK9 K9
      go_simp
      refine wpAny_ready (rs:=[13]) (by kernel_rfl) (by simp) ?_;refine AllReady.cons rfl (fun K9 hK9=>?_) AllReady.nil;refine (if_pos (show Region.wanted _ _=true from rfl)).mpr ?_;refine op_loadN 95 (.tmp 73) rfl rfl HLI.out ?_;refine hK9 _ _ ?_;clear hK9 K9
      go_simp
      refine wpAny_take (i:=14) (v:=(.pointer (some ⟨g,k * 4,none⟩))) rfl (by kernel_rfl) (by kernel_rfl) (by kernel_rfl) (fun _ _ _ h=>h) (Or.inl ⟨by rfl,?hhxap14⟩) ?rrxap14
      case hhxap14=>(intro wz9;go_simp;try with_reducible rfl)
      go_simp
      refine wpAny_ready (rs:=[15]) (by kernel_rfl) (by simp) ?_;refine AllReady.cons rfl (fun K9 hK9=>?_) AllReady.nil;refine (if_pos (show Region.wanted _ _=true from rfl)).mpr ?_;refine op_storeS 95 (.tmp 75) (.tmp 70) rfl rfl rfl HST1.out ?_;refine hK9 _ _ ?_;clear hK9 K9
      go_simp
      refine wpAny_take (i:=16) (v:=(.pointer (some ⟨g,(k+1) * 4,none⟩))) rfl (by kernel_rfl) (by kernel_rfl) (by kernel_rfl) (fun _ _ _ h=>h) (Or.inl ⟨by rfl,?hhxap16⟩) ?rrxap16
      case hhxap16=>(intro wz9;go_simp;try with_reducible rfl)
      go_simp
      refine wpAny_ready (rs:=[17]) (by kernel_rfl) (by simp) ?_;refine AllReady.cons rfl (fun K9 hK9=>?_) AllReady.nil;refine (if_pos (show Region.wanted _ _=true from rfl)).mpr ?_;refine op_storeS 95 (.tmp 76) (.tmp 74) rfl rfl rfl HST2.out ?_;refine hK9 _ _ ?_;clear hK9 K9
      go_simp
      refine wpAny_done (by kernel_rfl) ?_ _
      go_wp2
      go_roundw
      case rel =>
       have HQ9:Hid (V1=(Va++[z])++Vb'∧k+1=a+(Va++[z]).length):=Lib.hid (by have:=HK.out;exact ⟨by rw[this.1];simp,by simp;omega⟩)
       (repeat apply Exists.intro)
       exact ⟨⟨k+1,Va++[z],Vb',by go_num,by omega,by omega,HQ9,Lib.hid (by simpa using HD2.out),(hKD.trans k1).trans k2⟩,rfl⟩
      case measure=>simp[intOf];omega
     ·refine (if_pos (show Region.wanted _ _=true from rfl)).mpr ?_
      refine op_loadN 95 (.tmp 73) rfl rfl HLI.out ?_;refine hK9 _ _ ?_;clear hK9 K9
      go_simp
      refine wpAny_ready (rs:=[9]) (by kernel_rfl) (by simp) ?_;refine AllReady.cons rfl (fun K9 hK9=>?_) AllReady.nil;refine (if_pos (show Region.wanted _ _=true from rfl)).mpr ?_;refine op_loadN 95 (.tmp 69) rfl rfl HLJ.out ?_;refine hK9 _ _ ?_;clear hK9 K9
      go_simp
      refine wpAny_take (i:=14) (v:=(.pointer (some ⟨g,k * 4,none⟩))) rfl (by kernel_rfl) (by kernel_rfl) (by kernel_rfl) (fun _ _ _ h=>h) (Or.inl ⟨by rfl,?hhxaq14⟩) ?rrxaq14
      case hhxaq14=>(intro wz9;go_simp;try with_reducible rfl)
      go_simp
      refine wpAny_ready (rs:=[15]) (by kernel_rfl) (by simp) ?_;refine AllReady.cons rfl (fun K9 hK9=>?_) AllReady.nil;refine (if_pos (show Region.wanted _ _=true from rfl)).mpr ?_;refine op_storeS 95 (.tmp 75) (.tmp 70) rfl rfl rfl HST1.out ?_;refine hK9 _ _ ?_;clear hK9 K9
      go_simp
      refine wpAny_take (i:=16) (v:=(.pointer (some ⟨g,(k+1) * 4,none⟩))) rfl (by kernel_rfl) (by kernel_rfl) (by kernel_rfl) (fun _ _ _ h=>h) (Or.inl ⟨by rfl,?hhxaq16⟩) ?rrxaq16
      case hhxaq16=>(intro wz9;go_simp;try with_reducible rfl)
      go_simp
      refine wpAny_ready (rs:=[17]) (by kernel_rfl) (by simp) ?_;refine AllReady.cons rfl (fun K9 hK9=>?_) AllReady.nil;refine (if_pos (show Region.wanted _ _=true from rfl)).mpr ?_;refine op_storeS 95 (.tmp 76) (.tmp 74) rfl rfl rfl HST2.out ?_;refine hK9 _ _ ?_;clear hK9 K9
      go_simp
      refine wpAny_done (by kernel_rfl) ?_ _
      go_wp2
      go_roundw
      case rel =>
       have HQ9:Hid (V1=(Va++[z])++Vb'∧k+1=a+(Va++[z]).length):=Lib.hid (by have:=HK.out;exact ⟨by rw[this.1];simp,by simp;omega⟩)
       (repeat apply Exists.intro)
       exact ⟨⟨k+1,Va++[z],Vb',by go_num,by omega,by omega,HQ9,Lib.hid (by simpa using HD2.out),(hKD.trans k1).trans k2⟩,rfl⟩
      case measure=>simp[intOf];omega
    ·have hltI:¬ (k:Int) < (ip:Int):=by omega
     have hVb:Vb=[]:=List.length_eq_zero_iff.1 (by have h1:=HK.out;have h2:=HV.out;rw[h1.1]at h2;simp at h2;omega);have HVb:=Lib.hid hVb;clear hVb
     go_wp2
     first|go_end0|go_ret
     refine ⟨rfl,?_,hkw⟩;have h1:=HK.out;have h2:=HV.out;have h3:=HR.out;rw[HVb.out]at h1 h3;rw[h2.2.2.1,h1.1];simpa using h3
set_option maxHeartbeats 8000000 in
theorem sym_back (g c:Nat) (X:List Value) (P U V S:List Pr) (N a m b:Nat) (h:SM N P U V S a m b) (h1:V.length=1) (h2:2≤U.length) (hNb:N≤100000) (w:World) (hd:Dat 95 w g X (P++(U++(V++S)))) :
  Calls Tryz.prog 196 #[.slice (some ⟨g,0,none⟩) N c,.int .i64 a,.int .i64 m,.int .i64 b,.func (.func 176) #[] #[]] w (Turns 95 g X (P++(sortL (U++V)++S)) w):=by
 have HSM:=Lib.hid h;have HU1:=Lib.hid h1;have e1:=h.ha;have e2:=h.hm;have e3:=h.hb;have e4:=h.hN;have HMB:Hid (b=m+1):=Lib.hid (by omega);have ham:a+2≤m:=by omega
 have hmb:m+1≤b:=by omega
 have hbN:b≤N:=by omega
 clear e1 e2 e3 e4 h1 h2 h;have hLl:=HSM.out.len;obtain ⟨LS,hLS⟩:∃ LS,LS=P++(U++(V++S)):=⟨_,rfl⟩
 have HBK:Hid (∀ i,a≤i→i≤m→(i=a∨¬ LS[m]!.id < LS[i - 1]!.id)→(i=m∨LS[m]!.id < LS[i]!.id)→∃ y U1 U2,V=[y]∧U=U1++U2∧U1.length=i - a∧sortL (U++V)=U1++y :: U2):=Lib.hid (fun i q1 q2 q3 q4=>by rw[hLS]at q3 q4;exact HSM.out.back HU1.out q1 q2 q3 q4);have HL:=Lib.hid hLS;rw[← hLS]at hd hLl;have HD:=Lib.hid hd;have HLL:=Lib.hid hLl;clear hLS hd hLl;obtain ⟨ud,hud⟩:∃ ud,ud=m - a:=⟨_,rfl⟩
 have hd1:(m:Int) - (a:Int)=(ud:Int):=by omega
 have hd3:((ud:Int) == 1)=false:=by simp;omega
 have hd4:(b:Int) - (m:Int)=1:=by have:=HMB.out;omega
 clear hud
 go_enter Tryz.func196,Tryz.ntmps196
 go_wp2
 clear hd1 hd3 hd4
 go_loopw [14,15] (fun vi vj wr=>∃ i j:Nat,vi=.int .i64 i∧vj=.int .i64 j∧a≤i∧i≤j∧j≤m∧Hid (i=a∨¬ LS[m]!.id < LS[i - 1]!.id)∧Hid (j=m∨LS[m]!.id < LS[j]!.id)∧Kept No w wr) (fun vi vj _=>(intOf vj).toNat - (intOf vi).toNat)
 case atStart=>exact ⟨a,m,rfl,rfl,Nat.le_refl _,by omega,Nat.le_refl _,Lib.hid (.inl rfl),Lib.hid (.inl rfl),Kept.refl _ _⟩
 case round =>
  obtain ⟨i,j,rfl,rfl,hai,hij,hjm,HI,HJ,hkw⟩:=hrel
  by_cases hlt:i < j
  ·have hltI:(i:Int) < (j:Int):=by omega
   obtain ⟨q,hq⟩:∃ q,q=(i+j) / 2:=⟨_,rfl⟩
   have hq1:i≤q:=by omega
   have hq2:q < j:=by omega
   have hqI:((i:Int)+(j:Int)) / 2=(q:Int):=by omega
   have hsum:(i:Int)+(j:Int)≤200000:=by omega
   have HQ:=Lib.hid hqI;clear hq
   go_wp2_with (refine op_shr 156 156 (.tmp 89) (.const (.int .u64 1)) rfl rfl rfl HQ.out ?_)
   have hqN:q < N:=by omega
   have hmN:m < N:=by omega
   have hqNI:(q:Int) < (N:Int):=by omega
   have hmNI:(m:Int) < (N:Int):=by omega
   have hDr:Dat 95 wr g X LS:=HD.out.kept hkw (fun f=>f);have HLQ:Hid (∀ wx,Dat 95 wx g X LS→(Instr.loadAt 95 (.pointer (some ⟨g,q * 4,none⟩))).run Tryz.prog wx=.ok LS[q]!.val wx):=Lib.hid (fun wx h=>h.load_get (by rw[← HLL.out];exact hqN));have HLM:Hid (∀ wx,Dat 95 wx g X LS→(Instr.loadAt 95 (.pointer (some ⟨g,m * 4,none⟩))).run Tryz.prog wx=.ok LS[m]!.val wx):=Lib.hid (fun wx h=>h.load_get (by rw[← HLL.out];exact hmN));obtain ⟨x,hx⟩:∃ x,x=LS[q]!:=⟨_,rfl⟩
   obtain ⟨y,hy⟩:∃ y,y=LS[m]!:=⟨_,rfl⟩
   have HY:=Lib.hid hy;have HX:=Lib.hid hx;rw[← hx]at HLQ;rw[← hy]at HLM;clear hx hy
   by_cases hlv:y.id < x.id
   ·have hcI:(cfP y x) < 0:=cfP_lt.2 hlv
    have hcD:decide (cfP y x < 0)=true:=decide_eq_true hcI;obtain ⟨cv,hcv⟩:∃ cv,cv=cfP y x:=⟨_,rfl⟩
    have HCC:Hid (∀ wx,Calls Tryz.prog 176 #[y.val,x.val] wx fun e w'=>e=.returned (.int .i64 cv)∧Kept No wx w'):=Lib.hid (fun wx=>by rw[hcv];exact cmp_any y x wx);rw[← hcv]at hcI hcD;clear hcv;refine wp_region_held_drew (S:=(fun wx=>Dat 95 wx g X LS∧Kept No wr wx)) (by kernel_rfl) ?_ (fun hHeld=>?_)
    ·exact ⟨hDr.kept (S:=No) ((Kept.refl No wr).drew) (fun f=>f),(Kept.refl No wr).drew⟩
    refine wtv (i:=0) (v:=(.func (.func 176) #[] #[])) rfl (λwz9 hSw=>?_) ?_;(·(try dsimp only at hSw);go_simp;try with_reducible rfl);go_simp
    refine wtv (i:=1) (v:=(.slice (some ⟨g,0,none⟩) N c)) rfl (λwz9 hSw=>?_) ?_;(·(try dsimp only at hSw);go_simp;try with_reducible rfl);go_simp
    refine wtv (i:=2) (v:=?_) rfl (λwz9 hSw=>?_) ?_;rotate_left;(·(try dsimp only at hSw);go_simp;try with_reducible rfl);go_simp
    refine wtv (i:=3) (v:=(.pointer (some ⟨g,m * 4,none⟩))) rfl (λwz9 hSw=>?_) ?_;(·(try dsimp only at hSw);go_simp;try with_reducible rfl);go_simp
    refine wtk (i:=4) (v:=y.val) rfl (Or.inl ⟨by rfl,?hhrc4⟩) (by assumption) ?rrrc4
    case hhrc4=>(intro wz9 hSw;exact run_valueS (HLM.out wz9 hSw.1))
    go_simp
    refine wtv (i:=5) (v:=(.slice (some ⟨g,0,none⟩) N c)) rfl (λwz9 hSw=>?_) ?_;(·(try dsimp only at hSw);go_simp;try with_reducible rfl);go_simp
    refine wtv (i:=6) (v:=?_) rfl (λwz9 hSw=>?_) ?_;rotate_left;(·(try dsimp only at hSw);go_simp;try with_reducible rfl);go_simp
    refine wtv (i:=7) (v:=(.pointer (some ⟨g,q * 4,none⟩))) rfl (λwz9 hSw=>?_) ?_;(·(try dsimp only at hSw);go_simp;try with_reducible rfl);go_simp
    refine wtk (i:=8) (v:=x.val) rfl (Or.inl ⟨by rfl,?hhrc8⟩) (by assumption) ?rrrc8
    case hhrc8=>(intro wz9 hSw;exact run_valueS (HLQ.out wz9 hSw.1))
    go_simp
    refine wpAnyH_ready (rs:=[9]) (by kernel_rfl) (by simp) ?_;refine AllReadyH.cons rfl (fun K9 hK9=>?_) AllReadyH.nil
    go_simp
    go_wp2_with (go_at_call 176;refine (HCC.out _).mono ?_;rintro e w3 ⟨rfl,hk3⟩)
    refine hK9.out _ _ ?_ (fun hHeld=>?_)
    ·exact ⟨hHeld.1.kept hk3 (fun f=>f),hHeld.2.trans hk3⟩
    clear hK9 K9;refine wtk (i:=10) (v:=(.bool true)) rfl (Or.inl ⟨by rfl,?hhrc10⟩) (by assumption) ?rrrc10
    case hhrc10=>(intro wz9 hSw;(try dsimp only at hSw);go_simp;try with_reducible rfl)
    go_simp
    refine wtv (i:=11) (v:=(.bool false)) rfl (λwz9 hSw=>?_) ?_;(·(try dsimp only at hSw);go_simp;try with_reducible rfl);go_simp
    refine wpAnyH_done (by kernel_rfl) ?_ _
    go_wp2
    have hkw3:=hkw.trans hHeld.2;clear hHeld
    go_roundw
    case rel=>exact ⟨i,q,rfl,rfl,by omega,by omega,by omega,HI,Lib.hid (.inr (by rw[← HY.out,← HX.out];exact hlv)),hkw3⟩
    case measure=>simp[intOf];omega
   ·have hcI:¬ (cfP y x) < 0:=fun h=>hlv (cfP_lt.1 h)
    have hcD:decide (cfP y x < 0)=false:=decide_eq_false hcI;obtain ⟨cv,hcv⟩:∃ cv,cv=cfP y x:=⟨_,rfl⟩
    have HCC:Hid (∀ wx,Calls Tryz.prog 176 #[y.val,x.val] wx fun e w'=>e=.returned (.int .i64 cv)∧Kept No wx w'):=Lib.hid (fun wx=>by rw[hcv];exact cmp_any y x wx);rw[← hcv]at hcI hcD;clear hcv;refine wp_region_held_drew (S:=(fun wx=>Dat 95 wx g X LS∧Kept No wr wx)) (by kernel_rfl) ?_ (fun hHeld=>?_)
    ·exact ⟨hDr.kept (S:=No) ((Kept.refl No wr).drew) (fun f=>f),(Kept.refl No wr).drew⟩
    refine wtv (i:=0) (v:=(.func (.func 176) #[] #[])) rfl (λwz9 hSw=>?_) ?_;(·(try dsimp only at hSw);go_simp;try with_reducible rfl);go_simp
    refine wtv (i:=1) (v:=(.slice (some ⟨g,0,none⟩) N c)) rfl (λwz9 hSw=>?_) ?_;(·(try dsimp only at hSw);go_simp;try with_reducible rfl);go_simp
    refine wtv (i:=2) (v:=?_) rfl (λwz9 hSw=>?_) ?_;rotate_left;(·(try dsimp only at hSw);go_simp;try with_reducible rfl);go_simp
    refine wtv (i:=3) (v:=(.pointer (some ⟨g,m * 4,none⟩))) rfl (λwz9 hSw=>?_) ?_;(·(try dsimp only at hSw);go_simp;try with_reducible rfl);go_simp
    refine wtk (i:=4) (v:=y.val) rfl (Or.inl ⟨by rfl,?hhrd4⟩) (by assumption) ?rrrd4
    case hhrd4=>(intro wz9 hSw;exact run_valueS (HLM.out wz9 hSw.1))
    go_simp
    refine wtv (i:=5) (v:=(.slice (some ⟨g,0,none⟩) N c)) rfl (λwz9 hSw=>?_) ?_;(·(try dsimp only at hSw);go_simp;try with_reducible rfl);go_simp
    refine wtv (i:=6) (v:=?_) rfl (λwz9 hSw=>?_) ?_;rotate_left;(·(try dsimp only at hSw);go_simp;try with_reducible rfl);go_simp
    refine wtv (i:=7) (v:=(.pointer (some ⟨g,q * 4,none⟩))) rfl (λwz9 hSw=>?_) ?_;(·(try dsimp only at hSw);go_simp;try with_reducible rfl);go_simp
    refine wtk (i:=8) (v:=x.val) rfl (Or.inl ⟨by rfl,?hhrd8⟩) (by assumption) ?rrrd8
    case hhrd8=>(intro wz9 hSw;exact run_valueS (HLQ.out wz9 hSw.1))
    go_simp
    refine wpAnyH_ready (rs:=[9]) (by kernel_rfl) (by simp) ?_;refine AllReadyH.cons rfl (fun K9 hK9=>?_) AllReadyH.nil
    go_simp
    go_wp2_with (go_at_call 176;refine (HCC.out _).mono ?_;rintro e w3 ⟨rfl,hk3⟩)
    refine hK9.out _ _ ?_ (fun hHeld=>?_)
    ·exact ⟨hHeld.1.kept hk3 (fun f=>f),hHeld.2.trans hk3⟩
    clear hK9 K9;refine wtk (i:=10) (v:=(.bool false)) rfl (Or.inl ⟨by rfl,?hhrd10⟩) (by assumption) ?rrrd10
    case hhrd10=>(intro wz9 hSw;(try dsimp only at hSw);go_simp;try with_reducible rfl)
    go_simp
    refine wtv (i:=11) (v:=(.bool true)) rfl (λwz9 hSw=>?_) ?_;(·(try dsimp only at hSw);go_simp;try with_reducible rfl);go_simp
    refine wpAnyH_done (by kernel_rfl) ?_ _
    go_wp2
    have hkw3:=hkw.trans hHeld.2;clear hHeld
    go_roundw
    case rel=>exact ⟨q+1,j,by go_num,rfl,by omega,by omega,hjm,Lib.hid (.inr (by rw[Nat.add_sub_cancel,← HY.out,← HX.out];exact hlv)),HJ,hkw3⟩
    case measure=>simp[intOf];omega
  ·have hije:j=i:=by omega
   subst hije;obtain ⟨y,U1,U2,hy,hU,hU1,hsort⟩:=HBK.out j hai hjm HI.out HJ.out;have HPA:=Lib.hid HSM.out.ha;have HPM:=Lib.hid HSM.out.hm;have HV:Hid (U=U1++U2∧U1.length=j - a∧sortL (U++V)=U1++y :: U2∧m=j+U2.length):=Lib.hid ⟨hU,hU1,hsort,by have h1:=HSM.out.hm;have h2:=HSM.out.ha;rw[hU]at h1;simp at h1;omega⟩
   have hD1:Dat 95 wr g X (P++(U1++(U2++(y :: S)))):=by
    have:=HD.out.kept hkw (fun f=>f)
    rw[HL.out,hy,hU]at this;simpa using this
   have HD1:=Lib.hid hD1;have hkw1:Kept (One g) w wr:=hkw.any;clear hy hU hU1 hsort hD1 HI HJ hkw HBK HL HD HLL hij;obtain ⟨i,hij⟩:∃ i,i=j:=⟨_,rfl⟩
   subst hij;generalize wr=wS at *
   go_wp2
   go_loopw [17] (fun vk wr=>∃ (k:Nat) (Ua Ub:List Pr),vk=.int .i64 k∧i≤k∧k≤m∧Hid (U2=Ua++Ub∧k=i+Ua.length)∧Hid (Dat 95 wr g X (P++(U1++(Ua++(y :: (Ub++S))))))∧Kept (One g) w wr) (fun vk _=>(intOf vk).toNat)
   case atStart=>exact ⟨m,U2,[],rfl,hjm,Nat.le_refl _,Lib.hid ⟨by simp,HV.out.2.2.2⟩,Lib.hid (by simpa using HD1.out),hkw1⟩
   case round =>
    obtain ⟨k,Ua,Ub,rfl,hik,hkm,HK,HR,hkw⟩:=hrel
    by_cases hlt:i < k
    ·obtain ⟨jp,hjp⟩:∃ jp,k=jp+1:=⟨k - 1,by omega⟩
     obtain ⟨Ua',z,hUa⟩:∃ Ua' z,Ua=Ua'++[z]:=by
      have h0:Ua≠[]:=fun h=>by have:=HK.out.2;rw[h]at this;simp at this;omega
      exact ⟨Ua.dropLast,Ua.getLast h0,(List.dropLast_concat_getLast h0).symm⟩
     subst hjp hUa;have hltI:(i:Int) < (jp:Int)+1:=by omega
     have hkNI:(jp:Int)+1 < (N:Int):=by omega
     have hkNI2:(jp:Int) < (N:Int):=by omega
     have e0:((jp:Int)+1).toNat=jp+1:=by omega
     have p0:(0:Int)≤(jp:Int)+1:=by omega
     have hwp:IntKind.i64.wrap (jp:Int)=(jp:Int):=by rw[IntKind.wrap_i64];omega
     have HP:Hid (jp=(P++(U1++Ua')).length∧jp+1=(P++(U1++Ua')).length+1+([]:List Pr).length):=Lib.hid (by have h1:=HK.out;have h2:=HPA.out;have h3:=HV.out;simp at h1 ⊢;omega);have hWD:Dat 95 wr.drew g X ((P++(U1++Ua'))++z :: ([]++y :: (Ub++S))):=(by simpa using HR.out:Dat 95 wr g X ((P++(U1++Ua'))++z :: ([]++y :: (Ub++S)))).kept (S:=No) ((Kept.refl No wr).drew) (fun f=>f);have hKD:Kept (One g) w wr.drew:=hkw.drew
     go_wp2
     refine wp_region_any (by kernel_rfl) ?_
     try (change wpAny _ _ _ _ _ _ _ (World.drew _))
     generalize wr.drew=wD at *;obtain ⟨w1,st1,k1,w2,st2,k2,d2⟩:=hWD.swap2 HP.out.1 HP.out.2;have hld_i:=hWD.load HP.out.1;have hld_j:=(by simpa using hWD:Dat 95 wD g X (((P++(U1++Ua'))++[z])++y :: (Ub++S))).load (i:=jp+1) (by have:=HP.out.1;simp at this ⊢;omega);have HST1:=Lib.hid st1;have HST2:=Lib.hid st2;have HLI:=Lib.hid hld_i;have HLJ:=Lib.hid hld_j;have HD2:=Lib.hid d2;clear st1 st2 hld_i hld_j hWD d2;refine wpAny_take (i:=0) (v:=(.slice (some ⟨g,0,none⟩) N c)) rfl (by kernel_rfl) (by kernel_rfl) (by kernel_rfl) (fun _ _ _ h=>h) (Or.inl ⟨by rfl,?hhxb0⟩) ?rrxb0
     case hhxb0=>(intro wz9;go_simp;try with_reducible rfl)
     go_simp
     refine wpAny_take (i:=1) (v:=(.int .i64 ((jp:Int)+1))) rfl (by kernel_rfl) (by kernel_rfl) (by kernel_rfl) (fun _ _ _ h=>h) (Or.inl ⟨by rfl,?hhxb1⟩) ?rrxb1
     case hhxb1=>(intro wz9;go_simp;try with_reducible rfl)
     go_simp
     refine wpAny_take (i:=2) (v:=(.slice (some ⟨g,0,none⟩) N c)) rfl (by kernel_rfl) (by kernel_rfl) (by kernel_rfl) (fun _ _ _ h=>h) (Or.inl ⟨by rfl,?hhxb2⟩) ?rrxb2
     case hhxb2=>(intro wz9;go_simp;try with_reducible rfl)
     go_simp
     refine wpAny_take (i:=3) (v:=(.int .i64 ((jp:Int)+1))) rfl (by kernel_rfl) (by kernel_rfl) (by kernel_rfl) (fun _ _ _ h=>h) (Or.inl ⟨by rfl,?hhxb3⟩) ?rrxb3
     case hhxb3=>(intro wz9;go_simp;try with_reducible rfl)
     go_simp
     refine wpAny_take (i:=4) (v:=(.int .i64 (jp:Int))) rfl (by kernel_rfl) (by kernel_rfl) (by kernel_rfl) (fun _ _ _ h=>h) (Or.inl ⟨by rfl,?hhxb4⟩) ?rrxb4
     case hhxb4=>(intro wz9;go_simp;first|done|rw[hwp]|omega)
     go_simp
     refine wpAny_take (i:=5) (v:=(.slice (some ⟨g,0,none⟩) N c)) rfl (by kernel_rfl) (by kernel_rfl) (by kernel_rfl) (fun _ _ _ h=>h) (Or.inl ⟨by rfl,?hhxb5⟩) ?rrxb5
     case hhxb5=>(intro wz9;go_simp;try with_reducible rfl)
     go_simp
     refine wpAny_take (i:=6) (v:=(.int .i64 ((jp:Int)+1))) rfl (by kernel_rfl) (by kernel_rfl) (by kernel_rfl) (fun _ _ _ h=>h) (Or.inl ⟨by rfl,?hhxb6⟩) ?rrxb6
     case hhxb6=>(intro wz9;go_simp;try with_reducible rfl)
     go_simp
     refine wpAny_take (i:=7) (v:=(.int .i64 (jp:Int))) rfl (by kernel_rfl) (by kernel_rfl) (by kernel_rfl) (fun _ _ _ h=>h) (Or.inl ⟨by rfl,?hhxb7⟩) ?rrxb7
     case hhxb7=>(intro wz9;go_simp;first|done|rw[hwp]|omega)
     go_simp
     refine wpAny_take (i:=8) (v:=(.pointer (some ⟨g,jp * 4,none⟩))) rfl (by kernel_rfl) (by kernel_rfl) (by kernel_rfl) (fun _ _ _ h=>h) (Or.inl ⟨by rfl,?hhxb8⟩) ?rrxb8
     case hhxb8=>(intro wz9;go_simp;try with_reducible rfl)
     go_simp
     refine wpAny_take (i:=10) (v:=(.slice (some ⟨g,0,none⟩) N c)) rfl (by kernel_rfl) (by kernel_rfl) (by kernel_rfl) (fun _ _ _ h=>h) (Or.inl ⟨by rfl,?hhxb10⟩) ?rrxb10
     case hhxb10=>(intro wz9;go_simp;try with_reducible rfl)
     go_simp
     refine wpAny_take (i:=11) (v:=(.int .i64 ((jp:Int)+1))) rfl (by kernel_rfl) (by kernel_rfl) (by kernel_rfl) (fun _ _ _ h=>h) (Or.inl ⟨by rfl,?hhxb11⟩) ?rrxb11
     case hhxb11=>(intro wz9;go_simp;try with_reducible rfl)
     go_simp
     refine wpAny_take (i:=12) (v:=(.pointer (some ⟨g,(jp+1) * 4,none⟩))) rfl (by kernel_rfl) (by kernel_rfl) (by kernel_rfl) (fun _ _ _ h=>h) (Or.inl ⟨by rfl,?hhxb12⟩) ?rrxb12
     case hhxb12=>(intro wz9;go_simp;try with_reducible rfl)
     go_simp
     refine wpAny_ready (rs:=[9,13]) (by kernel_rfl) (by simp) ?_;refine AllReady.cons rfl (fun K9 hK9=>?_) (AllReady.cons rfl (fun K9 hK9=>?_) AllReady.nil)
     ·refine (if_pos (show Region.wanted _ _=true from rfl)).mpr ?_
      refine op_loadN 95 (.tmp 121) rfl rfl HLI.out ?_;refine hK9 _ _ ?_;clear hK9 K9
      go_simp
      refine wpAny_ready (rs:=[13]) (by kernel_rfl) (by simp) ?_;refine AllReady.cons rfl (fun K9 hK9=>?_) AllReady.nil;refine (if_pos (show Region.wanted _ _=true from rfl)).mpr ?_;refine op_loadN 95 (.tmp 125) rfl rfl HLJ.out ?_;refine hK9 _ _ ?_;clear hK9 K9
      go_simp
      refine wpAny_take (i:=14) (v:=(.pointer (some ⟨g,(jp+1) * 4,none⟩))) rfl (by kernel_rfl) (by kernel_rfl) (by kernel_rfl) (fun _ _ _ h=>h) (Or.inl ⟨by rfl,?hhxbp14⟩) ?rrxbp14
      case hhxbp14=>(intro wz9;go_simp;try with_reducible rfl)
      go_simp
      refine wpAny_ready (rs:=[15]) (by kernel_rfl) (by simp) ?_;refine AllReady.cons rfl (fun K9 hK9=>?_) AllReady.nil;refine (if_pos (show Region.wanted _ _=true from rfl)).mpr ?_;refine op_storeS 95 (.tmp 127) (.tmp 122) rfl rfl rfl HST1.out ?_;refine hK9 _ _ ?_;clear hK9 K9
      go_simp
      refine wpAny_take (i:=16) (v:=(.pointer (some ⟨g,jp * 4,none⟩))) rfl (by kernel_rfl) (by kernel_rfl) (by kernel_rfl) (fun _ _ _ h=>h) (Or.inl ⟨by rfl,?hhxbp16⟩) ?rrxbp16
      case hhxbp16=>(intro wz9;go_simp;try with_reducible rfl)
      go_simp
      refine wpAny_ready (rs:=[17]) (by kernel_rfl) (by simp) ?_;refine AllReady.cons rfl (fun K9 hK9=>?_) AllReady.nil;refine (if_pos (show Region.wanted _ _=true from rfl)).mpr ?_;refine op_storeS 95 (.tmp 128) (.tmp 126) rfl rfl rfl HST2.out ?_;refine hK9 _ _ ?_;clear hK9 K9
      go_simp
      refine wpAny_done (by kernel_rfl) ?_ _
      go_wp2
      go_roundw
      case rel =>
       have HQ9:Hid (U2=Ua'++(z :: Ub)∧jp=i+Ua'.length):=Lib.hid (by have:=HK.out;simp at this;exact ⟨this.1,by omega⟩);exact ⟨jp,Ua',z :: Ub,by first|rfl|go_num,by omega,by omega,HQ9,Lib.hid (by simpa using HD2.out),(hKD.trans k1).trans k2⟩
      case measure=>simp[intOf]
     ·refine (if_pos (show Region.wanted _ _=true from rfl)).mpr ?_
      refine op_loadN 95 (.tmp 125) rfl rfl HLJ.out ?_;refine hK9 _ _ ?_;clear hK9 K9
      go_simp
      refine wpAny_ready (rs:=[9]) (by kernel_rfl) (by simp) ?_;refine AllReady.cons rfl (fun K9 hK9=>?_) AllReady.nil;refine (if_pos (show Region.wanted _ _=true from rfl)).mpr ?_;refine op_loadN 95 (.tmp 121) rfl rfl HLI.out ?_;refine hK9 _ _ ?_;clear hK9 K9
      go_simp
      refine wpAny_take (i:=14) (v:=(.pointer (some ⟨g,(jp+1) * 4,none⟩))) rfl (by kernel_rfl) (by kernel_rfl) (by kernel_rfl) (fun _ _ _ h=>h) (Or.inl ⟨by rfl,?hhxbq14⟩) ?rrxbq14
      case hhxbq14=>(intro wz9;go_simp;try with_reducible rfl)
      go_simp
      refine wpAny_ready (rs:=[15]) (by kernel_rfl) (by simp) ?_;refine AllReady.cons rfl (fun K9 hK9=>?_) AllReady.nil;refine (if_pos (show Region.wanted _ _=true from rfl)).mpr ?_;refine op_storeS 95 (.tmp 127) (.tmp 122) rfl rfl rfl HST1.out ?_;refine hK9 _ _ ?_;clear hK9 K9
      go_simp
      refine wpAny_take (i:=16) (v:=(.pointer (some ⟨g,jp * 4,none⟩))) rfl (by kernel_rfl) (by kernel_rfl) (by kernel_rfl) (fun _ _ _ h=>h) (Or.inl ⟨by rfl,?hhxbq16⟩) ?rrxbq16
      case hhxbq16=>(intro wz9;go_simp;try with_reducible rfl)
      go_simp
      refine wpAny_ready (rs:=[17]) (by kernel_rfl) (by simp) ?_;refine AllReady.cons rfl (fun K9 hK9=>?_) AllReady.nil;refine (if_pos (show Region.wanted _ _=true from rfl)).mpr ?_;refine op_storeS 95 (.tmp 128) (.tmp 126) rfl rfl rfl HST2.out ?_;refine hK9 _ _ ?_;clear hK9 K9
      go_simp
      refine wpAny_done (by kernel_rfl) ?_ _
      go_wp2
      go_roundw
      case rel =>
       have HQ9:Hid (U2=Ua'++(z :: Ub)∧jp=i+Ua'.length):=Lib.hid (by have:=HK.out;simp at this;exact ⟨this.1,by omega⟩);exact ⟨jp,Ua',z :: Ub,by first|rfl|go_num,by omega,by omega,HQ9,Lib.hid (by simpa using HD2.out),(hKD.trans k1).trans k2⟩
      case measure=>simp[intOf]
    ·have hltI:¬ (i:Int) < (k:Int):=by omega
     have hUa:Ua=[]:=List.length_eq_zero_iff.1 (by have h1:=HK.out;omega);have HUa:=Lib.hid hUa;clear hUa
     go_wp2
     first|go_end0|go_ret
     refine ⟨rfl,?_,hkw⟩;have h1:=HK.out;have h2:=HV.out;have h3:=HR.out;rw[HUa.out]at h1 h3;rw[h2.2.2.1,h1.1];simpa using h3
def Merges (g c:Nat) (X:List Value) (N K:Nat):Prop:=∀ (P U V S:List Pr) (a m b:Nat) (wx:World),SM N P U V S a m b→U.length+V.length < K→Dat 95 wx g X (P++(U++(V++S))) →
  Calls Tryz.prog 196 #[.slice (some ⟨g,0,none⟩) N c,.int .i64 a,.int .i64 m,.int .i64 b,.func (.func 176) #[] #[]] wx (Turns 95 g X (P++(sortL (U++V)++S)) wx)
set_option maxHeartbeats 16000000 in
theorem sym_cut (g c:Nat) (X:List Value) (P U V S:List Pr) (N a m b:Nat) (h:SM N P U V S a m b) (h1:2≤U.length) (h2:2≤V.length) (hNb:N≤100000) (w:World) (hd:Dat 95 w g X (P++(U++(V++S)))) (ih:Merges g c X N (U.length+V.length)) :
  Calls Tryz.prog 196 #[.slice (some ⟨g,0,none⟩) N c,.int .i64 a,.int .i64 m,.int .i64 b,.func (.func 176) #[] #[]] w (Turns 95 g X (P++(sortL (U++V)++S)) w):=by
 have HSM:=Lib.hid h;have e1:=h.ha;have e2:=h.hm;have e3:=h.hb;have e4:=h.hN;have IH:=Lib.hid ih;have ham:a+2≤m:=by omega
 have hmb:m+2≤b:=by omega
 have hbN:b≤N:=by omega
 clear e1 e2 e3 e4 h1 h2 h ih;have hLl:=HSM.out.len;obtain ⟨mid,hmid⟩:∃ mid,mid=(a+b) / 2:=⟨_,rfl⟩
 obtain ⟨n,hn⟩:∃ n,n=mid+m:=⟨_,rfl⟩
 obtain ⟨p,hp⟩:∃ p,p+1=n:=⟨n - 1,by omega⟩
 obtain ⟨LS,hLS⟩:∃ LS,LS=P++(U++(V++S)):=⟨_,rfl⟩
 have HCT:Hid (∀ s0 r0 s,((mid < m∧s0+b=n∧r0=mid)∨(m≤mid∧s0=a∧r0=m))→s0≤s→s≤r0→(s=s0∨¬ LS[p - (s - 1)]!.id < LS[s - 1]!.id)→(s=r0∨LS[p - s]!.id < LS[s]!.id) →
  ∃ U1 U2 V1 V2,U=U1++U2∧V=V1++V2∧s=a+U1.length∧m=s+U2.length∧n - s=m+V1.length∧b=(n - s)+V2.length∧mid=s+V1.length∧n - s=mid+U2.length ∧
   sortL (U++V)=sortL (U1++V1)++sortL (U2++V2)):=Lib.hid (fun s0 r0 s q0 q1 q2 q3 q4=>by rw[hLS]at q3 q4;exact HSM.out.cut hmid hn hp q0 q1 q2 q3 q4)
 have HL:=Lib.hid hLS;rw[← hLS]at hd hLl;have HD:=Lib.hid hd;have HLL:=Lib.hid hLl;clear hLS hd hLl;obtain ⟨ud,hud⟩:∃ ud,ud=m - a:=⟨_,rfl⟩
 obtain ⟨vd,hvd⟩:∃ vd,vd=b - m:=⟨_,rfl⟩
 have hd1:(m:Int) - (a:Int)=(ud:Int):=by omega
 have hd3:((ud:Int) == 1)=false:=by simp;omega
 have hd4:(b:Int) - (m:Int)=(vd:Int):=by omega
 have hd5:((vd:Int) == 1)=false:=by simp;omega
 have hqm:((a:Int)+(b:Int)) / 2=(mid:Int):=by omega
 have HQM:=Lib.hid hqm;have hqn:(mid:Int)+(m:Int)=(n:Int):=by omega
 have hqp:(n:Int) - 1=(p:Int):=by omega
 have hsum:(a:Int)+(b:Int)≤200000:=by omega
 have hmid1:a < mid:=by omega
 have hmid2:mid < b:=by omega
 have HNM:Hid (n=mid+m∧p+1=n∧mid=(a+b) / 2):=Lib.hid ⟨hn,hp,hmid⟩;clear hud hvd
 obtain ⟨s0,r0,h0⟩:∃ s0 r0,((mid < m∧s0+b=n∧r0=mid)∨(m≤mid∧s0=a∧r0=m)):=by
  by_cases q:mid < m
  ·exact ⟨n - b,mid,.inl ⟨q,by omega,rfl⟩⟩
  ·exact ⟨a,m,.inr ⟨by omega,rfl,rfl⟩⟩
 have H0:=Lib.hid h0;have hb1:a≤s0∧s0≤r0∧r0≤m∧r0≤mid∧n≤b+s0∧m+r0≤n:=by omega
 obtain ⟨q1,q2,q3,q3b,q4,q5⟩:=hb1;have hgt:mid < m∨¬ mid < m:=by omega
 have hs0:mid < m→(n:Int) - (b:Int)=(s0:Int):=fun q=>by omega
 have hr0:mid < m→(mid:Int)=(r0:Int):=fun q=>by omega
 have hs0b:¬ mid < m→s0=a:=fun q=>by omega
 have hr0b:¬ mid < m→r0=m:=fun q=>by omega
 have HS0:=Lib.hid hs0;have HR0:=Lib.hid hr0;have HS0B:=Lib.hid hs0b;have HR0B:=Lib.hid hr0b;clear hmid hn hp h0 hs0 hr0 hs0b hr0b
 go_enter Tryz.func196,Tryz.ntmps196
 go_upto_if 140 with (refine op_shr 156 156 (.tmp 132) (.const (.int .u64 1)) rfl rfl rfl HQM.out ?_)
 go_cut [20,21] from 140 (fun x y wx=>x=.int .i64 s0∧y=.int .i64 r0∧w=wx)
 case first =>
  rcases hgt with hgt|hgt
  ·have hgtI:(mid:Int) < (m:Int):=by omega
   have e8:=HS0.out hgt;have e9:=HR0.out hgt
   go_wp2
   go_meet
   case rel=>exact ⟨by first|rfl|rw[e8]|simp[e8],by first|rfl|rw[e9]|simp[e9],rfl⟩
  ·have hgtI:¬ (m:Int) > (mid:Int):=by omega
   have hgtI2:¬ (mid:Int) < (m:Int):=by omega
   have HA:=HS0B.out hgt;have HB:=HR0B.out hgt;subst HA HB
   go_wp2
   go_meet
   case rel=>first|exact ⟨rfl,rfl,rfl⟩|((repeat apply Exists.intro);exact ⟨⟨rfl,rfl,rfl⟩,rfl⟩)
 case rest =>
  obtain ⟨rfl,rfl,rfl⟩:=hcut;clear hgt HS0 HR0 HS0B HR0B;have HP:=Lib.hid hqp
  go_wp2
  go_loopw [20,21] (fun vi vj wr=>∃ s r:Nat,vi=.int .i64 s∧vj=.int .i64 r∧s0≤s∧s≤r∧r≤r0∧Hid (s=s0∨¬ LS[p - (s - 1)]!.id < LS[s - 1]!.id)∧Hid (r=r0∨LS[p - r]!.id < LS[r]!.id)∧Kept No w wr) (fun vi vj _=>(intOf vj).toNat - (intOf vi).toNat)
  case atStart=>exact ⟨s0,r0,rfl,rfl,Nat.le_refl _,q2,Nat.le_refl _,Lib.hid (.inl rfl),Lib.hid (.inl rfl),Kept.refl _ _⟩
  case round =>
   obtain ⟨s,r,rfl,rfl,hss,hsr,hrr,HI,HJ,hkw⟩:=hrel
   by_cases hlt:s < r
   ·have hltI:(s:Int) < (r:Int):=by omega
    obtain ⟨q,hq⟩:∃ q,q=(s+r) / 2:=⟨_,rfl⟩
    have hq1:s≤q:=by omega
    have hq2:q < r:=by omega
    have hqI:((s:Int)+(r:Int)) / 2=(q:Int):=by omega
    have hsumI:(s:Int)+(r:Int)≤200000:=by omega
    have HQ:=Lib.hid hqI;have hnn:=HNM.out;obtain ⟨pc,hpc⟩:∃ pc,pc=p - q:=⟨_,rfl⟩
    have hpcI:(p:Int) - (q:Int)=(pc:Int):=by omega
    have hqN:q < N:=by omega
    have hpN:pc < N:=by omega
    have hqNI:(q:Int) < (N:Int):=by omega
    have hpNI:(pc:Int) < (N:Int):=by omega
    have hwpc:IntKind.i64.wrap (pc:Int)=(pc:Int):=by rw[IntKind.wrap_i64];omega
    have HPC:=Lib.hid hpc;clear hq hpc hnn
    go_wp2_with (refine op_shr 156 156 (.tmp 155) (.const (.int .u64 1)) rfl rfl rfl HQ.out ?_)
    have hDr:Dat 95 wr g X LS:=HD.out.kept hkw (fun f=>f);have HLQ:Hid (∀ wx,Dat 95 wx g X LS→(Instr.loadAt 95 (.pointer (some ⟨g,q * 4,none⟩))).run Tryz.prog wx=.ok LS[q]!.val wx):=Lib.hid (fun wx h=>h.load_get (by rw[← HLL.out];exact hqN));have HLP:Hid (∀ wx,Dat 95 wx g X LS→(Instr.loadAt 95 (.pointer (some ⟨g,pc * 4,none⟩))).run Tryz.prog wx=.ok LS[pc]!.val wx):=Lib.hid (fun wx h=>h.load_get (by rw[← HLL.out];exact hpN));obtain ⟨x,hx⟩:∃ x,x=LS[q]!:=⟨_,rfl⟩
    obtain ⟨y,hy⟩:∃ y,y=LS[pc]!:=⟨_,rfl⟩
    have HY:=Lib.hid hy;have HX:=Lib.hid hx;rw[← hx]at HLQ;rw[← hy]at HLP;clear hx hy
    by_cases hlv:y.id < x.id
    ·have hcI:(cfP y x) < 0:=cfP_lt.2 hlv
     have hcD:decide (cfP y x < 0)=true:=decide_eq_true hcI;obtain ⟨cv,hcv⟩:∃ cv,cv=cfP y x:=⟨_,rfl⟩
     have HCC:Hid (∀ wx,Calls Tryz.prog 176 #[y.val,x.val] wx fun e w'=>e=.returned (.int .i64 cv)∧Kept No wx w'):=Lib.hid (fun wx=>by rw[hcv];exact cmp_any y x wx);rw[← hcv]at hcI hcD;clear hcv;refine wp_region_held_drew (S:=(fun wx=>Dat 95 wx g X LS∧Kept No wr wx)) (by kernel_rfl) ?_ (fun hHeld=>?_)
     ·exact ⟨hDr.kept (S:=No) ((Kept.refl No wr).drew) (fun f=>f),(Kept.refl No wr).drew⟩
     refine wtv (i:=0) (v:=(.func (.func 176) #[] #[])) rfl (λwz9 hSw=>?_) ?_;(·(try dsimp only at hSw);go_simp;try with_reducible rfl);go_simp
     refine wtv (i:=1) (v:=(.slice (some ⟨g,0,none⟩) N c)) rfl (λwz9 hSw=>?_) ?_;(·(try dsimp only at hSw);go_simp;try with_reducible rfl);go_simp
     refine wtv (i:=2) (v:=(.int .i64 (p:Int))) rfl (λwz9 hSw=>?_) ?_;(·(try dsimp only at hSw);go_simp;try with_reducible rfl);go_simp
     refine wtv (i:=3) (v:=(.int .i64 (q:Int))) rfl (λwz9 hSw=>?_) ?_;(·(try dsimp only at hSw);go_simp;try with_reducible rfl);go_simp
     refine wtk (i:=4) (v:=(.int .i64 (pc:Int))) rfl (Or.inl ⟨by rfl,?hhre4⟩) (by assumption) ?rrre4
     case hhre4=>(intro wz9 hSw;clear hSw;go_simp;first|done|rw[hwpc]|omega)
     go_simp
     refine wtv (i:=5) (v:=(.pointer (some ⟨g,pc * 4,none⟩))) rfl (λwz9 hSw=>?_) ?_;(·(try dsimp only at hSw);go_simp;try with_reducible rfl);go_simp
     refine wtk (i:=6) (v:=y.val) rfl (Or.inl ⟨by rfl,?hhre6⟩) (by assumption) ?rrre6
     case hhre6=>(intro wz9 hSw;exact run_valueS (HLP.out wz9 hSw.1))
     go_simp
     refine wtv (i:=7) (v:=(.slice (some ⟨g,0,none⟩) N c)) rfl (λwz9 hSw=>?_) ?_;(·(try dsimp only at hSw);go_simp;try with_reducible rfl);go_simp
     refine wtv (i:=8) (v:=?_) rfl (λwz9 hSw=>?_) ?_;rotate_left;(·(try dsimp only at hSw);go_simp;try with_reducible rfl);go_simp
     refine wtv (i:=9) (v:=(.pointer (some ⟨g,q * 4,none⟩))) rfl (λwz9 hSw=>?_) ?_;(·(try dsimp only at hSw);go_simp;try with_reducible rfl);go_simp
     refine wtk (i:=10) (v:=x.val) rfl (Or.inl ⟨by rfl,?hhre10⟩) (by assumption) ?rrre10
     case hhre10=>(intro wz9 hSw;exact run_valueS (HLQ.out wz9 hSw.1))
     go_simp
     refine wpAnyH_ready (rs:=[11]) (by kernel_rfl) (by simp) ?_;refine AllReadyH.cons rfl (fun K9 hK9=>?_) AllReadyH.nil
     go_simp
     go_wp2_with (go_at_call 176;refine (HCC.out _).mono ?_;rintro e w3 ⟨rfl,hk3⟩)
     refine hK9.out _ _ ?_ (fun hHeld=>?_)
     ·exact ⟨hHeld.1.kept hk3 (fun f=>f),hHeld.2.trans hk3⟩
     clear hK9 K9;refine wtk (i:=12) (v:=(.bool true)) rfl (Or.inl ⟨by rfl,?hhre12⟩) (by assumption) ?rrre12
     case hhre12=>(intro wz9 hSw;(try dsimp only at hSw);go_simp;try with_reducible rfl)
     go_simp
     refine wtv (i:=13) (v:=(.bool false)) rfl (λwz9 hSw=>?_) ?_;(·(try dsimp only at hSw);go_simp;try with_reducible rfl);go_simp
     refine wpAnyH_done (by kernel_rfl) ?_ _
     go_wp2
     have hkw3:=hkw.trans hHeld.2;clear hHeld
     go_roundw
     case rel=>exact ⟨s,q,rfl,rfl,by omega,by omega,by omega,HI,Lib.hid (.inr (by rw[← HPC.out,← HY.out,← HX.out];exact hlv)),hkw3⟩
     case measure=>simp[intOf];omega
    ·have hcI:¬ (cfP y x) < 0:=fun h=>hlv (cfP_lt.1 h)
     have hcD:decide (cfP y x < 0)=false:=decide_eq_false hcI;obtain ⟨cv,hcv⟩:∃ cv,cv=cfP y x:=⟨_,rfl⟩
     have HCC:Hid (∀ wx,Calls Tryz.prog 176 #[y.val,x.val] wx fun e w'=>e=.returned (.int .i64 cv)∧Kept No wx w'):=Lib.hid (fun wx=>by rw[hcv];exact cmp_any y x wx);rw[← hcv]at hcI hcD;clear hcv;refine wp_region_held_drew (S:=(fun wx=>Dat 95 wx g X LS∧Kept No wr wx)) (by kernel_rfl) ?_ (fun hHeld=>?_)
     ·exact ⟨hDr.kept (S:=No) ((Kept.refl No wr).drew) (fun f=>f),(Kept.refl No wr).drew⟩
     refine wtv (i:=0) (v:=(.func (.func 176) #[] #[])) rfl (λwz9 hSw=>?_) ?_;(·(try dsimp only at hSw);go_simp;try with_reducible rfl);go_simp
     refine wtv (i:=1) (v:=(.slice (some ⟨g,0,none⟩) N c)) rfl (λwz9 hSw=>?_) ?_;(·(try dsimp only at hSw);go_simp;try with_reducible rfl);go_simp
     refine wtv (i:=2) (v:=(.int .i64 (p:Int))) rfl (λwz9 hSw=>?_) ?_;(·(try dsimp only at hSw);go_simp;try with_reducible rfl);go_simp
     refine wtv (i:=3) (v:=(.int .i64 (q:Int))) rfl (λwz9 hSw=>?_) ?_;(·(try dsimp only at hSw);go_simp;try with_reducible rfl);go_simp
     refine wtk (i:=4) (v:=(.int .i64 (pc:Int))) rfl (Or.inl ⟨by rfl,?hhrf4⟩) (by assumption) ?rrrf4
     case hhrf4=>(intro wz9 hSw;clear hSw;go_simp;first|done|rw[hwpc]|omega)
     go_simp
     refine wtv (i:=5) (v:=(.pointer (some ⟨g,pc * 4,none⟩))) rfl (λwz9 hSw=>?_) ?_;(·(try dsimp only at hSw);go_simp;try with_reducible rfl);go_simp
     refine wtk (i:=6) (v:=y.val) rfl (Or.inl ⟨by rfl,?hhrf6⟩) (by assumption) ?rrrf6
     case hhrf6=>(intro wz9 hSw;exact run_valueS (HLP.out wz9 hSw.1))
     go_simp
     refine wtv (i:=7) (v:=(.slice (some ⟨g,0,none⟩) N c)) rfl (λwz9 hSw=>?_) ?_;(·(try dsimp only at hSw);go_simp;try with_reducible rfl);go_simp
     refine wtv (i:=8) (v:=?_) rfl (λwz9 hSw=>?_) ?_;rotate_left;(·(try dsimp only at hSw);go_simp;try with_reducible rfl);go_simp
     refine wtv (i:=9) (v:=(.pointer (some ⟨g,q * 4,none⟩))) rfl (λwz9 hSw=>?_) ?_;(·(try dsimp only at hSw);go_simp;try with_reducible rfl);go_simp
     refine wtk (i:=10) (v:=x.val) rfl (Or.inl ⟨by rfl,?hhrf10⟩) (by assumption) ?rrrf10
     case hhrf10=>(intro wz9 hSw;exact run_valueS (HLQ.out wz9 hSw.1))
     go_simp
     refine wpAnyH_ready (rs:=[11]) (by kernel_rfl) (by simp) ?_;refine AllReadyH.cons rfl (fun K9 hK9=>?_) AllReadyH.nil
     go_simp
     go_wp2_with (go_at_call 176;refine (HCC.out _).mono ?_;rintro e w3 ⟨rfl,hk3⟩)
     refine hK9.out _ _ ?_ (fun hHeld=>?_)
     ·exact ⟨hHeld.1.kept hk3 (fun f=>f),hHeld.2.trans hk3⟩
     clear hK9 K9;refine wtk (i:=12) (v:=(.bool false)) rfl (Or.inl ⟨by rfl,?hhrf12⟩) (by assumption) ?rrrf12
     case hhrf12=>(intro wz9 hSw;(try dsimp only at hSw);go_simp;try with_reducible rfl)
     go_simp
     refine wtv (i:=13) (v:=(.bool true)) rfl (λwz9 hSw=>?_) ?_;(·(try dsimp only at hSw);go_simp;try with_reducible rfl);go_simp
     refine wpAnyH_done (by kernel_rfl) ?_ _
     go_wp2
     have hkw3:=hkw.trans hHeld.2;clear hHeld
     go_roundw
     case rel=>exact ⟨q+1,r,by go_num,rfl,by omega,by omega,hrr,Lib.hid (.inr (by rw[Nat.add_sub_cancel,← HPC.out,← HY.out,← HX.out];exact hlv)),HJ,hkw3⟩
     case measure=>simp[intOf];omega
   ·have hsre:r=s:=by omega
    subst hsre;obtain ⟨U1,U2,V1,V2,hU,hV,g1,g2,g3,g4,g5,g6,gs⟩:=HCT.out s0 r0 r H0.out hss hrr HI.out HJ.out;obtain ⟨en,hen⟩:∃ en,en=n - r:=⟨_,rfl⟩
    have HG:Hid (U=U1++U2∧V=V1++V2∧r=a+U1.length∧m=r+U2.length∧en=m+V1.length∧b=en+V2.length∧mid=r+V1.length∧en=mid+U2.length∧sortL (U++V)=sortL (U1++V1)++sortL (U2++V2)):=Lib.hid ⟨hU,hV,g1,g2,by rw[hen];exact g3,by rw[hen];exact g4,g5,by rw[hen];exact g6,gs⟩;have henI:(n:Int) - (r:Int)=(en:Int):=by have:=HNM.out;omega
    have hD1:Dat 95 wr g X (P++(U1++(U2++(V1++(V2++S))))):=by
     have:=HD.out.kept hkw (fun f=>f)
     rw[HL.out,hU,hV]at this;simpa using this
    have HD1:=Lib.hid hD1;have hkw1:Kept (One g) w wr:=hkw.any;have sU1:Hid (Srt U1∧Srt U2∧Srt V1∧Srt V2):=Lib.hid (by have h1:=HSM.out.sU;have h2:=HSM.out.sV;rw[hU]at h1;rw[hV]at h2;exact ⟨h1.left,h1.right,h2.left,h2.right⟩);have HBD:Hid (a=P.length∧N=P.length+U1.length+U2.length+V1.length+V2.length+S.length):=Lib.hid (by have h1:=HSM.out.hN;have h2:=HSM.out.ha;rw[hU,hV]at h1;simp at h1;omega);have hrm:a≤r∧r≤m∧m≤en∧en≤b∧r≤mid∧mid≤en:=by have:=HG.out;omega
    obtain ⟨l1,l2,l3,l4,l5,l6⟩:=hrm;have HLN:Hid (U1.length+V1.length < U.length+V.length∧U2.length+V2.length < U.length+V.length):=Lib.hid (by have:=HG.out;rw[hU,hV];simp;omega);clear hU hV g1 g2 g3 g4 g5 g6 gs hen hD1 HI HJ hkw HCT HL HD HLL H0 hlt;generalize wr=wS at *;have hmidN:mid≤N:=by omega
    obtain ⟨cA,hcA⟩:∃ cA:Bool,cA=(decide (r < m)&&decide (m < en)):=⟨_,rfl⟩
    have HCA:=Lib.hid hcA;clear hcA
    go_upto_region 39 with (fail)
    go_cut [185] from 178 (fun t wx=>t=.bool cA∧wS=wx)
    case first =>
     by_cases hA:r < m
     ·have hAI:(r:Int) < (m:Int):=by omega
      by_cases hB:m < en
      ·have hBI:(m:Int) < (en:Int):=by omega
       have HE:Hid (true=cA):=Lib.hid (by rw[HCA.out];simp[hA,hB])
       go_wp2
       go_meet
       case rel=>exact ⟨by rw[HE.out],rfl⟩
      ·have hBI:¬ (m:Int) < (en:Int):=by omega
       have HE:Hid (false=cA):=Lib.hid (by rw[HCA.out];simp[hB])
       go_wp2
       go_meet
       case rel=>exact ⟨by rw[HE.out],rfl⟩
     ·have hAI:¬ (r:Int) < (m:Int):=by omega
      have HE:Hid (false=cA):=Lib.hid (by rw[HCA.out];simp[hA])
      go_wp2
      go_meet
      case rel=>exact ⟨by rw[HE.out],rfl⟩
    case rest =>
     obtain ⟨rfl,rfl⟩:=hcut
     go_upto_if 185 with (fail)
     go_cut [] from 185 (fun wx=>Hid (Dat 95 wx g X (P++(U1++(V1++(U2++(V2++S))))))∧Kept (One g) w wx)
     case first =>
      cases cA with
      | true =>
       have HC2:Hid (r < m∧m < en):=Lib.hid (by have:=HCA.out;simp at this;exact this)
       go_wp2_with (go_at_call 198;refine (rotate_any g c X _ (P++U1) U2 V1 (V2++S) N r m en (by have:=HBD.out;simp;omega) (by have:=HG.out;have:=HC2.out;omega) (by have:=HG.out;have:=HC2.out;omega) (by have:=HG.out;have:=HBD.out;simp;omega) (by have:=HG.out;have:=HBD.out;simp;omega) (by have:=HG.out;have:=HBD.out;simp;omega) hNb _ (by simpa using HD1.out)).mono ?_;rintro e w2 ⟨rfl,hd2,hk2⟩)
       go_meet
       case rel=>exact ⟨Lib.hid (by simpa using hd2),hkw1.trans hk2⟩
      | false =>
       have HZ:Hid (V1=[]∨U2=[]):=Lib.hid (by
        have h9:=HCA.out;have h8:=HG.out;simp at h9
        by_cases q:r < m
        ·exact .inl (List.length_eq_zero_iff.1 (by have:=h9 q;omega))
        ·exact .inr (List.length_eq_zero_iff.1 (by omega)))
       go_wp2
       go_meet
       case rel=>exact ⟨Lib.hid (by have:=HD1.out;rcases HZ.out with h|h<;>(rw[h]at this ⊢;simpa using this)),hkw1⟩
     case rest =>
     obtain ⟨HD2,hkw2⟩:=hcut;clear HD1 hkw1 HCA;obtain ⟨cB,hcB⟩:∃ cB:Bool,cB=(decide (a < r)&&decide (r < mid)):=⟨_,rfl⟩
     have HCB:=Lib.hid hcB;clear hcB
     go_upto_region 41 with (fail)
     go_cut [199] from 192 (fun t wx=>t=.bool cB∧wc=wx)
     case first =>
      by_cases hA:a < r
      ·have hAI:(a:Int) < (r:Int):=by omega
       by_cases hB:r < mid
       ·have hBI:(r:Int) < (mid:Int):=by omega
        have HE:Hid (true=cB):=Lib.hid (by rw[HCB.out];simp[hA,hB])
        go_wp2
        go_meet
        case rel=>exact ⟨by rw[HE.out],rfl⟩
       ·have hBI:¬ (r:Int) < (mid:Int):=by omega
        have HE:Hid (false=cB):=Lib.hid (by rw[HCB.out];simp[hB])
        go_wp2
        go_meet
        case rel=>exact ⟨by rw[HE.out],rfl⟩
      ·have hAI:¬ (a:Int) < (r:Int):=by omega
       have HE:Hid (false=cB):=Lib.hid (by rw[HCB.out];simp[hA])
       go_wp2
       go_meet
       case rel=>exact ⟨by rw[HE.out],rfl⟩
     case rest =>
     obtain ⟨rfl,rfl⟩:=hcut
     go_upto_if 199 with (fail)
     go_cut [] from 199 (fun wx=>Hid (Dat 95 wx g X (P++(sortL (U1++V1)++(U2++(V2++S)))))∧Kept (One g) w wx)
     case first =>
      cases cB with
      | true =>
       have HC2:Hid (a < r∧r < mid):=Lib.hid (by have:=HCB.out;simp at this;exact this)
       go_wp2_with (go_at_call 196;refine (IH.out P U1 V1 (U2++(V2++S)) a r mid _ ⟨by have:=HBD.out;simp;omega,HBD.out.1,by have:=HG.out;have:=HBD.out;omega,by have:=HG.out;have:=HBD.out;omega,by have:=HG.out;have:=HC2.out;omega,by have:=HG.out;have:=HC2.out;omega,sU1.out.1,sU1.out.2.2.1⟩ HLN.out.1 (by simpa using HD2.out)).mono ?_;rintro e w2 ⟨rfl,hd2,hk2⟩)
       go_meet
       case rel=>exact ⟨Lib.hid (by simpa using hd2),hkw2.trans hk2⟩
      | false =>
       have HZ:Hid (V1=[]∨U1=[]):=Lib.hid (by
        have h9:=HCB.out;have h8:=HG.out;simp at h9
        by_cases q:a < r
        ·exact .inl (List.length_eq_zero_iff.1 (by have:=h9 q;omega))
        ·exact .inr (List.length_eq_zero_iff.1 (by omega)))
       go_wp2
       go_meet
       case rel=>exact ⟨Lib.hid (by
        have:=HD2.out
        rcases HZ.out with h|h
        ·rw[h]at this ⊢;rw[List.append_nil,sortL_of sU1.out.1];simpa using this
        ·rw[h]at this ⊢;rw[List.nil_append,sortL_of sU1.out.2.2.1];simpa using this),hkw2⟩
     case rest =>
      obtain ⟨HD3,hkw3⟩:=hcut;clear HD2 hkw2;have HFIN:Hid (∀ wx,Dat 95 wx g X (P++(sortL (U1++V1)++(sortL (U2++V2)++S)))→Dat 95 wx g X (P++(sortL (U++V)++S))):=Lib.hid (fun wx hd=>by rw[HG.out.2.2.2.2.2.2.2.2];simpa using hd)
      by_cases hA:mid < en
      ·have hAI:(mid:Int) < (en:Int):=by omega
       by_cases hB:en < b
       ·have hBI:(en:Int) < (b:Int):=by omega
        go_wp2_with (go_at_call 196;refine (IH.out (P++sortL (U1++V1)) U2 V2 S mid en b _ ⟨by have:=HBD.out;simp[sortL_length];omega,by have:=HG.out;have:=HBD.out;simp[sortL_length];omega,by have:=HG.out;have:=HBD.out;simp[sortL_length];omega,by have:=HG.out;have:=HBD.out;simp[sortL_length];omega,by have:=HG.out;omega,by have:=HG.out;omega,sU1.out.2.1,sU1.out.2.2.2⟩ HLN.out.2 (by simpa using HD3.out)).mono ?_;rintro e w2 ⟨rfl,hd2,hk2⟩)
        first|go_end0|go_ret
        exact ⟨rfl,HFIN.out _ (by simpa using hd2),hkw3.trans hk2⟩
       ·have hBI:¬ (en:Int) < (b:Int):=by omega
        have HV2:Hid (V2=[]):=Lib.hid (List.length_eq_zero_iff.1 (by have:=HG.out;omega))
        go_wp2
        first|go_end0|go_ret
        exact ⟨rfl,HFIN.out _ (by have:=HD3.out;rw[HV2.out]at this ⊢;rw[List.append_nil,sortL_of sU1.out.2.1];simpa using this),hkw3⟩
      ·have hAI:¬ (mid:Int) < (en:Int):=by omega
       have HU2:Hid (U2=[]):=Lib.hid (List.length_eq_zero_iff.1 (by have:=HG.out;omega))
       go_wp2
       first|go_end0|go_ret
       exact ⟨rfl,HFIN.out _ (by have:=HD3.out;rw[HU2.out]at this ⊢;rw[List.nil_append,sortL_of sU1.out.2.2.2];simpa using this),hkw3⟩
theorem symmerge_all (g c:Nat) (X:List Value) (N:Nat) (hNb:N≤100000):∀ K,Merges g c X N K
 | 0=>fun _ _ _ _ _ _ _ _ _ h _=>absurd h (by omega)
 | K+1=>fun P U V S a m b w h hk hd=>by
  by_cases h1:U.length=1
  ·exact sym_front g c X P U V S N a m b h h1 hNb w hd
  ·have hu:=h.hU
   by_cases h2:V.length=1
   ·exact sym_back g c X P U V S N a m b h h2 (by omega) hNb w hd
   ·have hv:=h.hV
    refine sym_cut g c X P U V S N a m b h (by omega) (by omega) hNb w hd ?_;intro P' U' V' S' a' m' b' wx h' hk' hd';exact symmerge_all g c X N hNb K P' U' V' S' a' m' b' wx h' (by omega) hd'
theorem symmerge_any (g c:Nat) (X:List Value) (N:Nat) (hNb:N≤100000) (P U V S:List Pr) (a m b:Nat) (w:World) (h:SM N P U V S a m b) (hd:Dat 95 w g X (P++(U++(V++S)))) :
  Calls Tryz.prog 196 #[.slice (some ⟨g,0,none⟩) N c,.int .i64 a,.int .i64 m,.int .i64 b,.func (.func 176) #[] #[]] w (Turns 95 g X (P++(sortL (U++V)++S)) w) :=
 symmerge_all g c X N hNb (U.length+V.length+1) P U V S a m b w h (by omega) hd
end Go.Proofs.YtofjhopecfmbcaaGreatDoor
