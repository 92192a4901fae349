import Derived.Test.YtnehnjklgglliaaGreatDoorYG4
import Derived.Test.YtnehnjklgglliaaGreatDoorYG3
import Derived.Test.YtnehnjklgglliaaGreatDoorYFX
import Derived.Test.YtnehnjklgglliaaGreatDoorYFK
import Derived.Test.YtnehnjklgglliaaGreatDoorYFY
namespace Go.Proofs.YtnehnjklgglliaaGreatDoor
set_option maxHeartbeats 8000000
open Go.RowKit
set_option linter.unusedVariables false
set_option linter.unusedSimpArgs false
set_option maxRecDepth 100000
theorem jDe (l:List UInt8):0≤(qL l).kind:=by
 unfold qL
 split
 ·exact Int.natCast_nonneg _
 ·exact Int.le_refl _
theorem jLz:∀ f:Nat,f<16→(decide (f % 2=1) = !decide (f &&& 1=0))∧(f / 2 % 4=(f / 2 &&& 3))∧(decide (8≤f) = !decide (f &&& 8=0)):=by decide +kernel
theorem lt9 (n:Nat):decide (1<n)=(false||!decide (n≤1)):=by rw[Bool.false_or,← decide_not];exact decide_eq_decide.2 (by omega)
theorem jMg {P:Program} {w:World} {t:TypeId} {k:IntKind} {i j:Int} {b:Bool} {x y:Operand} (h:decide (j≤i)=b):(do eqGuard .geq t x y (.int k i) (.int k j);binOp .geq t (.int k i) (.int k j):Sem Value).run P w=.ok (.bool b) w:=h▸jBv
theorem j9i (k:Int):z6 (zk k)=if k=3 then 0 else if k=6∨k=8∨k=10 then 2 else 0:=by
 unfold z6;show (if k=3 then _ else if k=6∨k=8∨k=10 then 2 else 0)=_
 split
 ·rfl
 ·rfl
theorem jLm {v:Int} {l:List UInt8} (h:qn v l=true→False):qn v l=false:=by cases hF:qn v l with|true=>exact (h hF).elim|false=>rfl
section
variable {v k hh:Int} {fl hrr:Nat} {l:List UInt8} (he:qL l=⟨k,fl,hh,hrr⟩)
theorem jLn (h:(v=4∨v=5)∧vK l=0∧(l.length:Int)=hh+(hrr:Int)∧¬ k<1∧¬ (v=4∧k=15)) (hf:k=3∨fl=z6 (zk k)):vK l=0∧(l.length:Int)=hh+(hrr:Int)∧vX v ⟨k,fl,hh,hrr⟩=true:=by
 obtain ⟨h1,h2,h3,h4,h5⟩:=h;refine ⟨h2,h3,?_⟩
 have e:(!(decide (v=4)||decide (v=5))||(decide (k=0)||(decide (v=4)&&decide (k=15))))=false:=by
  rw[Bool.or_eq_false_iff,Bool.or_eq_false_iff,Bool.and_eq_false_iff,decide_eq_false_iff_not,decide_eq_false_iff_not,decide_eq_false_iff_not];refine ⟨by rcases h1 with h1|h1<;>simp[h1],by omega,by omega⟩
 unfold vX;dsimp only;rw[e];rw[j9i]at hf;show (if k=3 then true else if k=6∨k=8∨k=10 then decide (fl=2) else decide (fl=0))=true
 split
 ·rfl
 ·rename_i h6
  rw[if_neg h6]at hf;have hf:=hf.resolve_left h6
  split<;>rename_i h7
  ·rw[if_pos h7]at hf;exact decide_eq_true hf
  ·rw[if_neg h7]at hf;exact decide_eq_true hf
include he
theorem jLl (h:qn v l=true):vK l=0∧(l.length:Int)=hh+(hrr:Int)∧vX v ⟨k,fl,hh,hrr⟩=true:=by
 unfold qn at h;rw[he]at h;simp only[aE9,dE9]at h;exact ⟨h.1,h.2.1,h.2.2.1⟩
theorem jMy (h:(v≠4∧v≠5)∨vK l≠0∨(l.length:Int)≠hh+(hrr:Int)∨k<1∨(v=4∧k=15)):qn v l=false:=by
 refine jLm λhF=>?_
 obtain ⟨h1,h2,h3⟩:=jLl he hF;have hk:=jDe l;rw[he]at hk;have hk:0≤k:=hk
 have e:(!(decide (v=4)||decide (v=5))||(decide (k=0)||(decide (v=4)&&decide (k=15))))=false:=by
  cases hX:(!(decide (v=4)||decide (v=5))||(decide (k=0)||(decide (v=4)&&decide (k=15)))) with
  | false=>rfl
  | true =>
   unfold vX at h3;dsimp only at h3;rw[hX]at h3;cases h3
 rw[Bool.or_eq_false_iff,Bool.or_eq_false_iff,Bool.and_eq_false_iff,decide_eq_false_iff_not,decide_eq_false_iff_not,decide_eq_false_iff_not,Bool.not_eq_false',oE9,dE9,dE9]at e;omega
theorem jMz (h3:k≠3) (hf:fl≠z6 (zk k)):qn v l=false:=by
 refine jLm λhF=>?_
 obtain ⟨_,_,h⟩:=jLl he hF;rw[j9i,if_neg h3]at hf;unfold vX at h;dsimp only at h
 split at h
 ·cases h
 ·(try rw[if_neg h3]at h)
  split at h<;>rename_i h7
  ·rw[if_pos h7]at hf;exact hf (of_decide_eq_true h)
  ·rw[if_neg h7]at hf;exact hf (of_decide_eq_true h)
end
theorem jLk (S:Ts):((S.b||(!decide (S.e=0)))||decide (0<S.l.length))=((!S.ok)||(!decide (S.l.length=0))):=by
 have:decide (0<S.l.length) = !decide (S.l.length=0):=by rw[← decide_not];exact decide_eq_decide.2 (by omega)
 rw[this];unfold Ts.ok;cases S.b<;>cases decide (S.e=0)<;>rfl
theorem Aw.keep9 {B B0 q r:Nat} {P:Pk} {s:Sl} {w9 W':World} (h:Aw B P s w9) (hk:Kept (Tt q r) w9 W') (hT:∀ i,Tt q r i→∃ ty c,Blk w9 i ty c∧NoU c) (hq:q<B) (hr:r<B) (hB:B0≤B):Aw B0 P s W':=by
 refine ⟨⟨h.at_.hw.propK hk hT,h.at_.hf.kept hk λb' off e hne hS=>?_,h.at_.hc.kept hk λb' off e hne hS=>?_,h.at_.hp.propK hk hT⟩,h.sc,λb off=>⟨λe hn=>Nat.le_trans hB ((h.lo b off).1 e hn),λe hn=>Nat.le_trans hB ((h.lo b off).2 e hn)⟩⟩
 ·have:=(h.lo b' off).1 e (λhe=>hne (by rw[he];rfl))
  rcases hS with hS|hS<;>omega
 ·have:=(h.lo b' off).2 e (λhe=>hne (by rw[he];rfl))
  rcases hS with hS|hS<;>omega
theorem Row.lt9 {W:World} {a:Option Addr} {xs:List Value} (h:Row W a xs):∀ b off,a=some ⟨b,off,none⟩→xs≠[]→b<W.heap.size:=by
 intro b off e hne;rcases h with h|⟨b2,off2,ha2,hlt,_⟩
 ·exact (hne h).elim
 ·rw[e]at ha2
  injection ha2 with ha2;injection ha2 with e1 _ _;omega
theorem jK7 {W W':World} {a:Option Addr} {xs ys:List Value} {B9 n k:Nat} {v:Value} {e9:TypeId} (h:Row W a xs) (hO:W.ownsRow B9 e9 k v n ys) (hlt:∀ b off,a=some ⟨b,off,none⟩→xs≠[]→b<B9) (hk:Kept (Sv v) W W'):Row W' a xs:=h.kept hk λb off ha hne hS=>by
 have h1:=(hO.lt b hS).1;have h2:=hlt b off ha hne;omega
theorem RefR.e0 {w:World} {r:Nat} {B:ByteArray} {l:List UInt8} {e:Int} (h:RefR w r B l e) (hl:0<l.length):e=0:=by
 obtain ⟨a,_,_,_,_,h4⟩:=h
 by_cases he:e=0
 ·exact he
 ·rw[h4 he]at hl;cases hl
theorem jFp {B:ByteArray} {w W:World} {T:Nat→Prop} {r:Nat} {S:Ts} (hZ:Rd B w T r S W) :
  Calls Tryz.prog 28 #[.pointer (some ⟨r,0,none⟩)] W λe w'=>e=.returned (.int .i64 (S.l.length:Int))∧Kept No W w':=by
 have h:=hZ.r;obtain ⟨l,err,b⟩:=S;dsimp only at h ⊢;clear hZ;obtain ⟨at_,hb,h1,h2,h3,h4⟩:=h;have c0:=hb.cell 0;have c1:=hb.cell 1;have c2:=hb.cell 2;simp at c0 c1 c2
 by_cases he:err=0
 ·subst he
  have hl:=h3 rfl;subst hl;clear h3 h4
  go_enter Tryz.func28,Tryz.ntmps28
  go_wp2
  go_quiet (fail)
  go_wp2
  go_ret
  exact ⟨by simp;omega,(Kept.refl _ W).drewN nq⟩
 ·have hl:=h4 he
  subst hl;clear h3 h4;have hne:(err != 0)=true:=by simpa using he
  go_enter Tryz.func28,Tryz.ntmps28
  go_wp2
  go_ret
  exact ⟨rfl,Kept.refl _ _⟩
theorem j5x (v:Int) (a:Option Addr) (c:Nat) (l:List UInt8) (w:World) (hr:Row w a (B8 l)) (hn:a=none→l.length=0∧c=0) (hc:l.length≤c) (hl:l.length≤100000) :
  Calls Tryz.prog 7 #[.int .i64 v,.slice a l.length c] w λe w'=>∃ u,e=.returned u∧j3l w.heap.size v l u w'∧Kept No w w':=by
 let RR:Ending→World→Prop:=λe w'=>∃ u,e=.returned u∧j3l w.heap.size v l u w'∧Kept No w w'
 go_enter Tryz.func7,Tryz.ntmps7
 generalize hA:({tmps:=_,defers:=[]}:Act)=A;have F:Fr A 254 [(1,(.slice a l.length c)),(0,(.int .i64 v))]:=by rw[← hA];exact (Fr.cons (i:=1) (v:=(.slice a l.length c)) (Fr.cons (i:=0) (v:=(.int .i64 v)) (Fr.nil0 rfl rfl) rfl) rfl)
 clear hA;have H:=Hp.start w;obtain ⟨k,fl,hh,hrr,he⟩:∃ k fl hh hrr,qL l=⟨k,fl,hh,hrr⟩:=⟨_,_,_,_,rfl⟩
 have HC:∀ W,Kept No w W→Calls Tryz.prog 20 #[.slice a l.length c] W λe w'=>e=.returned (.tuple #[.agg #[.int .i64 k,.int .u8 (fl:Int),.int .i64 hh,.int .i64 (hrr:Int)],.int .i64 (vK l)])∧Kept No W w':=λW hk=>by have h9:=jBr a c l W (hr.keptNo hk) hn hl;rw[he]at h9;exact h9
 refine sg λK1 hK1=>?_;refine ja (c:=jP) (t:=34) F H rfl (jY rfl (xj _)) ?_;clear F A;intro q4 W A hk hN H9 F;clear H;have H:=H9;clear H9;clear hk hN;refine zd ?_;intro A F;refine nn (hK1 _ _) ?_;refine sg λK2 hK2=>?_;refine zd ?_;intro A F;refine jU F H rfl (j5 rfl rfl (j4 (F.e rfl) j8) jNw) (HC _ H.k) ?_;clear F H A;intro W A hk H F;clear hk
 iterate 3 (refine zd ?_;intro A F)
 refine ja (c:=#[(.int .i64 0),(.int .u8 0),(.int .i64 0),(.int .i64 0)]) (t:=59) F H rfl (jY rfl (jKn _)) ?_;clear F A;intro hb W A hk hN H9 F;clear H;have H:=H9;clear H9;clear hk hN;obtain ⟨W9,hr,hB,hk⟩:=j7 (P:=Tryz.prog) (S:=59) (c:=#[(.int .i64 k),(.int .u8 ((fl:Int))),(.int .i64 hh),(.int .i64 ((hrr:Int)))]) _ (H.b.at_ (j:=0) rfl).1 (j58 _) rfl (by simp[Value.oneCell']);refine jW (jD rfl (F.e rfl) (F.e rfl) hr) ?_;clear hr;replace H:Hp _ _ [_,_]:=Hp.turn [] H hk hB;clear hk hB;refine zd ?_;intro A F;refine nn (hK2 _ _) ?_;refine wp_seq_k λK4 hK4=>?_;refine wp_seq_k λK5 hK5=>?_;have hfl:=j9r l;have hhh:=jDd l;have hrs:=jDf l;have hkd:=jDe l;rw[he]at hfl hhh hrs hkd;have hfl:fl<16:=hfl;have hhh:0≤hh∧hh≤5:=hhh;have hrs:hrr<268435456:=hrs;have hkd:0≤k:=hkd;refine jC ?_;refine zd ?_;intro A F;refine zb (vn) ?_;intro A F;refine zd ?_;intro A F;refine zg ?_;intro A F;refine zgb (vn) ?_;intro A F;refine j3 F rfl (jJ rfl (F.e rfl) (λhx=>(F.o rfl hx)) rfl) ?_;intro A F;refine zd ?_;intro A F;refine zg ?_;intro A F;refine zgb (vn) ?_;intro A F;refine j3 F rfl (jN rfl (F.e rfl) (λhx=>(F.o rfl (gnt hx))) rfl) ?_;intro A F;refine zd ?_;intro A F;refine zg ?_;intro A F;refine q6 F rfl (jv F rfl rfl rfl) (λhG=>(ju rfl (j4 (F.o rfl hG) j8) (jk Tryz.underlying22))) ?_;intro A F
 iterate 4 (refine zg ?_;intro A F)
 refine q6 F rfl (jv F rfl rfl rfl) (λhG=>(jF rfl (F.o rfl hG) (F.o rfl hG) (jw (jH (by omega) (by omega))))) ?_;intro A F;refine zgb (vn) ?_;intro A F;refine j3 F rfl (jN rfl (F.e rfl) (λhx=>(F.o rfl (gnt hx))) rfl) ?_;intro A F;refine zd ?_;intro A F
 iterate 2 (refine zg ?_;intro A F)
 refine zgb (jBw) ?_;intro A F;refine j3 F rfl (jN rfl (F.e rfl) (λhx=>(F.o rfl (gnt hx))) rfl) ?_;intro A F;refine zd ?_;intro A F;refine zg ?_;intro A F;refine zgb (jG) ?_;intro A F
 iterate 3 (refine zg ?_;intro A F)
 refine zgb (jG) ?_;intro A F;refine zg ?_;intro A F;refine j3 F rfl (jN rfl (F.e rfl) (λhx=>(F.o rfl (gnt hx))) rfl) ?_;intro A F;refine nn (hK5 _ _) ?_;refine zc (λhb6=>?_) (λhb6=>?_)
 ·skip
  replace F:=(((((F.nil.cons (F.g 6 _ rfl)).cons (F.g 5 _ rfl)).cons (F.g 4 _ rfl)).cons (F.g 1 _ rfl)).cons (F.g 0 _ rfl))
  refine sg λK7 hK7=>?_;refine j3 (v:=(Pk.val ((zk 0)) ts)) F rfl (jV rfl js (by kernel_rfl)) ?_;intro A F;obtain ⟨W9,hr,hB,hk⟩:=j7 (P:=Tryz.prog) (S:=34) (c:=(Pk.cells ((zk 0)) ts)) _ (H.b.at_ (j:=1) rfl).1 (jS _) rfl (jO _ _);refine jW (jD rfl (F.e rfl) (F.e rfl) hr) ?_;clear hr;replace H:Hp _ _ [_,_]:=Hp.turn [_] H hk hB;clear hk hB;refine zd ?_;intro A F;refine nn (hK7 _ _) ?_;refine j9 ?_;refine (show bodyPost _ Tryz.f7 RR Exit.ret _ _ from ?_);exact bodyPost_ret (qV rfl (F.g 4 _ rfl) (F.g 5 _ rfl) (jE ((Pk.cells ((zk 0)) ts)) rfl (jr _) (jS _) (λi=>H.cs 1 rfl i))) F.d ((by have hF:qn v l=false:=jMy he (by have h9:=hb6;simp only[oE9,aE9,Bool.or_eq_false_iff,Bool.and_eq_false_iff,Bool.not_eq_true',Bool.not_eq_false',dE9,decide_eq_false_iff_not]at h9;omega);have hP:=j0w hF;exact ⟨_,rfl,⟨ts,(by first|(rw[hP,hF];done)|(rw[hP,hF];rfl)),by rw[hP];exact Aw.zero _ _⟩,H.k⟩))
 replace F:=(((((F.nil.cons (F.g 6 _ rfl)).cons (F.g 5 _ rfl)).cons (F.g 4 _ rfl)).cons (F.g 1 _ rfl)).cons (F.g 0 _ rfl))
 refine wp_skip (hK4 _ _ ?_);refine sg λK8 hK8=>?_
 iterate 2 (refine zd ?_;intro A F)
 refine j3 (v:=(Pk.val ((zk k)) ts)) F rfl (jV rfl (j6 (F.e rfl) js) (by kernel_rfl)) ?_;intro A F;refine ja (c:=jP) (t:=34) F H rfl (jY rfl (xj _)) ?_;clear F A;intro q W A hk hN H9 F;clear H;have H:=H9;clear H9;clear hk hN;obtain ⟨W9,hr,hB,hk⟩:=j7 (P:=Tryz.prog) (S:=34) (c:=(Pk.cells ((zk k)) ts)) _ (H.b.at_ (j:=0) rfl).1 (jS _) rfl (jO _ _);refine jW (jD rfl (F.e rfl) (F.e rfl) hr) ?_;clear hr;replace H:Hp _ _ [_,_,_]:=Hp.turn [] H hk hB;clear hk hB;refine nn (hK8 _ _) ?_;refine vS (λA W=>Fr A 254 [(0,(.int .i64 v)),(1,(.slice a l.length c)),(4,(.pointer (some ⟨q4,0,none⟩))),(5,(.bool false)),(6,(.pointer (some ⟨hb,0,none⟩))),(8,(.pointer (some ⟨q,0,none⟩)))]∧Hp w W [⟨q,34,(Pk.cells ((zk k)) ts)⟩,⟨hb,59,#[(.int .i64 k),(.int .u8 ((fl:Int))),(.int .i64 hh),(.int .i64 ((hrr:Int)))]⟩,⟨q4,34,jP⟩]∧(vK l=0∧(l.length:Int)=hh+(hrr:Int)∧vX v ⟨k,fl,hh,hrr⟩=true)) (λA W hM=>?_) (λK9 hK9=>?_)
 rotate_left
 ·skip
  refine wp_seq_k λK10 hK10=>?_;refine wp_region_held_drew (S:=λwx=>Hp _ wx _) (by kernel_rfl) H.drew (λH9=>?_);clear H;have H:=H9;clear H9;generalize World.drew _=W at *;refine td 0 ?_;intro A F;refine td 1 ?_;intro A F;refine jR (i:=2) F rfl rfl (by kernel_rfl) (λ_ _ _ h=>h) (H) (λwz H=>(jF rfl (F.e rfl) jA (vn))) ?_;intro A F;refine td 3 ?_;intro A F;rcases Bool.eq_false_or_eq_true (!decide (k=3)) with hb11|hb11
  ·replace F:=F.hd (congrArg Value.bool hb11)
   refine qt (i:=4) F rfl rfl (by kernel_rfl) (λ_ _ _ h=>h) (H) (je F rfl rfl rfl) (λwz H=>(qp rfl (F.e rfl) (jCw _ _ _))) ?_;intro A F;refine qt (i:=5) F rfl rfl (by kernel_rfl) (λ_ _ _ h=>h) (H) (je F rfl rfl rfl) (λwz H=>(jB rfl (F.e rfl) (qE (jDx _) (H.c 1 rfl rfl)))) ?_;intro A F;refine qt (i:=6) F rfl rfl (by kernel_rfl) (λ_ _ _ h=>h) (H) (je F rfl rfl rfl) (λwz H=>(q9 rfl (F.e rfl) (j48 (fl:Int) _ (by omega) (by omega)))) ?_;intro A F;refine qt (i:=7) F rfl rfl (by kernel_rfl) (λ_ _ _ h=>h) (H) (je F rfl rfl rfl) (λwz H=>(jB rfl (F.e rfl) (jE ((Pk.cells ((zk k)) ts)) rfl (jr _) (jS _) (λi=>H.cs 0 rfl i)))) ?_;intro A F;refine j1z (i:=8) F rfl rfl (by kernel_rfl) (je F rfl rfl rfl) (j5 rfl rfl (j4 (F.e rfl) j8) jNx) (jBq (zk k) ts _ (j5p k).fit) (λ_ hk=>H.kept hk) ?_;clear F H A;intro W A hk H F;clear hk;refine qt (i:=9) F rfl rfl (by kernel_rfl) (λ_ _ _ h=>h) (H) (je F rfl rfl rfl) (λwz H=>(jF rfl (F.e rfl) (F.e rfl) (qN (i:=fl) (j:=z6 (zk k))))) ?_;intro A F;refine jR (i:=10) F rfl rfl (by kernel_rfl) (λ_ _ _ h=>h) (H) (λwz H=>(vD rfl (F.e rfl) (F.e rfl))) ?_;intro A F;refine wpAnyH_done (by kernel_rfl) ?_ _;refine hK10 _ _ ?_;refine zc (λhb13=>?_) (λhb13=>?_)
   ·skip
    refine sg λK14 hK14=>?_;refine j3 (v:=(Pk.val ((zk 0)) ts)) F rfl (jV rfl js (by kernel_rfl)) ?_;intro A F;obtain ⟨W9,hr,hB,hk⟩:=j7 (P:=Tryz.prog) (S:=34) (c:=(Pk.cells ((zk 0)) ts)) _ (H.b.at_ (j:=2) rfl).1 (jS _) rfl (jO _ _);refine jW (jD rfl (F.e rfl) (F.e rfl) hr) ?_;clear hr;replace H:Hp _ _ [_,_,_]:=Hp.turn [_,_] H hk hB;clear hk hB;refine zd ?_;intro A F;refine nn (hK14 _ _) ?_;refine j9 ?_;refine (show bodyPost _ Tryz.f7 RR Exit.ret _ _ from ?_);exact bodyPost_ret (qV rfl (F.g 4 _ rfl) (F.g 5 _ rfl) (jE ((Pk.cells ((zk 0)) ts)) rfl (jr _) (jS _) (λi=>H.cs 2 rfl i))) F.d ((by have hF:qn v l=false:=jMz he (by have h9:=hb11;simpa using h9) (by have h9:=hb13;simpa using h9);have hP:=j0w hF;exact ⟨_,rfl,⟨ts,(by first|(rw[hP,hF];done)|(rw[hP,hF];rfl)),by rw[hP];exact Aw.zero _ _⟩,H.k⟩))
   refine wp_skip ?_;exact hK9 _ _ ⟨((((((F.nil.cons (F.g 8 _ rfl)).cons (F.g 6 _ rfl)).cons (F.g 5 _ rfl)).cons (F.g 4 _ rfl)).cons (F.g 1 _ rfl)).cons (F.g 0 _ rfl)),H,jLn (by have h9:=hb6;simp only[oE9,aE9,Bool.or_eq_false_iff,Bool.and_eq_false_iff,Bool.not_eq_true',Bool.not_eq_false',dE9,decide_eq_false_iff_not]at h9;omega) (.inr (by have h9:=hb13;simpa using h9))⟩
  replace F:=F.hd (congrArg Value.bool hb11);refine j3d (i:=4) F rfl rfl (by kernel_rfl) (λ_ _ _ h=>h) (H) (je F rfl rfl rfl) ?_;intro A F;refine j3d (i:=5) F rfl rfl (by kernel_rfl) (λ_ _ _ h=>h) (H) (je F rfl rfl rfl) ?_;intro A F;refine j3d (i:=6) F rfl rfl (by kernel_rfl) (λ_ _ _ h=>h) (H) (je F rfl rfl rfl) ?_;intro A F;refine j3d (i:=7) F rfl rfl (by kernel_rfl) (λ_ _ _ h=>h) (H) (je F rfl rfl rfl) ?_;intro A F;refine j3d (i:=8) F rfl rfl (by kernel_rfl) (λ_ _ _ h=>h) (H) (je F rfl rfl rfl) ?_;intro A F;refine j3d (i:=9) F rfl rfl (by kernel_rfl) (λ_ _ _ h=>h) (H) (je F rfl rfl rfl) ?_;intro A F;refine jR (i:=10) F rfl rfl (by kernel_rfl) (λ_ _ _ h=>h) (H) (λwz H=>(j9e rfl (F.e rfl) jA)) ?_;intro A F;refine wpAnyH_done (by kernel_rfl) ?_ _;refine hK10 _ _ ?_;refine wp_cond_false (F.e rfl) ?_;refine wp_skip ?_;exact hK9 _ _ ⟨((((((F.nil.cons (F.g 8 _ rfl)).cons (F.g 6 _ rfl)).cons (F.g 5 _ rfl)).cons (F.g 4 _ rfl)).cons (F.g 1 _ rfl)).cons (F.g 0 _ rfl)),H,jLn (by have h9:=hb6;simp only[oE9,aE9,Bool.or_eq_false_iff,Bool.and_eq_false_iff,Bool.not_eq_true',Bool.not_eq_false',dE9,decide_eq_false_iff_not]at h9;omega) (.inl (by have h9:=hb11;simpa using h9))⟩
 clear F H;obtain ⟨F,H,hq⟩:=hM;refine wp_seq_k λK15 hK15=>?_;have hq2:=hq.2.1;have hb16:=jLz fl hfl;refine jC ?_
 iterate 3 (refine zd ?_;intro A F)
 obtain ⟨a5,c5,hsl,hr5,hn5⟩:=j6b (hr.keptNo H.k) hn hc hh.toNat (by omega);rw[Int.toNat_of_nonneg hhh.1]at hsl;refine j3 (v:=(.slice a5 ((l.drop hh.toNat).length) c5)) F rfl (j2e rfl (F.e rfl) (congrArg some (F.e rfl)) rfl rfl hsl) ?_;intro A F;refine j3 (v:=(.string ((⟨(l.drop hh.toNat).toArray⟩:ByteArray)))) F rfl (q9 rfl (F.e rfl) (jCb (Lib.hid rfl) hr5 c5 (λh=>(hn5 h).2))) ?_;intro A F;refine j3 (v:=(.agg #[(.string ((⟨(l.drop hh.toNat).toArray⟩:ByteArray))),(.int .i64 0),(.int .i64 0)])) F rfl (jV rfl (j6 (F.e rfl) js) (by kernel_rfl)) ?_;intro A F;refine ja (c:=#[(.string ((⟨(l.drop hh.toNat).toArray⟩:ByteArray))),(.int .i64 0),(.int .i64 0)]) (t:=66) F H rfl (qO rfl (F.e rfl) (qP _ _)) ?_;clear F A;intro r W A hk hN H9 F;clear H;have H:=H9;clear H9;clear hk hN;obtain ⟨hrb,hr0⟩:=H.b.at_ (j:=0) rfl;obtain ⟨B,hB⟩:∃ B:ByteArray,B=⟨(l.drop hh.toNat).toArray⟩:=⟨_,rfl⟩
 have hBs:B.size=(l.drop hh.toNat).length:=by rw[hB,vo]
 obtain ⟨S0,hS0⟩:∃ S0:Ts,S0=⟨(l.drop hh.toNat),0,false⟩:=⟨_,rfl⟩
 have hld:(l.drop hh.toNat).length≤100000:=by rw[List.length_drop];omega
 have hRf:RefR _ r B S0.l S0.e:=⟨0,by rw[hB,hS0];exact hrb,Nat.zero_le _,by omega,λ_=>by rw[hB,hS0];simp,λh=>absurd (by rw[hS0]) h⟩
 replace H:=H.tl;clear hrb;refine zd ?_;intro A F;refine j3 (v:=(.agg #[(.pointer (some ⟨r,0,none⟩)),(.int .i64 v),(.bool false)])) F rfl (jV rfl (j6 (F.e rfl) (j6 (F.e rfl) js)) (by kernel_rfl)) ?_;intro A F;refine ja (c:=#[(.pointer (some ⟨r,0,none⟩)),(.int .i64 v),(.bool false)]) (t:=68) F H rfl (qO rfl (F.e rfl) (qP _ _)) ?_;clear F A;intro t W A hk hN H9 F;clear H;have H:=H9;clear H9;replace hRf:=hRf.kept hk (λf9=>f9);clear hk hN;refine zd ?_;intro A F;refine wpList_nil ?_;obtain ⟨w1,hw1⟩:∃ w1:World,w1=W:=⟨_,rfl⟩
 have hr1:r<w1.heap.size:=by rw[hw1];exact hRf.lt
 have h41:q4<w1.heap.size:=by rw[hw1];exact (H.b.at_ (j:=3) rfl).1.lt
 have hw1s:w.heap.size≤w1.heap.size:=by rw[hw1];exact H.size
 have hZ:Rd B w1 (λ_=>True) r S0 W:=⟨by rw[hS0];exact hld,hRf,by rw[hw1];exact Kept.refl _ _⟩;clear hRf hw1;have hqt:q<t:=H.b.2.2.1 _ (.head _);have hne_q4:q4≠q:=Nat.ne_of_lt (H.b.2.2.2.2.2.1 _ (.tail _ (.head _)));replace H:Hp w W [⟨t,68,#[(.pointer (some ⟨r,0,none⟩)),(.int .i64 v),(.bool S0.b)]⟩,⟨q,34,(Pk.cells ((zk k)) ts)⟩,⟨hb,59,#[(.int .i64 k),(.int .u8 ((fl:Int))),(.int .i64 hh),(.int .i64 ((hrr:Int)))]⟩,⟨q4,34,jP⟩]:=by rw[hS0];exact H
 refine hK15 _ _ ?_;refine vS (λA W=>∃ P9:Pk,∃ s9:Sl,∃ S9:Ts,Fr A 254 [(4,(.pointer (some ⟨q4,0,none⟩))),(5,(.bool false)),(8,(.pointer (some ⟨q,0,none⟩))),(9,(.pointer (some ⟨t,0,none⟩)))]∧Hp w W [⟨t,68,#[(.pointer (some ⟨r,0,none⟩)),(.int .i64 v),(.bool S9.b)]⟩,⟨q,34,(Pk.cells P9 s9)⟩,⟨hb,59,#[(.int .i64 k),(.int .u8 ((fl:Int))),(.int .i64 hh),(.int .i64 ((hrr:Int)))]⟩,⟨q4,34,jP⟩]∧(S9=(qR v k fl S0).2)∧(S9.b=false→P9=(qR v k fl S0).1)∧(Rd B w1 (λ_=>True) r S9 W)∧(Aw w1.heap.size P9 s9 W)) (λA W hM=>?_) (λK16 hK16=>?_)
 rotate_left
 ·skip
  refine sg λK17 hK17=>?_
  iterate 2 (refine zd ?_;intro A F)
  refine nn (hK17 _ _) ?_;refine wp_block ?_;refine sg λK18 hK18=>?_;refine zb (jG) ?_;intro A F;refine zd ?_;intro A F;refine nn (hK18 _ _) ?_;refine zc (λhb19=>?_) (λhb19=>?_)
  ·skip
   refine jC ?_;refine zd ?_;intro A F;obtain ⟨htb,ht0⟩:=H.b.at_ (j:=0) rfl;obtain ⟨hqb,hq0⟩:=H.b.at_ (j:=1) rfl;refine jI (λ(x:Ts × Pk × Sl)=>[⟨t,68,#[(.pointer (some ⟨r,0,none⟩)),(.int .i64 v),(.bool x.1.b)]⟩,⟨q,34,(Pk.cells x.2.1 x.2.2)⟩,⟨hb,59,#[(.int .i64 k),(.int .u8 ((fl:Int))),(.int .i64 hh),(.int .i64 ((hrr:Int)))]⟩,⟨q4,34,jP⟩]) (λx=>KcD B _ v t q r (j3o v S0) x.1 x.2.1 x.2.2) F rfl (j5 rfl rfl (j4 (F.e rfl) (j4 (F.e rfl) j8)) jNy) (j80 B w _ t q r v S0 ((zk k)) ts ⟨H.k,htb,ht0,(by intro y hy;simp at hy;subst hy;exact hqt),hqb,hq0,by simp,trivial⟩ hr0 hZ.r hZ.n ⟨rfl,xf rfl,rfl,rfl,⟨rfl,rfl⟩⟩ (congrArg zk (of_decide_eq_true hb19))) (λx9 _ _ h=>Hp.re H (h.z.k) (ge3 hr0 ht0 hq0) ⟨⟨rfl,λ_=>h.tb⟩,⟨⟨rfl,λ_=>h.qb⟩,⟨kD3 (h.z.k) hZ.r.blk (ne9 rfl) htb (ne9 rfl) hqb (ne9 rfl),⟨kD4 (h.z.k) hZ.r.blk (ne9 rfl) htb (ne9 rfl) hne_q4,trivial⟩⟩⟩⟩) ?_;clear F H A;intro x9 vv W A hR H F;obtain ⟨S20,P20,s20⟩:=x9;replace hR:KcD B _ v t q r (j3o v S0) S20 P20 s20 vv W:=hR;obtain ⟨rfl,hS20,hP20,hZ9,-,-,hPw20,hPp20,hnf20,hnc20,hsc20⟩:=hR
   try dsimp only at H
   replace hZ:=hZ.step hZ9 (λ_ _=>trivial);clear hZ9;clear htb ht0;clear hqb hq0;refine wpList_nil ?_;exact hK16 _ _ ⟨P20,s20,S20,((((F.nil.cons (F.g 9 _ rfl)).cons (F.g 8 _ rfl)).cons (F.g 5 _ rfl)).cons (F.g 4 _ rfl)),H,hS20.trans ((j97 v S0).1.trans (congrArg Prod.snd (fk1 (f:=fl) (s:=S0) (v:=v) (of_decide_eq_true hb19))).symm),λhb9=>hP20.trans (((j97 v S0).2 (by rw[← hS20];exact hb9)).trans (congrArg Prod.fst (fk1 (f:=fl) (s:=S0) (v:=v) (of_decide_eq_true hb19))).symm),hZ,⟨⟨hPw20,zf hnf20,ze hnc20,hPp20⟩,λ_=>⟨by rw[hnc20];rfl,hsc20.2⟩,λb9 off9=>⟨λ_ h9=>absurd hnf20 h9,λ_ h9=>absurd hnc20 h9⟩⟩⟩
  refine sg λK21 hK21=>?_;refine zb (jG) ?_;intro A F;refine zd ?_;intro A F;refine nn (hK21 _ _) ?_;refine zc (λhb22=>?_) (λhb22=>?_)
  ·skip
   refine sg λK23 hK23=>?_;refine zd ?_;intro A F;refine j3 F rfl (jK rfl (F.e rfl)) ?_;intro A F
   iterate 2 (refine zd ?_;intro A F)
   refine jI (λ(x:Ts)=>[⟨t,68,#[(.pointer (some ⟨r,0,none⟩)),(.int .i64 v),(.bool x.b)]⟩,⟨q,34,(Pk.cells ((zk k)) ts)⟩,⟨hb,59,#[(.int .i64 k),(.int .u8 ((fl:Int))),(.int .i64 hh),(.int .i64 ((hrr:Int)))]⟩,⟨q4,34,jP⟩]) (RdD B _ r (.int .u64 ((S0.num 1:Int))) (S0.rd 1)) F rfl (j5 rfl rfl (j4 (F.e rfl) (j4 jA j8)) j0j) (j40 1 (by decide) (by decide) hZ) (λS24 _ _ h=>Hp.re H (h.2.2.k) (ge1 hr0) ⟨⟨rfl,λhb=>by rw[show S24=_ from h.2.1];exact (kD1 (h.2.2.k) hZ.r.blk (ne9 rfl)).2 hb⟩,⟨kD1 (h.2.2.k) hZ.r.blk (ne9 rfl),⟨kD1 (h.2.2.k) hZ.r.blk (ne9 rfl),⟨kD1 (h.2.2.k) hZ.r.blk (ne9 rfl),trivial⟩⟩⟩⟩) ?_;clear F H A;intro S24 vv W A hR H F;obtain ⟨rfl,hS24,hZ9⟩:=hR
   try dsimp only at H
   replace hZ:=hZ.step hZ9 (λ_ _=>trivial);clear hZ9;have h824:=ql S0;refine zd ?_;intro A F;refine nn (hK23 _ _) ?_;refine sg λK25 hK25=>?_
   iterate 2 (refine zd ?_;intro A F)
   refine zb (qa (i:=S0.num 1) (j:=1)) ?_;intro A F;refine j3 F rfl (jK rfl (F.e rfl)) ?_;intro A F;refine zd ?_;intro A F;refine zs [] (#[(.pointer (some ⟨r,0,none⟩)),(.int .i64 v),(.bool (decide (1<S0.num 1)))]) ?_;intro W H9 hk;replace hZ:=hZ.st (H.b.at_ (j:=0) rfl).1 (ne9 rfl) (ne9 rfl) (.inr trivial) hk;clear H hk;have H:=H9;clear H9;refine nn (hK25 _ _) ?_;refine wp_seq_k λK26 hK26=>?_;obtain ⟨S27,hS27⟩:∃ S9:Ts,S9=S24.need (decide (S0.num 1≤1)):=⟨_,rfl⟩
   have hb9:((decide (1<S0.num 1)))=S27.b:=by rw[hS27,hS24];show _=(S0.b||!decide (S0.num 1≤1));rw[show S0.b=false by rw[hS0]];exact lt9 _
   rw[hb9]at H;clear hb9;replace hZ:=hZ.same (S':=S27) (by rw[hS27];rfl) (by rw[hS27];rfl);refine jC ?_;refine zd ?_;intro A F;refine zb (jt (i:=S0.num 1) (j:=1)) ?_;intro A F;refine zd ?_;intro A F;refine j3 F rfl (jK rfl (F.e rfl)) ?_;intro A F
   iterate 2 (refine zd ?_;intro A F)
   refine jI (λ(x:Ts)=>[⟨t,68,#[(.pointer (some ⟨r,0,none⟩)),(.int .i64 v),(.bool x.b)]⟩,⟨q,34,(Pk.cells ((zk k)) ts)⟩,⟨hb,59,#[(.int .i64 k),(.int .u8 ((fl:Int))),(.int .i64 hh),(.int .i64 ((hrr:Int)))]⟩,⟨q4,34,jP⟩]) (RdD B _ r (.int .u64 ((S27.num 1:Int))) (S27.rd 1)) F rfl (j5 rfl rfl (j4 (F.e rfl) (j4 jA j8)) j0j) (j40 1 (by decide) (by decide) hZ) (λS28 _ _ h=>Hp.re H (h.2.2.k) (ge1 hr0) ⟨⟨rfl,λhb=>by rw[show S28=_ from h.2.1];exact (kD1 (h.2.2.k) hZ.r.blk (ne9 rfl)).2 hb⟩,⟨kD1 (h.2.2.k) hZ.r.blk (ne9 rfl),⟨kD1 (h.2.2.k) hZ.r.blk (ne9 rfl),⟨kD1 (h.2.2.k) hZ.r.blk (ne9 rfl),trivial⟩⟩⟩⟩) ?_;clear F H A;intro S28 vv W A hR H F;obtain ⟨rfl,hS28,hZ9⟩:=hR
   try dsimp only at H
   replace hZ:=hZ.step hZ9 (λ_ _=>trivial);clear hZ9;have h828:=ql S27;refine j3 (v:=(.int .u8 ((S27.num 1:Int)))) F rfl (q9 rfl (F.e rfl) (j7z _ _ (by omega))) ?_;intro A F;refine zd ?_;intro A F;let P29:Pk:={(zk k) with present:=decide (S0.num 1=1)}
   refine zs [_] ((Pk.cells P29 ts)) ?_;intro W H9 hk;replace hZ:=hZ.st (H.b.at_ (j:=1) rfl).1 (ne9 rfl) (ne9 rfl) (.inr trivial) hk;clear H hk;have H:=H9;clear H9;refine zd ?_;intro A F;let P30:Pk:={P29 with code:=S27.num 1}
   refine zs [_] ((Pk.cells P30 ts)) ?_;intro W H9 hk;replace hZ:=hZ.st (H.b.at_ (j:=1) rfl).1 (ne9 rfl) (ne9 rfl) (.inr trivial) hk;clear H hk;have H:=H9;clear H9;refine nn (hK26 _ _) ?_;refine jC ?_;refine zd ?_;intro A F;obtain ⟨htb,ht0⟩:=H.b.at_ (j:=0) rfl;refine jI (λ(x:Ts × Option Addr × Nat)=>[⟨t,68,#[(.pointer (some ⟨r,0,none⟩)),(.int .i64 v),(.bool x.1.b)]⟩,⟨q,34,(Pk.cells P30 ts)⟩,⟨hb,59,#[(.int .i64 k),(.int .u8 ((fl:Int))),(.int .i64 hh),(.int .i64 ((hrr:Int)))]⟩,⟨q4,34,jP⟩]) (λx=>ScD B _ v t r (S28.sec v) (S28.rdS v) x.1 x.2.1 x.2.2) F rfl (j5 rfl rfl (j4 (F.e rfl) j8) j52) (zL B w _ t r v S28 ⟨H.k,htb,ht0,by simp,trivial⟩ hr0 hZ.r hZ.n) (λx9 _ _ h=>Hp.re H (h.z.k) (ge2 hr0 ht0) ⟨⟨rfl,λ_=>h.tb⟩,⟨kD2 (h.z.k) hZ.r.blk (ne9 rfl) htb (ne9 rfl),⟨kD2 (h.z.k) hZ.r.blk (ne9 rfl) htb (ne9 rfl),⟨kD2 (h.z.k) hZ.r.blk (ne9 rfl) htb (ne9 rfl),trivial⟩⟩⟩⟩) ?_;clear F H A;intro x9 vv W A hR H F;obtain ⟨S31,a31,c31⟩:=x9;replace hR:ScD B _ v t r (S28.sec v) (S28.rdS v) S31 a31 c31 vv W:=hR;obtain ⟨rfl,hS31,hZ9,-,hP31⟩:=hR
   try dsimp only at H
   replace hZ:=hZ.step hZ9 (λ_ _=>trivial);clear hZ9;clear htb ht0;refine zd ?_;intro A F;let s32:Sl:={ts with pa:=a31,pc:=c31}
   let P33:Pk:={P30 with props:=(S28.sec v)}
   refine zs [_] ((Pk.cells P33 s32)) ?_;intro W H9 hk;replace hZ:=hZ.st (H.b.at_ (j:=1) rfl).1 (ne9 rfl) (ne9 rfl) (.inr trivial) hk;replace hP31:=hP31.propK hk (jq (H.b.at_ (j:=1) rfl).1 (jn _ _));clear H hk;have H:=H9;clear H9;refine wpList_nil ?_;exact hK16 _ _ ⟨P33,s32,S31,((((F.nil.cons (F.g 9 _ rfl)).cons (F.g 8 _ rfl)).cons (F.g 5 _ rfl)).cons (F.g 4 _ rfl)),H,(by have hk9:=of_decide_eq_true hb22;subst hk9;subst hS31 hS28 hS27 hS24;rw[fk2 (v:=v) (f:=fl) (s:=S0) rfl]<;>rfl),λ_=>(by have hk9:=of_decide_eq_true hb22;subst hk9;subst hS31 hS28 hS27 hS24;rw[fk2 (v:=v) (f:=fl) (s:=S0) rfl]<;>rfl),hZ,⟨⟨xf rfl,zf rfl,ze rfl,hP31⟩,λ_=>⟨rfl,rfl⟩,λb9 off9=>⟨λ_ h9=>absurd rfl h9,λ_ h9=>absurd rfl h9⟩⟩⟩
  refine sg λK34 hK34=>?_;refine zb (jG) ?_;intro A F;refine zd ?_;intro A F;refine nn (hK34 _ _) ?_;refine zc (λhb35=>?_) (λhb35=>?_)
  ·skip
   refine wp_seq_k λK36 hK36=>?_;refine wp_region_held_drew (S:=λwx=>∃ c9,Hp _ wx [_,⟨q,34,c9⟩,_,_]) (by kernel_rfl) ⟨_,H.drew⟩ (λH9=>?_);clear H9;replace H:=H.drew;replace hZ:=hZ.no (Kept.refl No _).drew;generalize World.drew _=W at *;refine td 0 ?_;intro A F;refine td 1 ?_;intro A F;refine jR (v:=(.int .u8 (((fl % 2:Nat):Int)))) (i:=2) F rfl rfl (by kernel_rfl) (λ_ _ _ h=>h) (⟨_,H⟩) (λwz ⟨c9,H⟩=>(jF rfl (F.e rfl) jA (vc (i:=fl) (j:=2) (by decide)))) ?_;intro A F;refine jR (v:=(.bool (!decide (fl &&& 1=0)))) (i:=3) F rfl rfl (by kernel_rfl) (λ_ _ _ h=>h) (⟨_,H⟩) (λwz ⟨c9,H⟩=>(jF rfl (F.e rfl) jA (j6z (by rw[← hb16.1];exact decide_eq_decide.2 (by omega))))) ?_;intro A F;refine td 4 ?_;intro A F;refine td 5 ?_;intro A F;refine jR (v:=(.int .u8 (((fl / 2:Nat):Int)))) (i:=6) F rfl rfl (by kernel_rfl) (λ_ _ _ h=>h) (⟨_,H⟩) (λwz ⟨c9,H⟩=>(jF rfl (F.e rfl) jA (vu (i:=fl) (j:=2) (by decide) (vf (by omega) (by omega))))) ?_;intro A F;refine jR (v:=(.int .u8 (((fl / 2 &&& 3:Nat):Int)))) (i:=7) F rfl rfl (by kernel_rfl) (λ_ _ _ h=>h) (⟨_,H⟩) (λwz ⟨c9,H⟩=>(jF rfl (F.e rfl) jA (by rw[← hb16.2.1];exact vc (i:=fl / 2) (j:=4) (by decide)))) ?_;intro A F;refine td 8 ?_;intro A F;refine td 9 ?_;intro A F;refine jR (v:=(.bool (!decide (fl &&& 8=0)))) (i:=10) F rfl rfl (by kernel_rfl) (λ_ _ _ h=>h) (⟨_,H⟩) (λwz ⟨c9,H⟩=>(jF rfl (F.e rfl) jA (jMg (by rw[← hb16.2.2];exact decide_eq_decide.2 (by omega))))) ?_;intro A F;refine td 11 ?_;intro A F;let P37:Pk:={(zk k) with retain:=!decide (fl &&& 1=0)}
   refine tst 12 [_] ((Pk.cells P37 ts)) ?_;intro W H9 hk;replace hZ:=hZ.st (H.b.at_ (j:=1) rfl).1 (ne9 rfl) (ne9 rfl) (.inr trivial) hk;clear H hk;have H:=H9;clear H9;refine td 13 ?_;intro A F;let P38:Pk:={P37 with qos:=(fl / 2 &&& 3)}
   refine tst 14 [_] ((Pk.cells P38 ts)) ?_;intro W H9 hk;replace hZ:=hZ.st (H.b.at_ (j:=1) rfl).1 (ne9 rfl) (ne9 rfl) (.inr trivial) hk;clear H hk;have H:=H9;clear H9;refine td 15 ?_;intro A F;let P39:Pk:={P38 with dup:=!decide (fl &&& 8=0)}
   refine tst 16 [_] ((Pk.cells P39 ts)) ?_;intro W H9 hk;replace hZ:=hZ.st (H.b.at_ (j:=1) rfl).1 (ne9 rfl) (ne9 rfl) (.inr trivial) hk;clear H hk;have H:=H9;clear H9;refine wpAnyH_done (by kernel_rfl) ?_ _;refine hK36 _ _ ?_;refine sg λK40 hK40=>?_;refine zd ?_;intro A F;obtain ⟨htb,ht0⟩:=H.b.at_ (j:=0) rfl;refine jI (λ(x:Ts)=>[⟨t,68,#[(.pointer (some ⟨r,0,none⟩)),(.int .i64 v),(.bool x.b)]⟩,⟨q,34,(Pk.cells P39 ts)⟩,⟨hb,59,#[(.int .i64 k),(.int .u8 ((fl:Int))),(.int .i64 hh),(.int .i64 ((hrr:Int)))]⟩,⟨q4,34,jP⟩]) (TcD B _ v t r (.string S0.bin) S0.rdT) F rfl (j5 rfl rfl (j4 (F.e rfl) j8) j9k) (zu B w _ t r v S0 ⟨H.k,htb,ht0,by simp,trivial⟩ hr0 hZ.r hZ.n) (λS41 _ _ h=>Hp.re H (h.z.k) (ge2 hr0 ht0) ⟨⟨rfl,λ_=>h.tb⟩,⟨kD2 (h.z.k) hZ.r.blk (ne9 rfl) htb (ne9 rfl),⟨kD2 (h.z.k) hZ.r.blk (ne9 rfl) htb (ne9 rfl),⟨kD2 (h.z.k) hZ.r.blk (ne9 rfl) htb (ne9 rfl),trivial⟩⟩⟩⟩) ?_;clear F H A;intro S41 vv W A hR H F;obtain ⟨rfl,hS41,hZ9,-⟩:=hR
   try dsimp only at H
   replace hZ:=hZ.step hZ9 (λ_ _=>trivial);clear hZ9;clear htb ht0;refine zd ?_;intro A F;let P42:Pk:={P39 with topic:=S0.bin}
   refine zs [_] ((Pk.cells P42 ts)) ?_;intro W H9 hk;replace hZ:=hZ.st (H.b.at_ (j:=1) rfl).1 (ne9 rfl) (ne9 rfl) (.inr trivial) hk;clear H hk;have H:=H9;clear H9;refine nn (hK40 _ _) ?_;refine vS (λA W=>∃ i43:Nat,∃ S43:Ts,Fr A 254 [(4,(.pointer (some ⟨q4,0,none⟩))),(5,(.bool false)),(6,(.pointer (some ⟨hb,0,none⟩))),(8,(.pointer (some ⟨q,0,none⟩))),(9,(.pointer (some ⟨t,0,none⟩))),(78,(.int .i64 k))]∧Hp w W [⟨t,68,#[(.pointer (some ⟨r,0,none⟩)),(.int .i64 v),(.bool S43.b)]⟩,⟨q,34,(Pk.cells ({P42 with id:=i43}) ts)⟩,⟨hb,59,#[(.int .i64 k),(.int .u8 ((fl:Int))),(.int .i64 hh),(.int .i64 ((hrr:Int)))]⟩,⟨q4,34,jP⟩]∧(i43=(if (fl / 2 &&& 3)=0 then (P42).id else S41.num 2))∧(S43=(if (fl / 2 &&& 3)=0 then S41 else S41.rd 2))∧(Rd B w1 (λ_=>True) r S43 W)) (λA W hM=>?_) (λK44 hK44=>?_)
   rotate_left
   ·skip
    refine sg λK45 hK45=>?_
    iterate 2 (refine zd ?_;intro A F)
    refine zb (qa (i:=(fl / 2 &&& 3)) (j:=0)) ?_;intro A F;refine nn (hK45 _ _) ?_;refine zc (λhb46=>?_) (λhb46=>?_)
    ·skip
     refine jC ?_;refine zd ?_;intro A F;refine j3 F rfl (jK rfl (F.e rfl)) ?_;intro A F
     iterate 2 (refine zd ?_;intro A F)
     refine jI (λ(x:Ts)=>[⟨t,68,#[(.pointer (some ⟨r,0,none⟩)),(.int .i64 v),(.bool x.b)]⟩,⟨q,34,(Pk.cells P42 ts)⟩,⟨hb,59,#[(.int .i64 k),(.int .u8 ((fl:Int))),(.int .i64 hh),(.int .i64 ((hrr:Int)))]⟩,⟨q4,34,jP⟩]) (RdD B _ r (.int .u64 ((S41.num 2:Int))) (S41.rd 2)) F rfl (j5 rfl rfl (j4 (F.e rfl) (j4 jA j8)) j0j) (j40 2 (by decide) (by decide) hZ) (λS47 _ _ h=>Hp.re H (h.2.2.k) (ge1 hr0) ⟨⟨rfl,λhb=>by rw[show S47=_ from h.2.1];exact (kD1 (h.2.2.k) hZ.r.blk (ne9 rfl)).2 hb⟩,⟨kD1 (h.2.2.k) hZ.r.blk (ne9 rfl),⟨kD1 (h.2.2.k) hZ.r.blk (ne9 rfl),⟨kD1 (h.2.2.k) hZ.r.blk (ne9 rfl),trivial⟩⟩⟩⟩) ?_;clear F H A;intro S47 vv W A hR H F;obtain ⟨rfl,hS47,hZ9⟩:=hR
     try dsimp only at H
     replace hZ:=hZ.step hZ9 (λ_ _=>trivial);clear hZ9;have h847:=xr S41;refine j3 (v:=(.int .u16 ((S41.num 2:Int)))) F rfl (q9 rfl (F.e rfl) (j0r _ _ (by omega))) ?_;intro A F;refine zd ?_;intro A F;let P48:Pk:={P42 with id:=S41.num 2}
     refine zs [_] ((Pk.cells P48 ts)) ?_;intro W H9 hk;replace hZ:=hZ.st (H.b.at_ (j:=1) rfl).1 (ne9 rfl) (ne9 rfl) (.inr trivial) hk;clear H hk;have H:=H9;clear H9;refine wpList_nil ?_;exact hK44 _ _ ⟨(S41.num 2),S47,((((((F.nil.cons (F.g 78 _ rfl)).cons (F.g 9 _ rfl)).cons (F.g 8 _ rfl)).cons (F.g 6 _ rfl)).cons (F.g 5 _ rfl)).cons (F.g 4 _ rfl)),H,(by rw[if_neg (by have h9:=of_decide_eq_true hb46;omega)]),(by rw[if_neg (by have h9:=of_decide_eq_true hb46;omega)];exact hS47),hZ⟩
    refine wp_skip ?_;exact hK44 _ _ ⟨(P42).id,S41,((((((F.nil.cons (F.g 78 _ rfl)).cons (F.g 9 _ rfl)).cons (F.g 8 _ rfl)).cons (F.g 6 _ rfl)).cons (F.g 5 _ rfl)).cons (F.g 4 _ rfl)),H,(by rw[if_pos (by have h9:=of_decide_eq_false hb46;omega)]<;>rfl),(by rw[if_pos (by have h9:=of_decide_eq_false hb46;omega)]),hZ⟩
   clear F H;obtain ⟨i43,S43,F,H,hi43,hS43,hZ⟩:=hM;refine sg λK49 hK49=>?_;refine zd ?_;intro A F;obtain ⟨htb,ht0⟩:=H.b.at_ (j:=0) rfl;refine jI (λ(x:Ts × Option Addr × Nat)=>[⟨t,68,#[(.pointer (some ⟨r,0,none⟩)),(.int .i64 v),(.bool x.1.b)]⟩,⟨q,34,(Pk.cells ({P42 with id:=i43}) ts)⟩,⟨hb,59,#[(.int .i64 k),(.int .u8 ((fl:Int))),(.int .i64 hh),(.int .i64 ((hrr:Int)))]⟩,⟨q4,34,jP⟩]) (λx=>ScD B _ v t r (S43.sec v) (S43.rdS v) x.1 x.2.1 x.2.2) F rfl (j5 rfl rfl (j4 (F.e rfl) j8) j52) (zL B w _ t r v S43 ⟨H.k,htb,ht0,by simp,trivial⟩ hr0 hZ.r hZ.n) (λx9 _ _ h=>Hp.re H (h.z.k) (ge2 hr0 ht0) ⟨⟨rfl,λ_=>h.tb⟩,⟨kD2 (h.z.k) hZ.r.blk (ne9 rfl) htb (ne9 rfl),⟨kD2 (h.z.k) hZ.r.blk (ne9 rfl) htb (ne9 rfl),⟨kD2 (h.z.k) hZ.r.blk (ne9 rfl) htb (ne9 rfl),trivial⟩⟩⟩⟩) ?_;clear F H A;intro x9 vv W A hR H F;obtain ⟨S50,a50,c50⟩:=x9;replace hR:ScD B _ v t r (S43.sec v) (S43.rdS v) S50 a50 c50 vv W:=hR;obtain ⟨rfl,hS50,hZ9,-,hP50⟩:=hR
   try dsimp only at H
   replace hZ:=hZ.step hZ9 (λ_ _=>trivial);clear hZ9;clear htb ht0;refine zd ?_;intro A F;let s51:Sl:={ts with pa:=a50,pc:=c50}
   let P52:Pk:={P42 with id:=i43,props:=(S43.sec v)}
   refine zs [_] ((Pk.cells P52 s51)) ?_;intro W H9 hk;replace hZ:=hZ.st (H.b.at_ (j:=1) rfl).1 (ne9 rfl) (ne9 rfl) (.inr trivial) hk;replace hP50:=hP50.propK hk (jq (H.b.at_ (j:=1) rfl).1 (jn _ _));clear H hk;have H:=H9;clear H9;refine nn (hK49 _ _) ?_;refine jC ?_;refine zd ?_;intro A F;refine j3 F rfl (jK rfl (F.e rfl)) ?_;intro A F
   iterate 2 (refine zd ?_;intro A F)
   refine jI (λ(x:Ts)=>[⟨t,68,#[(.pointer (some ⟨r,0,none⟩)),(.int .i64 v),(.bool x.b)]⟩,⟨q,34,(Pk.cells P52 s51)⟩,⟨hb,59,#[(.int .i64 k),(.int .u8 ((fl:Int))),(.int .i64 hh),(.int .i64 ((hrr:Int)))]⟩,⟨q4,34,jP⟩]) (RdD B _ r (.string S50.rest) S50.rdR) F rfl (j5 rfl rfl (j4 (F.e rfl) j8) jKy) (jKs hZ) (λS53 _ _ h=>Hp.re H (h.2.2.k) (ge1 hr0) ⟨⟨rfl,λhb=>by rw[show S53=_ from h.2.1];exact (kD1 (h.2.2.k) hZ.r.blk (ne9 rfl)).2 hb⟩,⟨kD1 (h.2.2.k) hZ.r.blk (ne9 rfl),⟨kD1 (h.2.2.k) hZ.r.blk (ne9 rfl),⟨kD1 (h.2.2.k) hZ.r.blk (ne9 rfl),trivial⟩⟩⟩⟩) ?_;clear F H A;intro S53 vv W A hR H F;obtain ⟨rfl,hS53,hZ9⟩:=hR
   try dsimp only at H
   replace hP50:=hP50.propK hZ9.k (vO1 hZ.r);replace hZ:=hZ.step hZ9 (λ_ _=>trivial);clear hZ9;refine zd ?_;intro A F;let P54:Pk:={P52 with load:=S50.rest}
   refine zs [_] ((Pk.cells P54 s51)) ?_;intro W H9 hk;replace hZ:=hZ.st (H.b.at_ (j:=1) rfl).1 (ne9 rfl) (ne9 rfl) (.inr trivial) hk;replace hP50:=hP50.propK hk (jq (H.b.at_ (j:=1) rfl).1 (jn _ _));clear H hk;have H:=H9;clear H9;refine wpList_nil ?_;exact hK16 _ _ ⟨P54,s51,S53,((((F.nil.cons (F.g 9 _ rfl)).cons (F.g 8 _ rfl)).cons (F.g 5 _ rfl)).cons (F.g 4 _ rfl)),H,(by have hk9:=of_decide_eq_true hb35;subst hk9;subst hS53 hS50 hS43 hi43 hS41;rw[fk3 (v:=v) (f:=fl) (s:=S0) rfl]<;>rfl),λ_=>(by have hk9:=of_decide_eq_true hb35;subst hk9;subst hS53 hS50 hS43 hi43 hS41;rw[fk3 (v:=v) (f:=fl) (s:=S0) rfl]<;>rfl),hZ,⟨⟨xf rfl,zf rfl,ze rfl,hP50⟩,λ_=>⟨rfl,rfl⟩,λb9 off9=>⟨λ_ h9=>absurd rfl h9,λ_ h9=>absurd rfl h9⟩⟩⟩
  refine vS (λA W=>Fr A 254 [(4,(.pointer (some ⟨q4,0,none⟩))),(5,(.bool false)),(6,(.pointer (some ⟨hb,0,none⟩))),(8,(.pointer (some ⟨q,0,none⟩))),(9,(.pointer (some ⟨t,0,none⟩))),(78,(.int .i64 k)),(146,(.bool (decide (k=4∨k=5∨k=6∨k=7))))]∧Hp w W [⟨t,68,#[(.pointer (some ⟨r,0,none⟩)),(.int .i64 v),(.bool S0.b)]⟩,⟨q,34,(Pk.cells ((zk k)) ts)⟩,⟨hb,59,#[(.int .i64 k),(.int .u8 ((fl:Int))),(.int .i64 hh),(.int .i64 ((hrr:Int)))]⟩,⟨q4,34,jP⟩]∧(Rd B w1 (λ_=>True) r S0 W)) (λA W hM=>?_) (λK55 hK55=>?_)
  rotate_left
  ·skip
   refine sg λK56 hK56=>?_;refine zb (jG) ?_;intro A F;refine zd ?_;intro A F;refine nn (hK56 _ _) ?_;refine zc (λhb57=>?_) (λhb57=>?_)
   ·skip
    refine wp_skip ?_;exact hK55 _ _ ⟨(((((((F.nil.cons (qI (F.g 146 _ rfl) (congrArg Value.bool (by have:=of_decide_eq_true hb57;rw[Bool.eq_iff_iff];simp only[dE9,true_iff];omega)))).cons (F.g 78 _ rfl)).cons (F.g 9 _ rfl)).cons (F.g 8 _ rfl)).cons (F.g 6 _ rfl)).cons (F.g 5 _ rfl)).cons (F.g 4 _ rfl)),H,hZ⟩
   refine sg λK58 hK58=>?_;refine zb (jG) ?_;intro A F;refine zd ?_;intro A F;refine nn (hK58 _ _) ?_;refine zc (λhb59=>?_) (λhb59=>?_)
   ·skip
    refine wp_skip ?_;exact hK55 _ _ ⟨(((((((F.nil.cons (qI (F.g 146 _ rfl) (congrArg Value.bool (by have:=of_decide_eq_false hb57;have:=of_decide_eq_true hb59;rw[Bool.eq_iff_iff];simp only[dE9,true_iff];omega)))).cons (F.g 78 _ rfl)).cons (F.g 9 _ rfl)).cons (F.g 8 _ rfl)).cons (F.g 6 _ rfl)).cons (F.g 5 _ rfl)).cons (F.g 4 _ rfl)),H,hZ⟩
   refine sg λK60 hK60=>?_;refine zb (jG) ?_;intro A F;refine zd ?_;intro A F;refine nn (hK60 _ _) ?_;refine zc (λhb61=>?_) (λhb61=>?_)
   ·skip
    refine wp_skip ?_;exact hK55 _ _ ⟨(((((((F.nil.cons (qI (F.g 146 _ rfl) (congrArg Value.bool (by have:=of_decide_eq_false hb57;have:=of_decide_eq_false hb59;have:=of_decide_eq_true hb61;rw[Bool.eq_iff_iff];simp only[dE9,true_iff];omega)))).cons (F.g 78 _ rfl)).cons (F.g 9 _ rfl)).cons (F.g 8 _ rfl)).cons (F.g 6 _ rfl)).cons (F.g 5 _ rfl)).cons (F.g 4 _ rfl)),H,hZ⟩
   refine jC ?_;refine zb (jG) ?_;intro A F;refine zd ?_;intro A F;refine wpList_nil ?_;exact hK55 _ _ ⟨(((((((F.nil.cons (qI (F.g 146 _ rfl) (congrArg Value.bool (by have:=of_decide_eq_false hb57;have:=of_decide_eq_false hb59;have:=of_decide_eq_false hb61;rw[Bool.eq_iff_iff];simp only[dE9,true_iff];omega)))).cons (F.g 78 _ rfl)).cons (F.g 9 _ rfl)).cons (F.g 8 _ rfl)).cons (F.g 6 _ rfl)).cons (F.g 5 _ rfl)).cons (F.g 4 _ rfl)),H,hZ⟩
  clear F H;obtain ⟨F,H,hZ⟩:=hM;refine zc (λhb62=>?_) (λhb62=>?_)
  ·skip
   refine sg λK63 hK63=>?_;refine zd ?_;intro A F;refine j3 F rfl (jK rfl (F.e rfl)) ?_;intro A F
   iterate 2 (refine zd ?_;intro A F)
   refine jI (λ(x:Ts)=>[⟨t,68,#[(.pointer (some ⟨r,0,none⟩)),(.int .i64 v),(.bool x.b)]⟩,⟨q,34,(Pk.cells ((zk k)) ts)⟩,⟨hb,59,#[(.int .i64 k),(.int .u8 ((fl:Int))),(.int .i64 hh),(.int .i64 ((hrr:Int)))]⟩,⟨q4,34,jP⟩]) (RdD B _ r (.int .u64 ((S0.num 2:Int))) (S0.rd 2)) F rfl (j5 rfl rfl (j4 (F.e rfl) (j4 jA j8)) j0j) (j40 2 (by decide) (by decide) hZ) (λS64 _ _ h=>Hp.re H (h.2.2.k) (ge1 hr0) ⟨⟨rfl,λhb=>by rw[show S64=_ from h.2.1];exact (kD1 (h.2.2.k) hZ.r.blk (ne9 rfl)).2 hb⟩,⟨kD1 (h.2.2.k) hZ.r.blk (ne9 rfl),⟨kD1 (h.2.2.k) hZ.r.blk (ne9 rfl),⟨kD1 (h.2.2.k) hZ.r.blk (ne9 rfl),trivial⟩⟩⟩⟩) ?_;clear F H A;intro S64 vv W A hR H F;obtain ⟨rfl,hS64,hZ9⟩:=hR
   try dsimp only at H
   replace hZ:=hZ.step hZ9 (λ_ _=>trivial);clear hZ9;have h864:=xr S0;refine j3 (v:=(.int .u16 ((S0.num 2:Int)))) F rfl (q9 rfl (F.e rfl) (j0r _ _ (by omega))) ?_;intro A F;refine zd ?_;intro A F;let P65:Pk:={(zk k) with id:=S0.num 2}
   refine zs [_] ((Pk.cells P65 ts)) ?_;intro W H9 hk;replace hZ:=hZ.st (H.b.at_ (j:=1) rfl).1 (ne9 rfl) (ne9 rfl) (.inr trivial) hk;clear H hk;have H:=H9;clear H9;refine nn (hK63 _ _) ?_;refine jC ?_;refine zd ?_;intro A F;obtain ⟨htb,ht0⟩:=H.b.at_ (j:=0) rfl;obtain ⟨hqb,hq0⟩:=H.b.at_ (j:=1) rfl;refine jI (λ(x:Ts × Pk × Sl)=>[⟨t,68,#[(.pointer (some ⟨r,0,none⟩)),(.int .i64 v),(.bool x.1.b)]⟩,⟨q,34,(Pk.cells x.2.1 x.2.2)⟩,⟨hb,59,#[(.int .i64 k),(.int .u8 ((fl:Int))),(.int .i64 hh),(.int .i64 ((hrr:Int)))]⟩,⟨q4,34,jP⟩]) (λx=>KcD B _ v t q r (qg v P65 S64) x.1 x.2.1 x.2.2) F rfl (j5 rfl rfl (j4 (F.e rfl) (j4 (F.e rfl) j8)) jKz) (j6x B w _ t q r v S64 P65 ts ⟨H.k,htb,ht0,(by intro y hy;simp at hy;subst hy;exact hqt),hqb,hq0,by simp,trivial⟩ hr0 hZ.r hZ.n ⟨rfl,xf rfl,rfl,rfl,⟨rfl,rfl⟩⟩) (λx9 _ _ h=>Hp.re H (h.z.k) (ge3 hr0 ht0 hq0) ⟨⟨rfl,λ_=>h.tb⟩,⟨⟨rfl,λ_=>h.qb⟩,⟨kD3 (h.z.k) hZ.r.blk (ne9 rfl) htb (ne9 rfl) hqb (ne9 rfl),⟨kD4 (h.z.k) hZ.r.blk (ne9 rfl) htb (ne9 rfl) hne_q4,trivial⟩⟩⟩⟩) ?_;clear F H A;intro x9 vv W A hR H F;obtain ⟨S66,P66,s66⟩:=x9;replace hR:KcD B _ v t q r (qg v P65 S64) S66 P66 s66 vv W:=hR;obtain ⟨rfl,hS66,hP66,hZ9,-,-,hPw66,hPp66,hnf66,hnc66,hsc66⟩:=hR
   try dsimp only at H
   replace hZ:=hZ.step hZ9 (λ_ _=>trivial);clear hZ9;clear htb ht0;clear hqb hq0;refine wpList_nil ?_;exact hK16 _ _ ⟨P66,s66,S66,((((F.nil.cons (F.g 9 _ rfl)).cons (F.g 8 _ rfl)).cons (F.g 5 _ rfl)).cons (F.g 4 _ rfl)),H,(by have hk9:=of_decide_eq_true hb62;subst hP66 hS66 hS64;rw[fk4 (v:=v) (f:=fl) (s:=S0) hk9]<;>rfl),λ_=>(by have hk9:=of_decide_eq_true hb62;subst hP66 hS66 hS64;rw[fk4 (v:=v) (f:=fl) (s:=S0) hk9]<;>rfl),hZ,⟨⟨hPw66,zf hnf66,ze hnc66,hPp66⟩,λ_=>⟨by rw[hnc66];rfl,hsc66.2⟩,λb9 off9=>⟨λ_ h9=>absurd hnf66 h9,λ_ h9=>absurd hnc66 h9⟩⟩⟩
  refine vS (λA W=>Fr A 254 [(4,(.pointer (some ⟨q4,0,none⟩))),(5,(.bool false)),(6,(.pointer (some ⟨hb,0,none⟩))),(8,(.pointer (some ⟨q,0,none⟩))),(9,(.pointer (some ⟨t,0,none⟩))),(78,(.int .i64 k)),(160,(.bool (decide (k=8∨k=10))))]∧Hp w W [⟨t,68,#[(.pointer (some ⟨r,0,none⟩)),(.int .i64 v),(.bool S0.b)]⟩,⟨q,34,(Pk.cells ((zk k)) ts)⟩,⟨hb,59,#[(.int .i64 k),(.int .u8 ((fl:Int))),(.int .i64 hh),(.int .i64 ((hrr:Int)))]⟩,⟨q4,34,jP⟩]∧(Rd B w1 (λ_=>True) r S0 W)) (λA W hM=>?_) (λK67 hK67=>?_)
  rotate_left
  ·skip
   refine sg λK68 hK68=>?_;refine zb (jG) ?_;intro A F;refine zd ?_;intro A F;refine nn (hK68 _ _) ?_;refine zc (λhb69=>?_) (λhb69=>?_)
   ·skip
    refine wp_skip ?_;exact hK67 _ _ ⟨(((((((F.nil.cons (qI (F.g 160 _ rfl) (congrArg Value.bool (by have:=of_decide_eq_true hb69;rw[Bool.eq_iff_iff];simp only[dE9,true_iff];omega)))).cons (F.g 78 _ rfl)).cons (F.g 9 _ rfl)).cons (F.g 8 _ rfl)).cons (F.g 6 _ rfl)).cons (F.g 5 _ rfl)).cons (F.g 4 _ rfl)),H,hZ⟩
   refine jC ?_;refine zb (jG) ?_;intro A F;refine zd ?_;intro A F;refine wpList_nil ?_;exact hK67 _ _ ⟨(((((((F.nil.cons (qI (F.g 160 _ rfl) (congrArg Value.bool (by have:=of_decide_eq_false hb69;rw[Bool.eq_iff_iff];simp only[dE9,true_iff];omega)))).cons (F.g 78 _ rfl)).cons (F.g 9 _ rfl)).cons (F.g 8 _ rfl)).cons (F.g 6 _ rfl)).cons (F.g 5 _ rfl)).cons (F.g 4 _ rfl)),H,hZ⟩
  clear F H;obtain ⟨F,H,hZ⟩:=hM;refine zc (λhb70=>?_) (λhb70=>?_)
  ·skip
   refine sg λK71 hK71=>?_;refine zd ?_;intro A F;refine j3 F rfl (jK rfl (F.e rfl)) ?_;intro A F
   iterate 2 (refine zd ?_;intro A F)
   refine jI (λ(x:Ts)=>[⟨t,68,#[(.pointer (some ⟨r,0,none⟩)),(.int .i64 v),(.bool x.b)]⟩,⟨q,34,(Pk.cells ((zk k)) ts)⟩,⟨hb,59,#[(.int .i64 k),(.int .u8 ((fl:Int))),(.int .i64 hh),(.int .i64 ((hrr:Int)))]⟩,⟨q4,34,jP⟩]) (RdD B _ r (.int .u64 ((S0.num 2:Int))) (S0.rd 2)) F rfl (j5 rfl rfl (j4 (F.e rfl) (j4 jA j8)) j0j) (j40 2 (by decide) (by decide) hZ) (λS72 _ _ h=>Hp.re H (h.2.2.k) (ge1 hr0) ⟨⟨rfl,λhb=>by rw[show S72=_ from h.2.1];exact (kD1 (h.2.2.k) hZ.r.blk (ne9 rfl)).2 hb⟩,⟨kD1 (h.2.2.k) hZ.r.blk (ne9 rfl),⟨kD1 (h.2.2.k) hZ.r.blk (ne9 rfl),⟨kD1 (h.2.2.k) hZ.r.blk (ne9 rfl),trivial⟩⟩⟩⟩) ?_;clear F H A;intro S72 vv W A hR H F;obtain ⟨rfl,hS72,hZ9⟩:=hR
   try dsimp only at H
   replace hZ:=hZ.step hZ9 (λ_ _=>trivial);clear hZ9;have h872:=xr S0;refine j3 (v:=(.int .u16 ((S0.num 2:Int)))) F rfl (q9 rfl (F.e rfl) (j0r _ _ (by omega))) ?_;intro A F;refine zd ?_;intro A F;let P73:Pk:={(zk k) with id:=S0.num 2}
   refine zs [_] ((Pk.cells P73 ts)) ?_;intro W H9 hk;replace hZ:=hZ.st (H.b.at_ (j:=1) rfl).1 (ne9 rfl) (ne9 rfl) (.inr trivial) hk;clear H hk;have H:=H9;clear H9;refine nn (hK71 _ _) ?_;refine sg λK74 hK74=>?_;refine zd ?_;intro A F;obtain ⟨htb,ht0⟩:=H.b.at_ (j:=0) rfl;refine jI (λ(x:Ts × Option Addr × Nat)=>[⟨t,68,#[(.pointer (some ⟨r,0,none⟩)),(.int .i64 v),(.bool x.1.b)]⟩,⟨q,34,(Pk.cells P73 ts)⟩,⟨hb,59,#[(.int .i64 k),(.int .u8 ((fl:Int))),(.int .i64 hh),(.int .i64 ((hrr:Int)))]⟩,⟨q4,34,jP⟩]) (λx=>ScD B _ v t r (S72.sec v) (S72.rdS v) x.1 x.2.1 x.2.2) F rfl (j5 rfl rfl (j4 (F.e rfl) j8) j52) (zL B w _ t r v S72 ⟨H.k,htb,ht0,by simp,trivial⟩ hr0 hZ.r hZ.n) (λx9 _ _ h=>Hp.re H (h.z.k) (ge2 hr0 ht0) ⟨⟨rfl,λ_=>h.tb⟩,⟨kD2 (h.z.k) hZ.r.blk (ne9 rfl) htb (ne9 rfl),⟨kD2 (h.z.k) hZ.r.blk (ne9 rfl) htb (ne9 rfl),⟨kD2 (h.z.k) hZ.r.blk (ne9 rfl) htb (ne9 rfl),trivial⟩⟩⟩⟩) ?_;clear F H A;intro x9 vv W A hR H F;obtain ⟨S75,a75,c75⟩:=x9;replace hR:ScD B _ v t r (S72.sec v) (S72.rdS v) S75 a75 c75 vv W:=hR;obtain ⟨rfl,hS75,hZ9,-,hP75⟩:=hR
   try dsimp only at H
   replace hZ:=hZ.step hZ9 (λ_ _=>trivial);clear hZ9;clear htb ht0;refine zd ?_;intro A F;let s76:Sl:={ts with pa:=a75,pc:=c75}
   let P77:Pk:={P73 with props:=(S72.sec v)}
   refine zs [_] ((Pk.cells P77 s76)) ?_;intro W H9 hk;replace hZ:=hZ.st (H.b.at_ (j:=1) rfl).1 (ne9 rfl) (ne9 rfl) (.inr trivial) hk;replace hP75:=hP75.propK hk (jq (H.b.at_ (j:=1) rfl).1 (jn _ _));clear H hk;have H:=H9;clear H9;refine nn (hK74 _ _) ?_;refine wp_block ?_;obtain ⟨w2,hw2⟩:∃ w2:World,w2=W:=⟨_,rfl⟩
   have hk12:Kept (λ_=>True) w1 w2:=by rw[hw2];exact hZ.k
   have hw12:=hk12.size;have hSn0:=hZ.n;have hPlt:∀ b off,a75=some ⟨b,off,none⟩→PC (S72.sec v)≠[]→b<w2.heap.size:=by rw[hw2];exact hP75.lt9
   replace hZ:Rd B w2 (λ_=>True) r S75 W:=⟨hZ.n,hZ.r,by rw[hw2];exact Kept.refl _ _⟩;clear hw2;refine xq (λ(n:Nat) A W=>∃ acc:List Fi,∃ fa:Option Addr,∃ fc:Nat,∃ S1:Ts,Fr A 254 [(4,(.pointer (some ⟨q4,0,none⟩))),(5,(.bool false)),(6,(.pointer (some ⟨hb,0,none⟩))),(8,(.pointer (some ⟨q,0,none⟩))),(9,(.pointer (some ⟨t,0,none⟩))),(78,(.int .i64 k))]∧Hp w W [⟨t,68,#[(.pointer (some ⟨r,0,none⟩)),(.int .i64 v),(.bool S1.b)]⟩,⟨q,34,(Pk.cells ({P77 with filters:=acc}) ({s76 with fa:=fa,fc:=fc}))⟩,⟨hb,59,#[(.int .i64 k),(.int .u8 ((fl:Int))),(.int .i64 hh),(.int .i64 ((hrr:Int)))]⟩,⟨q4,34,jP⟩]∧W.ownsRow w2.heap.size 76 2 (.slice fa acc.length fc) acc.length ((FC acc))∧(qc k S75.l.length S75=(acc++(qc k n S1).1,(qc k n S1).2))∧(S1.l.length≤n)∧(acc.length+n≤S75.l.length)∧(Rd B w2 (λ_=>True) r S1 W)∧(Row W a75 (PC (S72.sec v)))) (λn=>n) S75.l.length ⟨[],none,0,S75,((((((F.nil.cons (F.g 78 _ rfl)).cons (F.g 9 _ rfl)).cons (F.g 8 _ rfl)).cons (F.g 6 _ rfl)).cons (F.g 5 _ rfl)).cons (F.g 4 _ rfl)),H,j8l _,by simp,Nat.le_refl _,by simp,hZ,hP75⟩ (λn A W hI J78 hJ78=>?_);clear F H;obtain ⟨acc,fa,fc,S1,F,H,hO,hf,hnn,hal,hZ,hP75⟩:=hI;have hSn:=hZ.n;have he1:0<S1.l.length→S1.e=0:=hZ.r.e0;refine wp_seq_k λK79 hK79=>?_;refine sg λK80 hK80=>?_;refine zd ?_;intro A F;refine j3 F rfl (jK rfl (F.e rfl)) ?_;intro A F
   iterate 2 (refine zd ?_;intro A F)
   refine jU F H rfl (j5 rfl rfl (j4 (F.e rfl) j8) jD1) (jFp hZ) ?_;clear F H A;intro W A hk H F;replace hZ:=hZ.no hk;replace hP75:=hP75.keptNo hk;replace hO:=jQ hO hk;clear hk;refine zb (qa (i:=S1.l.length) (j:=0)) ?_;intro A F;refine zd ?_;intro A F;refine zg ?_;intro A F;refine q6 F rfl (je F rfl rfl rfl) (λhG=>(jK rfl (F.o rfl hG))) ?_;intro A F;refine zB F rfl rfl (je F rfl rfl rfl) rfl rfl (λhG=>(F.o rfl hG)) (jCz _ _ _) (jLx _) (H.c 0 rfl rfl) ?_;intro A F;refine zg ?_;intro A F;refine j3 F rfl (jJ rfl (F.e rfl) (λhx=>(F.o rfl hx)) rfl) ?_;intro A F;refine nn (hK80 _ _) ?_;refine zc (λhb82=>?_) (λhb82=>?_)
   ·skip
    refine wp_skip (hK79 _ _ ?_);refine wp_block ?_;refine sg λK83 hK83=>?_;refine zd ?_;intro A F;obtain ⟨htb,ht0⟩:=H.b.at_ (j:=0) rfl;refine jI (λ(x:Ts)=>[⟨t,68,#[(.pointer (some ⟨r,0,none⟩)),(.int .i64 v),(.bool x.b)]⟩,⟨q,34,(Pk.cells ({P77 with filters:=acc}) ({s76 with fa:=fa,fc:=fc}))⟩,⟨hb,59,#[(.int .i64 k),(.int .u8 ((fl:Int))),(.int .i64 hh),(.int .i64 ((hrr:Int)))]⟩,⟨q4,34,jP⟩]) (TcD B _ v t r (.string S1.bin) S1.rdT) F rfl (j5 rfl rfl (j4 (F.e rfl) j8) j9k) (zu B w _ t r v S1 ⟨H.k,htb,ht0,by simp,trivial⟩ hr0 hZ.r hZ.n) (λS84 _ _ h=>Hp.re H (h.z.k) (ge2 hr0 ht0) ⟨⟨rfl,λ_=>h.tb⟩,⟨kD2 (h.z.k) hZ.r.blk (ne9 rfl) htb (ne9 rfl),⟨kD2 (h.z.k) hZ.r.blk (ne9 rfl) htb (ne9 rfl),⟨kD2 (h.z.k) hZ.r.blk (ne9 rfl) htb (ne9 rfl),trivial⟩⟩⟩⟩) ?_;clear F H A;intro S84 vv W A hR H F;obtain ⟨rfl,hS84,hZ9,-⟩:=hR
    try dsimp only at H
    replace hP75:=hP75.propK hZ9.k (vO2 hZ.r htb (nu3 (by simp) (by simp) (by simp)));replace hO:=jDm hO hZ9.k (oT2 hZ.r.blk (show 66≠76 by decide) htb (show 68≠76 by decide));replace hZ:=hZ.step hZ9 (λ_ _=>trivial);clear hZ9;clear htb ht0;refine j3 (v:=(.agg #[(.string S1.bin),(.int .u8 0)])) F rfl (jV rfl (j6 (F.e rfl) js) (by kernel_rfl)) ?_;intro A F;refine ja (c:=#[(.string ⟨#[]⟩),(.int .u8 0)]) (t:=76) F H rfl (jY rfl (jKo _)) ?_;clear F A;intro bf W A hk hN H9 F;clear H;have H:=H9;clear H9;have hN_hZ_bf:=Nat.le_trans hZ.k.size hN;have hne_hO_bf:=j7a hO hN;replace hZ:=hZ.no hk;replace hP75:=hP75.keptNo hk;replace hO:=jQ hO hk;clear hk hN;obtain ⟨W9,hr,hB,hk⟩:=j7 (P:=Tryz.prog) (S:=76) (c:=#[(.string S1.bin),(.int .u8 0)]) _ (H.b.at_ (j:=0) rfl).1 (j2l _) rfl (by simp[Value.oneCell']);replace hO:=j8f hO hne_hO_bf hk;replace hZ:=hZ.st (H.b.at_ (j:=0) rfl).1 (ne9 rfl) (ne9 rfl) (.inr trivial) hk;replace hP75:=hP75.propK hk (jq (H.b.at_ (j:=0) rfl).1 (nu2 (by simp) (by simp)));refine jW (jD rfl (F.e rfl) (F.e rfl) hr) ?_;clear hr;replace H:Hp _ _ [_,_,_,_,_]:=Hp.turn [] H hk hB;clear hk hB;refine nn (hK83 _ _) ?_;have hok:S1.ok=true∧0<S1.l.length:=by have h9:=hb82;rw[aE9,dE9]at h9;refine ⟨?_,h9.1⟩;unfold Ts.ok;rw[he1 h9.1,h9.2];rfl
    refine vS (λA W=>∃ o:Nat,∃ S8:Ts,Fr A 254 [(4,(.pointer (some ⟨q4,0,none⟩))),(5,(.bool false)),(6,(.pointer (some ⟨hb,0,none⟩))),(8,(.pointer (some ⟨q,0,none⟩))),(9,(.pointer (some ⟨t,0,none⟩))),(11,(.pointer (some ⟨bf,0,none⟩))),(78,(.int .i64 k)),(173,(.pointer (some ⟨t,0,none⟩))),(174,(.pointer (some ⟨t,0,none⟩))),(175,(.pointer (some ⟨t,0,none⟩))),(176,(.pointer (some ⟨r,0,none⟩))),(177,(.int .i64 ((S1.l.length:Int)))),(178,(.bool (decide (0<S1.l.length)))),(179,(.bool (decide (0<S1.l.length)))),(180,(og ((decide (0<S1.l.length))) (.pointer (some ⟨t,0,none⟩)))),(181,(og ((decide (0<S1.l.length))) (.pointer (some ⟨t,0,none⟩)))),(182,(og ((decide (0<S1.l.length))) (.pointer (some ⟨t,2,none⟩)))),(183,(og ((decide (0<S1.l.length))) (.bool S1.b))),(184,(og ((decide (0<S1.l.length))) (.bool (!S1.b)))),(185,(.bool ((decide (0<S1.l.length))&&(!S1.b)))),(186,(.pointer (some ⟨t,0,none⟩))),(187,(.string S1.bin)),(188,(.agg #[(.string S1.bin),(.int .u8 0)]))]∧Hp w W [⟨bf,76,#[(.string S1.bin),(.int .u8 ((o:Int)))]⟩,⟨t,68,#[(.pointer (some ⟨r,0,none⟩)),(.int .i64 v),(.bool S8.b)]⟩,⟨q,34,(Pk.cells ({P77 with filters:=acc}) ({s76 with fa:=fa,fc:=fc}))⟩,⟨hb,59,#[(.int .i64 k),(.int .u8 ((fl:Int))),(.int .i64 hh),(.int .i64 ((hrr:Int)))]⟩,⟨q4,34,jP⟩]∧W.ownsRow w2.heap.size 76 2 (.slice fa acc.length fc) acc.length ((FC acc))∧(o=if k=8 then S1.rdT.num 1 else 0)∧(S8=if k=8 then S1.rdT.rd 1 else S1.rdT)∧(Rd B w2 (λ_=>True) r S8 W)∧(Row W a75 (PC (S72.sec v)))) (λA W hM=>?_) (λK85 hK85=>?_)
    rotate_left
    ·skip
     refine sg λK86 hK86=>?_
     iterate 2 (refine zd ?_;intro A F)
     refine zb (jG) ?_;intro A F;refine nn (hK86 _ _) ?_;refine zc (λhb87=>?_) (λhb87=>?_)
     ·skip
      refine jC ?_;refine zd ?_;intro A F;refine j3 F rfl (jK rfl (F.e rfl)) ?_;intro A F
      iterate 2 (refine zd ?_;intro A F)
      refine jI (λ(x:Ts)=>[⟨bf,76,#[(.string S1.bin),(.int .u8 0)]⟩,⟨t,68,#[(.pointer (some ⟨r,0,none⟩)),(.int .i64 v),(.bool x.b)]⟩,⟨q,34,(Pk.cells ({P77 with filters:=acc}) ({s76 with fa:=fa,fc:=fc}))⟩,⟨hb,59,#[(.int .i64 k),(.int .u8 ((fl:Int))),(.int .i64 hh),(.int .i64 ((hrr:Int)))]⟩,⟨q4,34,jP⟩]) (RdD B _ r (.int .u64 ((S84.num 1:Int))) (S84.rd 1)) F rfl (j5 rfl rfl (j4 (F.e rfl) (j4 jA j8)) j0j) (j40 1 (by decide) (by decide) hZ) (λS88 _ _ h=>Hp.re H (h.2.2.k) (ge1 hr0) ⟨kD1 (h.2.2.k) hZ.r.blk (ne9 rfl),⟨⟨rfl,λhb=>by rw[show S88=_ from h.2.1];exact (kD1 (h.2.2.k) hZ.r.blk (ne9 rfl)).2 hb⟩,⟨kD1 (h.2.2.k) hZ.r.blk (ne9 rfl),⟨kD1 (h.2.2.k) hZ.r.blk (ne9 rfl),⟨kD1 (h.2.2.k) hZ.r.blk (ne9 rfl),trivial⟩⟩⟩⟩⟩) ?_;clear F H A;intro S88 vv W A hR H F;obtain ⟨rfl,hS88,hZ9⟩:=hR
      try dsimp only at H
      replace hP75:=hP75.propK hZ9.k (vO1 hZ.r);replace hO:=jDm hO hZ9.k (oT1 hZ.r.blk (show 66≠76 by decide));replace hZ:=hZ.step hZ9 (λ_ _=>trivial);clear hZ9;have h888:=ql S84;refine j3 (v:=(.int .u8 ((S84.num 1:Int)))) F rfl (q9 rfl (F.e rfl) (j7z _ _ (by omega))) ?_;intro A F;refine zd ?_;intro A F;refine zs [] (#[(.string S1.bin),(.int .u8 ((S84.num 1:Int)))]) ?_;intro W H9 hk;replace hO:=j8f hO hne_hO_bf hk;replace hZ:=hZ.st (H.b.at_ (j:=0) rfl).1 (ne9 rfl) (ne9 rfl) (.inr trivial) hk;replace hP75:=hP75.propK hk (jq (H.b.at_ (j:=0) rfl).1 (nu2 (by simp) (by simp)));clear H hk;have H:=H9;clear H9;refine wpList_nil ?_;exact hK85 _ _ ⟨(S84.num 1),S88,(((((((((((((((((((((((F.nil.cons (F.g 188 _ rfl)).cons (F.g 187 _ rfl)).cons (F.g 186 _ rfl)).cons (F.g 185 _ rfl)).cons (F.g 184 _ rfl)).cons (F.g 183 _ rfl)).cons (F.g 182 _ rfl)).cons (F.g 181 _ rfl)).cons (F.g 180 _ rfl)).cons (F.g 179 _ rfl)).cons (F.g 178 _ rfl)).cons (F.g 177 _ rfl)).cons (F.g 176 _ rfl)).cons (F.g 175 _ rfl)).cons (F.g 174 _ rfl)).cons (F.g 173 _ rfl)).cons (F.g 78 _ rfl)).cons (F.g 11 _ rfl)).cons (F.g 9 _ rfl)).cons (F.g 8 _ rfl)).cons (F.g 6 _ rfl)).cons (F.g 5 _ rfl)).cons (F.g 4 _ rfl)),H,hO,(by rw[if_pos (of_decide_eq_true hb87),← hS84]),(by rw[if_pos (of_decide_eq_true hb87),← hS84];exact hS88),hZ,hP75⟩
     refine wp_skip ?_;exact hK85 _ _ ⟨0,S84,(((((((((((((((((((((((F.nil.cons (F.g 188 _ rfl)).cons (F.g 187 _ rfl)).cons (F.g 186 _ rfl)).cons (F.g 185 _ rfl)).cons (F.g 184 _ rfl)).cons (F.g 183 _ rfl)).cons (F.g 182 _ rfl)).cons (F.g 181 _ rfl)).cons (F.g 180 _ rfl)).cons (F.g 179 _ rfl)).cons (F.g 178 _ rfl)).cons (F.g 177 _ rfl)).cons (F.g 176 _ rfl)).cons (F.g 175 _ rfl)).cons (F.g 174 _ rfl)).cons (F.g 173 _ rfl)).cons (F.g 78 _ rfl)).cons (F.g 11 _ rfl)).cons (F.g 9 _ rfl)).cons (F.g 8 _ rfl)).cons (F.g 6 _ rfl)).cons (F.g 5 _ rfl)).cons (F.g 4 _ rfl)),H,hO,(by rw[if_neg (of_decide_eq_false hb87)]),(by rw[if_neg (of_decide_eq_false hb87)];exact hS84),hZ,hP75⟩
    clear F H hO;obtain ⟨o,S8,F,H,hO,ho,hS,hZ,hP75⟩:=hM;refine jC ?_
    iterate 2 (refine zd ?_;intro A F)
    refine j3 F rfl (jB rfl (F.e rfl) (jE (#[(.string S1.bin),(.int .u8 ((o:Int)))]) rfl (jD7 _) (j2l _) (λi=>H.cs 0 rfl i))) ?_;intro A F;refine jH1 (c:=#[.string S1.bin,.int .u8 (o:Int)]) (t:=76) (m:=1) F H rfl (qB rfl (j6 (F.e rfl) js) (by kernel_rfl)) ?_;clear F A;intro b89 W A hk hN H9 F;clear H;have H:=H9;clear H9;have hne_hO_b89:=j7a hO hN;have hN_hZ_b89:=Nat.le_trans hZ.k.size hN;replace hZ:=hZ.no hk;replace hP75:=hP75.keptNo hk;replace hO:=jQ hO hk;clear hk hN;obtain ⟨i0,hi,hz0,hz1,hz2⟩:=info_parts j5d;obtain ⟨v9,W9,hrun,hO9,hg,_⟩:=run_append_own (P:=Tryz.prog) _ w2.heap.size 32 32 76 i0 _ 2 24 Tryz.underlying32 hi hz0 hz1 hz2 rfl (by decide) (.slice fa acc.length fc) acc.length (FC acc) hO ⟨b89,0,none⟩ 1 1 [.string S1.bin,.int .u8 (o:Int)] rfl (j2c (H.b.at_ (j:=0) rfl).1) (j4f rfl) (by unfold maxLen;omega) (by omega) hZ.k.size;rw[show ([.string S1.bin,.int .u8 (o:Int)]:List Value)=FC [⟨S1.bin,o⟩] from rfl,← j1i,show acc.length+1=(acc++[(⟨S1.bin,o⟩:Fi)]).length by simp]at hO9;have hkS:=qf hg;obtain ⟨a9,c9,hv9⟩:=qv hO9;subst hv9;refine j3 F rfl (qT rfl (j4 (F.e rfl) (j4 (F.e rfl) j8)) (λcs=>by simp only[builtin];exact qj hrun)) ?_;intro A F;replace H:=Hp.grown H (v8 hO (Nat.le_trans hw1s hw12)) hkS (fa1 (j7p hne_hO_b89) (fa1 (j7p hne_hO_bf) (fa1 (qA hO (H.b.at_ (j:=2) rfl).1 (show 68≠76 by decide)) (fa1 (qA hO (H.b.at_ (j:=3) rfl).1 (show 34≠76 by decide)) (fa1 (qA hO (H.b.at_ (j:=4) rfl).1 (show 59≠76 by decide)) (fa1 (qA hO (H.b.at_ (j:=5) rfl).1 (show 34≠76 by decide)) fa0))))));replace hP75:=jK7 hP75 hO hPlt hkS;replace hZ:=hZ.gr hO (Nat.le_refl _) (show 76≠66 by decide) hkS;clear hrun hg hkS;clear hO;have hO:=hO9;clear hO9;generalize W9=W at *;refine zd ?_;intro A F;let s90:Sl:={s76 with fa:=a9,fc:=c9}
    let P91:Pk:={P77 with filters:=(acc++[(⟨S1.bin,o⟩:Fi)])}
    refine zs [_,_,_] ((Pk.cells P91 s90)) ?_;intro W H9 hk;replace hO:=jo hO (H.b.at_ (j:=3) rfl).1 (show 34≠76 by decide) hk;replace hZ:=hZ.st (H.b.at_ (j:=3) rfl).1 (ne9 rfl) (ne9 rfl) (.inr trivial) hk;replace hP75:=hP75.propK hk (jq (H.b.at_ (j:=3) rfl).1 (jn _ _));clear H hk;have H:=H9;clear H9;refine wpList_nil ?_;exact hJ78 ((n - 1)) _ _ (by have:=hok.2;omega) ⟨(acc++[(⟨S1.bin,o⟩:Fi)]),a9,c9,S8,((((((F.nil.cons (F.g 78 _ rfl)).cons (F.g 9 _ rfl)).cons (F.g 8 _ rfl)).cons (F.g 6 _ rfl)).cons (F.g 5 _ rfl)).cons (F.g 4 _ rfl)),H.tl.tl,hO,(zY hf hnn hok ho hS).1,(zY hf hnn hok ho hS).2,(by have:=hok.2;simp only[List.length_append,List.length_cons,List.length_nil];omega),hZ,hP75⟩
   refine wp_exit ?_;exact hK16 _ _ ⟨{P77 with filters:=acc},{s76 with fa:=fa,fc:=fc},S1,((((F.nil.cons (F.g 9 _ rfl)).cons (F.g 8 _ rfl)).cons (F.g 5 _ rfl)).cons (F.g 4 _ rfl)),H,(by have hk9:=of_decide_eq_true hb70;have hE9:=j3b hf (by intro h8;have h9:=hb82;rw[Bool.and_eq_false_iff,decide_eq_false_iff_not]at h9;rcases h9 with h9|h9;exact h9 h8.2;have h7:=h8.1;unfold Ts.ok at h7;revert h7;revert h9;cases S1.b<;>simp);subst hS75 hS72;rw[fk8 (v:=v) (f:=fl) (s:=S0) hk9,hE9]<;>rfl),λ_=>(by have hk9:=of_decide_eq_true hb70;have hE9:=j3b hf (by intro h8;have h9:=hb82;rw[Bool.and_eq_false_iff,decide_eq_false_iff_not]at h9;rcases h9 with h9|h9;exact h9 h8.2;have h7:=h8.1;unfold Ts.ok at h7;revert h7;revert h9;cases S1.b<;>simp);subst hS75 hS72;rw[fk8 (v:=v) (f:=fl) (s:=S0) hk9,hE9]<;>rfl),⟨hZ.n,hZ.r,hk12.trans hZ.k⟩,⟨⟨xf rfl,(qi hO).1,ze rfl,hP75⟩,λ_=>⟨rfl,rfl⟩,λb9 off9=>⟨λe9 _=>jHi hO hw12 b9 off9 e9,λ_ h9=>absurd rfl h9⟩⟩⟩
  refine vS (λA W=>Fr A 254 [(4,(.pointer (some ⟨q4,0,none⟩))),(5,(.bool false)),(8,(.pointer (some ⟨q,0,none⟩))),(9,(.pointer (some ⟨t,0,none⟩))),(78,(.int .i64 k)),(205,(.bool (decide (k=9∨k=11))))]∧Hp w W [⟨t,68,#[(.pointer (some ⟨r,0,none⟩)),(.int .i64 v),(.bool S0.b)]⟩,⟨q,34,(Pk.cells ((zk k)) ts)⟩,⟨hb,59,#[(.int .i64 k),(.int .u8 ((fl:Int))),(.int .i64 hh),(.int .i64 ((hrr:Int)))]⟩,⟨q4,34,jP⟩]∧(Rd B w1 (λ_=>True) r S0 W)) (λA W hM=>?_) (λK92 hK92=>?_)
  rotate_left
  ·skip
   refine sg λK93 hK93=>?_;refine zb (jG) ?_;intro A F;refine zd ?_;intro A F;refine nn (hK93 _ _) ?_;refine zc (λhb94=>?_) (λhb94=>?_)
   ·skip
    refine wp_skip ?_;exact hK92 _ _ ⟨((((((F.nil.cons (qI (F.g 205 _ rfl) (congrArg Value.bool (by have:=of_decide_eq_true hb94;rw[Bool.eq_iff_iff];simp only[dE9,true_iff];omega)))).cons (F.g 78 _ rfl)).cons (F.g 9 _ rfl)).cons (F.g 8 _ rfl)).cons (F.g 5 _ rfl)).cons (F.g 4 _ rfl)),H,hZ⟩
   refine jC ?_;refine zb (jG) ?_;intro A F;refine zd ?_;intro A F;refine wpList_nil ?_;exact hK92 _ _ ⟨((((((F.nil.cons (qI (F.g 205 _ rfl) (congrArg Value.bool (by have:=of_decide_eq_false hb94;rw[Bool.eq_iff_iff];simp only[dE9,true_iff];omega)))).cons (F.g 78 _ rfl)).cons (F.g 9 _ rfl)).cons (F.g 8 _ rfl)).cons (F.g 5 _ rfl)).cons (F.g 4 _ rfl)),H,hZ⟩
  clear F H;obtain ⟨F,H,hZ⟩:=hM;refine zc (λhb95=>?_) (λhb95=>?_)
  ·skip
   refine sg λK96 hK96=>?_;refine zd ?_;intro A F;refine j3 F rfl (jK rfl (F.e rfl)) ?_;intro A F
   iterate 2 (refine zd ?_;intro A F)
   refine jI (λ(x:Ts)=>[⟨t,68,#[(.pointer (some ⟨r,0,none⟩)),(.int .i64 v),(.bool x.b)]⟩,⟨q,34,(Pk.cells ((zk k)) ts)⟩,⟨hb,59,#[(.int .i64 k),(.int .u8 ((fl:Int))),(.int .i64 hh),(.int .i64 ((hrr:Int)))]⟩,⟨q4,34,jP⟩]) (RdD B _ r (.int .u64 ((S0.num 2:Int))) (S0.rd 2)) F rfl (j5 rfl rfl (j4 (F.e rfl) (j4 jA j8)) j0j) (j40 2 (by decide) (by decide) hZ) (λS97 _ _ h=>Hp.re H (h.2.2.k) (ge1 hr0) ⟨⟨rfl,λhb=>by rw[show S97=_ from h.2.1];exact (kD1 (h.2.2.k) hZ.r.blk (ne9 rfl)).2 hb⟩,⟨kD1 (h.2.2.k) hZ.r.blk (ne9 rfl),⟨kD1 (h.2.2.k) hZ.r.blk (ne9 rfl),⟨kD1 (h.2.2.k) hZ.r.blk (ne9 rfl),trivial⟩⟩⟩⟩) ?_;clear F H A;intro S97 vv W A hR H F;obtain ⟨rfl,hS97,hZ9⟩:=hR
   try dsimp only at H
   replace hZ:=hZ.step hZ9 (λ_ _=>trivial);clear hZ9;have h897:=xr S0;refine j3 (v:=(.int .u16 ((S0.num 2:Int)))) F rfl (q9 rfl (F.e rfl) (j0r _ _ (by omega))) ?_;intro A F;refine zd ?_;intro A F;let P98:Pk:={(zk k) with id:=S0.num 2}
   refine zs [_] ((Pk.cells P98 ts)) ?_;intro W H9 hk;replace hZ:=hZ.st (H.b.at_ (j:=1) rfl).1 (ne9 rfl) (ne9 rfl) (.inr trivial) hk;clear H hk;have H:=H9;clear H9;refine nn (hK96 _ _) ?_;refine sg λK99 hK99=>?_;refine zd ?_;intro A F;obtain ⟨htb,ht0⟩:=H.b.at_ (j:=0) rfl;refine jI (λ(x:Ts × Option Addr × Nat)=>[⟨t,68,#[(.pointer (some ⟨r,0,none⟩)),(.int .i64 v),(.bool x.1.b)]⟩,⟨q,34,(Pk.cells P98 ts)⟩,⟨hb,59,#[(.int .i64 k),(.int .u8 ((fl:Int))),(.int .i64 hh),(.int .i64 ((hrr:Int)))]⟩,⟨q4,34,jP⟩]) (λx=>ScD B _ v t r (S97.sec v) (S97.rdS v) x.1 x.2.1 x.2.2) F rfl (j5 rfl rfl (j4 (F.e rfl) j8) j52) (zL B w _ t r v S97 ⟨H.k,htb,ht0,by simp,trivial⟩ hr0 hZ.r hZ.n) (λx9 _ _ h=>Hp.re H (h.z.k) (ge2 hr0 ht0) ⟨⟨rfl,λ_=>h.tb⟩,⟨kD2 (h.z.k) hZ.r.blk (ne9 rfl) htb (ne9 rfl),⟨kD2 (h.z.k) hZ.r.blk (ne9 rfl) htb (ne9 rfl),⟨kD2 (h.z.k) hZ.r.blk (ne9 rfl) htb (ne9 rfl),trivial⟩⟩⟩⟩) ?_;clear F H A;intro x9 vv W A hR H F;obtain ⟨S100,a100,c100⟩:=x9;replace hR:ScD B _ v t r (S97.sec v) (S97.rdS v) S100 a100 c100 vv W:=hR;obtain ⟨rfl,hS100,hZ9,-,hP100⟩:=hR
   try dsimp only at H
   replace hZ:=hZ.step hZ9 (λ_ _=>trivial);clear hZ9;clear htb ht0;refine zd ?_;intro A F;let s101:Sl:={ts with pa:=a100,pc:=c100}
   let P102:Pk:={P98 with props:=(S97.sec v)}
   refine zs [_] ((Pk.cells P102 s101)) ?_;intro W H9 hk;replace hZ:=hZ.st (H.b.at_ (j:=1) rfl).1 (ne9 rfl) (ne9 rfl) (.inr trivial) hk;replace hP100:=hP100.propK hk (jq (H.b.at_ (j:=1) rfl).1 (jn _ _));clear H hk;have H:=H9;clear H9;refine nn (hK99 _ _) ?_;refine jC ?_;refine zd ?_;intro A F;refine j3 F rfl (jK rfl (F.e rfl)) ?_;intro A F
   iterate 2 (refine zd ?_;intro A F)
   refine jI (λ(x:Ts)=>[⟨t,68,#[(.pointer (some ⟨r,0,none⟩)),(.int .i64 v),(.bool x.b)]⟩,⟨q,34,(Pk.cells P102 s101)⟩,⟨hb,59,#[(.int .i64 k),(.int .u8 ((fl:Int))),(.int .i64 hh),(.int .i64 ((hrr:Int)))]⟩,⟨q4,34,jP⟩]) (RdD B _ r (.string S100.rest) S100.rdR) F rfl (j5 rfl rfl (j4 (F.e rfl) j8) jKy) (jKs hZ) (λS103 _ _ h=>Hp.re H (h.2.2.k) (ge1 hr0) ⟨⟨rfl,λhb=>by rw[show S103=_ from h.2.1];exact (kD1 (h.2.2.k) hZ.r.blk (ne9 rfl)).2 hb⟩,⟨kD1 (h.2.2.k) hZ.r.blk (ne9 rfl),⟨kD1 (h.2.2.k) hZ.r.blk (ne9 rfl),⟨kD1 (h.2.2.k) hZ.r.blk (ne9 rfl),trivial⟩⟩⟩⟩) ?_;clear F H A;intro S103 vv W A hR H F;obtain ⟨rfl,hS103,hZ9⟩:=hR
   try dsimp only at H
   replace hP100:=hP100.propK hZ9.k (vO1 hZ.r);replace hZ:=hZ.step hZ9 (λ_ _=>trivial);clear hZ9;obtain ⟨bC,cC,W9,hcv,hC,hkC,hgC⟩:=j9b W S100.l;have hC_q:q<bC:=Nat.lt_of_lt_of_le (H.b.at_ (j:=1) rfl).1.lt hgC;refine j3 (v:=.slice (some ⟨bC,0,none⟩) (S100.l).length cC) F rfl (q9 rfl (F.e rfl) hcv) ?_;intro A F;have hCl:=Nat.le_trans hZ.k.size hgC;replace H:=H.kept hkC;replace hZ:=hZ.no hkC;replace hP100:=hP100.keptNo hkC;clear hcv hkC hgC;generalize W9=W at *;refine zd ?_;intro A F;let s105:Sl:={s101 with ca:=(some ⟨bC,0,none⟩),cc:=cC}
   let P106:Pk:={P102 with codes:=S100.l}
   refine zs [_] ((Pk.cells P106 s105)) ?_;intro W H9 hk;replace hZ:=hZ.st (H.b.at_ (j:=1) rfl).1 (ne9 rfl) (ne9 rfl) (.inr trivial) hk;replace hP100:=hP100.propK hk (jq (H.b.at_ (j:=1) rfl).1 (jn _ _));replace hC:=hC.kept hk (λb9 o9 e9 _ h9=>by injection e9 with e9;injection e9 with e1;have h9:b9=q:=h9;omega);clear H hk;have H:=H9;clear H9;refine wpList_nil ?_;exact hK16 _ _ ⟨P106,s105,S103,((((F.nil.cons (F.g 9 _ rfl)).cons (F.g 8 _ rfl)).cons (F.g 5 _ rfl)).cons (F.g 4 _ rfl)),H,(by have hk9:=of_decide_eq_true hb95;subst hS103 hS100 hS97;rw[fk9 (v:=v) (f:=fl) (s:=S0) hk9]<;>rfl),λ_=>(by have hk9:=of_decide_eq_true hb95;subst hS103 hS100 hS97;rw[fk9 (v:=v) (f:=fl) (s:=S0) hk9]<;>rfl),hZ,⟨⟨xf rfl,zf rfl,hC,hP100⟩,(λh9=>by cases h9),λb9 off9=>⟨λ_ h9=>absurd rfl h9,λe9 _=>by injection e9 with e9;injection e9 with e1;rw[← e1];exact hCl⟩⟩⟩
  refine vS (λA W=>Fr A 254 [(4,(.pointer (some ⟨q4,0,none⟩))),(5,(.bool false)),(8,(.pointer (some ⟨q,0,none⟩))),(9,(.pointer (some ⟨t,0,none⟩))),(225,(.bool (decide (k=14∨k=15))))]∧Hp w W [⟨t,68,#[(.pointer (some ⟨r,0,none⟩)),(.int .i64 v),(.bool S0.b)]⟩,⟨q,34,(Pk.cells ((zk k)) ts)⟩,⟨hb,59,#[(.int .i64 k),(.int .u8 ((fl:Int))),(.int .i64 hh),(.int .i64 ((hrr:Int)))]⟩,⟨q4,34,jP⟩]∧(Rd B w1 (λ_=>True) r S0 W)) (λA W hM=>?_) (λK107 hK107=>?_)
  rotate_left
  ·skip
   refine sg λK108 hK108=>?_;refine zb (jG) ?_;intro A F;refine zd ?_;intro A F;refine nn (hK108 _ _) ?_;refine zc (λhb109=>?_) (λhb109=>?_)
   ·skip
    refine wp_skip ?_;exact hK107 _ _ ⟨(((((F.nil.cons (qI (F.g 225 _ rfl) (congrArg Value.bool (by have:=of_decide_eq_true hb109;rw[Bool.eq_iff_iff];simp only[dE9,true_iff];omega)))).cons (F.g 9 _ rfl)).cons (F.g 8 _ rfl)).cons (F.g 5 _ rfl)).cons (F.g 4 _ rfl)),H,hZ⟩
   refine jC ?_;refine zb (jG) ?_;intro A F;refine zd ?_;intro A F;refine wpList_nil ?_;exact hK107 _ _ ⟨(((((F.nil.cons (qI (F.g 225 _ rfl) (congrArg Value.bool (by have:=of_decide_eq_false hb109;rw[Bool.eq_iff_iff];simp only[dE9,true_iff];omega)))).cons (F.g 9 _ rfl)).cons (F.g 8 _ rfl)).cons (F.g 5 _ rfl)).cons (F.g 4 _ rfl)),H,hZ⟩
  clear F H;obtain ⟨F,H,hZ⟩:=hM;refine zc (λhb110=>?_) (λhb110=>?_)
  ·skip
   refine jC ?_;refine zd ?_;intro A F;obtain ⟨htb,ht0⟩:=H.b.at_ (j:=0) rfl;obtain ⟨hqb,hq0⟩:=H.b.at_ (j:=1) rfl;refine jI (λ(x:Ts × Pk × Sl)=>[⟨t,68,#[(.pointer (some ⟨r,0,none⟩)),(.int .i64 v),(.bool x.1.b)]⟩,⟨q,34,(Pk.cells x.2.1 x.2.2)⟩,⟨hb,59,#[(.int .i64 k),(.int .u8 ((fl:Int))),(.int .i64 hh),(.int .i64 ((hrr:Int)))]⟩,⟨q4,34,jP⟩]) (λx=>KcD B _ v t q r (qg v ((zk k)) S0) x.1 x.2.1 x.2.2) F rfl (j5 rfl rfl (j4 (F.e rfl) (j4 (F.e rfl) j8)) jKz) (j6x B w _ t q r v S0 ((zk k)) ts ⟨H.k,htb,ht0,(by intro y hy;simp at hy;subst hy;exact hqt),hqb,hq0,by simp,trivial⟩ hr0 hZ.r hZ.n ⟨rfl,xf rfl,rfl,rfl,⟨rfl,rfl⟩⟩) (λx9 _ _ h=>Hp.re H (h.z.k) (ge3 hr0 ht0 hq0) ⟨⟨rfl,λ_=>h.tb⟩,⟨⟨rfl,λ_=>h.qb⟩,⟨kD3 (h.z.k) hZ.r.blk (ne9 rfl) htb (ne9 rfl) hqb (ne9 rfl),⟨kD4 (h.z.k) hZ.r.blk (ne9 rfl) htb (ne9 rfl) hne_q4,trivial⟩⟩⟩⟩) ?_;clear F H A;intro x9 vv W A hR H F;obtain ⟨S111,P111,s111⟩:=x9;replace hR:KcD B _ v t q r (qg v ((zk k)) S0) S111 P111 s111 vv W:=hR;obtain ⟨rfl,hS111,hP111,hZ9,-,-,hPw111,hPp111,hnf111,hnc111,hsc111⟩:=hR
   try dsimp only at H
   replace hZ:=hZ.step hZ9 (λ_ _=>trivial);clear hZ9;clear htb ht0;clear hqb hq0;refine wpList_nil ?_;exact hK16 _ _ ⟨P111,s111,S111,((((F.nil.cons (F.g 9 _ rfl)).cons (F.g 8 _ rfl)).cons (F.g 5 _ rfl)).cons (F.g 4 _ rfl)),H,(by have hk9:=of_decide_eq_true hb110;subst hP111 hS111;rw[jM2 (v:=v) (f:=fl) (s:=S0) hk9]<;>rfl),λ_=>(by have hk9:=of_decide_eq_true hb110;subst hP111 hS111;rw[jM2 (v:=v) (f:=fl) (s:=S0) hk9]<;>rfl),hZ,⟨⟨hPw111,zf hnf111,ze hnc111,hPp111⟩,λ_=>⟨by rw[hnc111];rfl,hsc111.2⟩,λb9 off9=>⟨λ_ h9=>absurd hnf111 h9,λ_ h9=>absurd hnc111 h9⟩⟩⟩
  refine wp_skip ?_;exact hK16 _ _ ⟨(zk k),ts,S0,((((F.nil.cons (F.g 9 _ rfl)).cons (F.g 8 _ rfl)).cons (F.g 5 _ rfl)).cons (F.g 4 _ rfl)),H,(congrArg Prod.snd (fk0 (v:=v) (f:=fl) (s:=S0) (of_decide_eq_false hb19) (of_decide_eq_false hb22) (of_decide_eq_false hb35) (of_decide_eq_false hb62) (of_decide_eq_false hb70) (of_decide_eq_false hb95) (of_decide_eq_false hb110))).symm,λ_=>(congrArg Prod.fst (fk0 (v:=v) (f:=fl) (s:=S0) (of_decide_eq_false hb19) (of_decide_eq_false hb22) (of_decide_eq_false hb35) (of_decide_eq_false hb62) (of_decide_eq_false hb70) (of_decide_eq_false hb95) (of_decide_eq_false hb110))).symm,hZ,⟨⟨xf rfl,zf rfl,ze rfl,xf rfl⟩,λ_=>⟨rfl,rfl⟩,λb9 off9=>⟨λ_ h9=>absurd rfl h9,λ_ h9=>absurd rfl h9⟩⟩⟩
 clear F H;obtain ⟨P9,s9,S9,F,H,hKs,hKp,hZ,hA⟩:=hM;have h4b:=(H.b.at_ (j:=3) rfl).1;obtain ⟨w9,hw9⟩:∃ w9:World,w9=W:=⟨_,rfl⟩
 have hA9:Aw w1.heap.size P9 s9 w9:=by rw[hw9];exact hA
 have hU9:∀ i,Tt q4 r i→∃ ty c,Blk w9 i ty c∧NoU c:=by rw[hw9];exact vO2 hZ.r h4b (jn (zk 0) ts)
 replace hZ:Rd B w9 (Tt q4 r) r S9 W:=⟨hZ.n,hZ.r,by rw[hw9];exact Kept.refl _ _⟩;clear hw9 hA h4b;refine wp_seq_k λK112 hK112=>?_;refine sg λK113 hK113=>?_;refine zd ?_;intro A F;refine j3 F rfl (jK rfl (F.e rfl)) ?_;intro A F
 iterate 3 (refine zd ?_;intro A F)
 refine zg ?_;intro A F;refine q6 F rfl (jv F rfl rfl rfl) (λhG=>(jK rfl (F.o rfl hG))) ?_;intro A F;refine zB F rfl rfl (jv F rfl rfl rfl) rfl rfl (λhG=>(F.o rfl hG)) (j4b _ _ _) (jCn _) (H.c 0 rfl rfl) ?_;intro A F;refine q6 F rfl (jv F rfl rfl rfl) (λhG=>(jK rfl (F.o rfl hG))) ?_;intro A F;refine zB F rfl rfl (jv F rfl rfl rfl) rfl rfl (λhG=>(F.o rfl hG)) (j84 _ _ _) (j4q _) (hZ.r.c2) ?_;intro A F;refine zgb (vn) ?_;intro A F;refine j3 F rfl (jN rfl (F.e rfl) (λhx=>(F.o rfl (gnt hx))) rfl) ?_;intro A F;refine zd ?_;intro A F;refine zg ?_;intro A F;refine q6 F rfl (jv F rfl rfl rfl) (λhG=>(jK rfl (F.o rfl hG))) ?_;intro A F;refine zB F rfl rfl (jv F rfl rfl rfl) rfl rfl (λhG=>(F.o rfl hG)) (j4b _ _ _) (jCn _) (H.c 0 rfl rfl) ?_;intro A F;refine jl F H rfl (jv F rfl rfl rfl) (λhG=>(j5 rfl rfl (j4 (F.o rfl hG) j8) jD1)) (λhG=>jFp hZ) ?_;clear F H A;intro W A hk H F;replace hZ:=hZ.no hk;clear hk;refine zgb (qa (i:=S9.l.length) (j:=0)) ?_;intro A F;refine j3 F rfl (jN rfl (F.e rfl) (λhx=>(F.o rfl (gnt hx))) rfl) ?_;intro A F;refine nn (hK113 _ _) ?_;refine zc (λhb115=>?_) (λhb115=>?_)
 ·skip
  refine sg λK116 hK116=>?_;refine j3 (v:=(Pk.val ((zk 0)) ts)) F rfl (jV rfl js (by kernel_rfl)) ?_;intro A F;obtain ⟨W9,hr,hB,hk⟩:=j7 (P:=Tryz.prog) (S:=34) (c:=(Pk.cells ((zk 0)) ts)) _ (H.b.at_ (j:=3) rfl).1 (jS _) rfl (jO _ _);replace hZ:=hZ.st (H.b.at_ (j:=3) rfl).1 (ne9 rfl) (ne9 rfl) (.inr (.inl rfl)) hk;refine jW (jD rfl (F.e rfl) (F.e rfl) hr) ?_;clear hr;replace H:Hp _ _ [_,_,_,_]:=Hp.turn [_,_,_] H hk hB;clear hk hB;refine zd ?_;intro A F;refine nn (hK116 _ _) ?_;refine j9 ?_;refine (show bodyPost _ Tryz.f7 RR Exit.ret _ _ from ?_);exact bodyPost_ret (qV rfl (F.g 4 _ rfl) (F.g 5 _ rfl) (jE ((Pk.cells ((zk 0)) ts)) rfl (jr _) (jS _) (λi=>H.cs 3 rfl i))) F.d ((by have hF:=jGu (v:=v) (K:=qR v k fl S0) he (by rw[hS0]) (by rw[← hKs,← jLk];exact hb115);have hP:=j0w hF;exact ⟨_,rfl,⟨ts,(by first|(rw[hP,hF];done)|(rw[hP,hF];rfl)),by rw[hP];exact Aw.zero _ _⟩,H.k⟩))
 refine wp_skip (hK112 _ _ ?_);refine sg λK117 hK117=>?_;refine j3 F rfl (jB rfl (F.e rfl) (jE ((Pk.cells P9 s9)) rfl (jr _) (jS _) (λi=>H.cs 1 rfl i))) ?_;intro A F;obtain ⟨W9,hr,hB,hk⟩:=j7 (P:=Tryz.prog) (S:=34) (c:=(Pk.cells P9 s9)) _ (H.b.at_ (j:=3) rfl).1 (jS _) rfl (jO _ _);replace hZ:=hZ.st (H.b.at_ (j:=3) rfl).1 (ne9 rfl) (ne9 rfl) (.inr (.inl rfl)) hk;refine jW (jD rfl (F.e rfl) (F.e rfl) hr) ?_;clear hr;replace H:Hp _ _ [_,_,_,_]:=Hp.turn [_,_,_] H hk hB;clear hk hB;refine zd ?_;intro A F;refine nn (hK117 _ _) ?_;refine j9 ?_;refine (show bodyPost _ Tryz.f7 RR Exit.ret _ _ from ?_);exact bodyPost_ret (qV rfl (F.g 4 _ rfl) (F.g 5 _ rfl) (jE ((Pk.cells P9 s9)) rfl (jr _) (jS _) (λi=>H.cs 3 rfl i))) F.d ((by have hb9:S9.b=false:=(by have h9:=hb115;revert h9;cases S9.b<;>simp);have hF:=jGv (v:=v) (K:=qR v k fl S0) he hq (by rw[hS0]) (by rw[← hKs,← jLk];exact hb115);rw[← hKp hb9]at hF;exact ⟨_,rfl,⟨s9,(by first|(rw[hF.1,hF.2];done)|(rw[hF.1,hF.2];rfl)),by rw[hF.2];exact hA9.keep9 hZ.k hU9 h41 hr1 hw1s⟩,H.k⟩))
theorem jGo (k:Int) (n:Nat) (S:Ts):(qc k n S).1.length≤n:=(j85 k n S).1
theorem jIq (v:Int) (S:Ts):(zq v S).1.filters=[]:=by
 unfold zq j2u zU z8;dsimp only
 repeat' split
 all_goals rfl
theorem jAm (v:Int) (p:Pk) (S:Ts):(qg v p S).1.filters=p.filters:=by
 unfold qg
 repeat' split
 all_goals rfl
theorem jE4 (v k:Int) (f:Nat) (S:Ts):(qR v k f S).1.filters.length≤S.l.length:=by
 unfold qR
 split
 ·rw[jIq];exact Nat.zero_le _
 split
 ·exact Nat.zero_le _
 split
 ·exact Nat.zero_le _
 split
 ·rw[jAm];exact Nat.zero_le _
 split
 ·exact Nat.le_trans (jGo k _ _) (Nat.le_trans (jHk _ _) (j7f _ _))
 split
 ·exact Nat.zero_le _
 split
 ·rw[jAm];exact Nat.zero_le _
 ·exact Nat.zero_le _
theorem j2g (k:Int):∀ (L:List Fi),(∀ f∈L,f.text.size≤100000)→qU k L≤L.length*100003
 | [],_=>by simp[qU]
 | f :: L,h=>by
  have h1:=j2g k L (λg hg=>h g (List.mem_cons_of_mem _ hg));have h2:=h f (List.mem_cons_self ..);simp only[qU,List.length_cons]
  split<;>omega
theorem jDq {v:Int} {L:List Pr} (h:Lok L):j1p v L≤100001:=by
 have:=h.s
 unfold j1p
 split<;>omega
theorem jLj {v:Int} {l:List UInt8} (hl:l.length≤500):xC v (qK v l)≤268435455:=by
 have h:=xd (v:=v) (l:=l) (by omega)
 have hf:(qK v l).filters.length≤500:=by
  unfold qK
  split
  ·refine Nat.le_trans (jE4 _ _ _ _) ?_
   simp only[List.length_drop];omega
  ·exact Nat.zero_le _
 generalize qK v l=p at *;have s1:=jDq (v:=v) h.props;have s2:=jDq (v:=v) h.wprops;have h1:=h.client;have h2:=h.willTopic;have h3:=h.willLoad;have h4:=h.user;have h5:=h.pass;have h6:=h.topic;have h7:=h.load;have h9:=h.nc;have hF:=j2g p.kind p.filters (λf hf=>(h.tf f hf).2);have hS:z7 v p≤100002:=by unfold z7;(repeat' split)<;>omega
 have hC:qx v p≤2000000:=by unfold qx;(repeat' split)<;>omega
 unfold xC
 repeat' split
 all_goals omega
theorem jJz {v:Int} {b:Bool} (h:((!decide (v=4))&&(!decide (v=5)))=b):(!(decide (v=4)||decide (v=5)))=b:=by rw[Bool.not_or];exact h
theorem j8p (v:Int) (a:Option Addr) (c:Nat) (l:List UInt8) (w:World) (hr:Row w a (B8 l)) (hn:a=none→l.length=0∧c=0) (hc:l.length≤c) (hl:l.length≤500) :
  Calls Tryz.prog 5 #[.int .i64 v,.slice a l.length c] w λe w'=>∃ u,e=.returned u∧jDv w.heap.size v l u w'∧Kept No w w':=by
 let RR:Ending→World→Prop:=λe w'=>∃ u,e=.returned u∧jDv w.heap.size v l u w'∧Kept No w w'
 go_enter Tryz.func5,Tryz.ntmps5
 generalize hA:({tmps:=_,defers:=[]}:Act)=A;have F:Fr A 30 [(1,(.slice a l.length c)),(0,(.int .i64 v))]:=by rw[← hA];exact (Fr.cons (i:=1) (v:=(.slice a l.length c)) (Fr.cons (i:=0) (v:=(.int .i64 v)) (Fr.nil0 rfl rfl) rfl) rfl)
 clear hA;have H:=Hp.start w;refine sg λK1 hK1=>?_;refine ja (c:=jP) (t:=34) F H rfl (jY rfl (xj _)) ?_;clear F A;intro q4 W A hk hN H9 F;clear H;have H:=H9;clear H9;clear hk hN;refine zd ?_;intro A F;refine nn (hK1 _ _) ?_;refine wp_seq_k λK2 hK2=>?_;refine sg λK3 hK3=>?_;refine zd ?_;intro A F;refine zb (vn) ?_;intro A F;refine zd ?_;intro A F;refine zg ?_;intro A F;refine zgb (vn) ?_;intro A F;refine j3 F rfl (jJ rfl (F.e rfl) (λhx=>(F.o rfl hx)) rfl) ?_;intro A F;refine nn (hK3 _ _) ?_;refine zc (λhb4=>?_) (λhb4=>?_)
 ·skip
  refine sg λK5 hK5=>?_;refine j3 (v:=(Pk.val ((zk 0)) ts)) F rfl (jV rfl js (by kernel_rfl)) ?_;intro A F;obtain ⟨W9,hr,hB,hk⟩:=j7 (P:=Tryz.prog) (S:=34) (c:=(Pk.cells ((zk 0)) ts)) _ (H.b.at_ (j:=0) rfl).1 (jS _) rfl (jO _ _);refine jW (jD rfl (F.e rfl) (F.e rfl) hr) ?_;clear hr;replace H:Hp _ _ [_]:=Hp.turn [] H hk hB;clear hk hB;refine zd ?_;intro A F;refine nn (hK5 _ _) ?_;refine j9 ?_;refine (show bodyPost _ Tryz.f5 RR Exit.ret _ _ from ?_);exact bodyPost_ret (qV rfl (F.g 4 _ rfl) (F.g 5 _ rfl) (jE ((Pk.cells ((zk 0)) ts)) rfl (jr _) (jS _) (λi=>H.cs 0 rfl i))) F.d ((by have hD:=jCs (l:=l) (jJz hb4);exact ⟨_,rfl,⟨ts,(by first|(rw[hD.1,hD.2];done)|(rw[hD.1,hD.2];rfl)),by rw[hD.2];exact Aw.zero _ _⟩,H.k⟩))
 refine wp_skip (hK2 _ _ ?_);refine sg λK6 hK6=>?_
 iterate 2 (refine zd ?_;intro A F)
 have hl4:=(H.b.at_ (j:=0) rfl).1.lt;have hs9:=H.size;refine vE (R:=j3l W.heap.size v l) F H rfl (j5 rfl rfl (j4 (F.e rfl) (j4 (F.e rfl) j8)) jOm) (j5x v a c l _ (hr.keptNo H.k) hn hc (by omega)) ?_;clear F H A;intro vv W A hR hk H F;obtain ⟨s7,rfl,hA⟩:=hR;clear hk;obtain ⟨w9,KA,hA,hq4b⟩:∃ w1,Kept No w1 W∧Aw _ (qK v l) s7 w1∧Blk w1 q4 34 jP:=⟨W,Kept.refl No W,hA,(H.b.at_ (j:=0) rfl).1⟩
 iterate 3 (refine zd ?_;intro A F)
 refine ja (c:=jP) (t:=34) F H rfl (jY rfl (xj _)) ?_;clear F A;intro p6 W A hk hN H9 F;clear H;have H:=H9;clear H9;have hN_KA_p6:=Nat.le_trans KA.size hN;replace KA:=KA.trans hk;clear hk hN;obtain ⟨W9,hr,hB,hk⟩:=j7 (P:=Tryz.prog) (S:=34) (c:=(Pk.cells ((qK v l)) s7)) _ (H.b.at_ (j:=0) rfl).1 (jS _) rfl (jO _ _);refine jW (jD rfl (F.e rfl) (F.e rfl) hr) ?_;clear hr;replace H:Hp _ _ [_,_]:=Hp.turn [] H hk hB;replace KA:=KA.then hk (λi9 hi9 e9=>by have e9:i9=p6:=e9;have:=hN_KA_p6;omega);clear hk hB;refine zd ?_;intro A F;refine nn (hK6 _ _) ?_;refine wp_seq_k λK8 hK8=>?_;refine sg λK9 hK9=>?_
 iterate 2 (refine zd ?_;intro A F)
 refine nn (hK9 _ _) ?_;refine zc (λhb10=>?_) (λhb10=>?_)
 ·skip
  replace F:=((((F.nil.cons (F.g 6 _ rfl)).cons (F.g 5 _ rfl)).cons (F.g 4 _ rfl)).cons (F.g 0 _ rfl))
  refine sg λK11 hK11=>?_;refine j3 (v:=(Pk.val ((zk 0)) ts)) F rfl (jV rfl js (by kernel_rfl)) ?_;intro A F;obtain ⟨W9,hr,hB,hk⟩:=j7 (P:=Tryz.prog) (S:=34) (c:=(Pk.cells ((zk 0)) ts)) _ (H.b.at_ (j:=1) rfl).1 (jS _) rfl (jO _ _);refine jW (jD rfl (F.e rfl) (F.e rfl) hr) ?_;clear hr;replace H:Hp _ _ [_,_]:=Hp.turn [_] H hk hB;clear hk hB;refine zd ?_;intro A F;refine nn (hK11 _ _) ?_;refine j9 ?_;refine (show bodyPost _ Tryz.f5 RR Exit.ret _ _ from ?_);exact bodyPost_ret (qV rfl (F.g 4 _ rfl) (F.g 5 _ rfl) (jE ((Pk.cells ((zk 0)) ts)) rfl (jr _) (jS _) (λi=>H.cs 1 rfl i))) F.d ((by have hD:=j9c (l:=l) (jJz hb4) hb10;exact ⟨_,rfl,⟨ts,(by first|(rw[hD.1,hD.2];done)|(rw[hD.1,hD.2];rfl)),by rw[hD.2];exact Aw.zero _ _⟩,H.k⟩))
 replace F:=((((F.nil.cons (F.g 6 _ rfl)).cons (F.g 5 _ rfl)).cons (F.g 4 _ rfl)).cons (F.g 0 _ rfl))
 refine wp_skip (hK8 _ _ ?_);refine wp_seq_k λK12 hK12=>?_;refine sg λK13 hK13=>?_;refine zd ?_;intro A F;refine j3 F rfl (jB rfl (F.e rfl) (jE ((Pk.cells ((qK v l)) s7)) rfl (jr _) (jS _) (λi=>H.cs 0 rfl i))) ?_;intro A F;refine jU F H rfl (j5 rfl rfl (j4 (F.e rfl) (j4 (F.e rfl) j8)) jNs) (j8s v (qK v l) s7 _ (hA.at_.kept KA) (xd (by omega)).fit hA.sc) ?_;clear F H A;intro W A hk H F;replace KA:=KA.trans hk;clear hk;refine zd ?_;intro A F;refine nn (hK13 _ _) ?_;refine zc (λhb15=>?_) (λhb15=>?_)
 ·skip
  refine sg λK16 hK16=>?_;refine j3 (v:=(Pk.val ((zk 0)) ts)) F rfl (jV rfl js (by kernel_rfl)) ?_;intro A F;obtain ⟨W9,hr,hB,hk⟩:=j7 (P:=Tryz.prog) (S:=34) (c:=(Pk.cells ((zk 0)) ts)) _ (H.b.at_ (j:=1) rfl).1 (jS _) rfl (jO _ _);refine jW (jD rfl (F.e rfl) (F.e rfl) hr) ?_;clear hr;replace H:Hp _ _ [_,_]:=Hp.turn [_] H hk hB;clear hk hB;refine zd ?_;intro A F;refine nn (hK16 _ _) ?_;refine j9 ?_;refine (show bodyPost _ Tryz.f5 RR Exit.ret _ _ from ?_);exact bodyPost_ret (qV rfl (F.g 4 _ rfl) (F.g 5 _ rfl) (jE ((Pk.cells ((zk 0)) ts)) rfl (jr _) (jS _) (λi=>H.cs 1 rfl i))) F.d ((by have hD:=j6y (l:=l) (jJz hb4) hb10 (by rw[jAe v _ (xd (by omega)).fit.opt (jLj hl)];exact hb15);exact ⟨_,rfl,⟨ts,(by first|(rw[hD.1,hD.2];done)|(rw[hD.1,hD.2];rfl)),by rw[hD.2];exact Aw.zero _ _⟩,H.k⟩))
 refine wp_skip (hK12 _ _ ?_);refine sg λK17 hK17=>?_;refine j3 F rfl (jB rfl (F.e rfl) (jE ((Pk.cells ((qK v l)) s7)) rfl (jr _) (jS _) (λi=>H.cs 0 rfl i))) ?_;intro A F;obtain ⟨W9,hr,hB,hk⟩:=j7 (P:=Tryz.prog) (S:=34) (c:=(Pk.cells ((qK v l)) s7)) _ (H.b.at_ (j:=1) rfl).1 (jS _) rfl (jO _ _);refine jW (jD rfl (F.e rfl) (F.e rfl) hr) ?_;clear hr;replace H:Hp _ _ [_,_]:=Hp.turn [_] H hk hB;replace KA:=j8e KA hk;clear hk hB;refine zd ?_;intro A F;refine nn (hK17 _ _) ?_;refine j9 ?_;refine (show bodyPost _ Tryz.f5 RR Exit.ret _ _ from ?_);exact bodyPost_ret (qV rfl (F.g 4 _ rfl) (F.g 5 _ rfl) (jE ((Pk.cells ((qK v l)) s7)) rfl (jr _) (jS _) (λi=>H.cs 1 rfl i))) F.d ((by have hD:=jFq (l:=l) (jJz hb4) hb10 (by rw[jAe v _ (xd (by omega)).fit.opt (jLj hl)];exact hb15);exact ⟨_,rfl,⟨s7,(by first|(rw[hD.1,hD.2];done)|(rw[hD.1,hD.2];rfl)),by rw[hD.2];exact hA.fin KA hq4b (jn (zk 0) ts) hl4 hs9⟩,H.k⟩))
end Go.Proofs.YtnehnjklgglliaaGreatDoor
