import Derived.Test.YtnehnjklgglliaaGreatDoorYG3
import Derived.Test.YtnehnjklgglliaaGreatDoorYFM
namespace Go.Proofs.YtnehnjklgglliaaGreatDoor
set_option maxHeartbeats 4000000
open Go.RowKit
set_option linter.unusedVariables false
set_option linter.unusedSimpArgs false
set_option maxRecDepth 100000
theorem jIs (n:Nat) (w:World) (h:n<9223372036854775808):(convert 71 3 (.int .u64 (n:Int))).run Tryz.prog w=.ok (.int .i64 (n:Int)) w:=by
 have u:=Tryz.underlying3;have u2:=Tryz.underlying71;have e:IntKind.i64.wrap (n:Int)=n:=jH (by omega) (by omega)
 go_simp
 try exact e
theorem jPy {B:ByteArray} {w W:World} {T:Nat→Prop} {r:Nat} {S:Ts} (h:Rd B w T r S W):Calls Tryz.prog 56 #[.pointer (some ⟨r,0,none⟩)] W λe w'=>∃ u S1,e=.returned u∧RdD B W r (.int .u32 (S.var:Int)) S.rdV S1 u w' :=
 (j25 W r B S.l S.e h.r).mono λe w' q=>⟨_,_,q.1,rfl,rfl,Nat.le_trans (jHl _) h.n,q.2.rdr,q.2.kept⟩
theorem RefR.c2 {w:World} {r:Nat} {B:ByteArray} {l:List UInt8} {e:Int} (h:RefR w r B l e):w.cell? ⟨r,2,none⟩=some (.int .i64 e):=by
 obtain ⟨a,hb,_⟩:=h;simpa using hb.cell 2
theorem RefR.c1 {w:World} {r:Nat} {B:ByteArray} {l:List UInt8} {e:Int} (h:RefR w r B l e) (he:e=0):w.cell? ⟨r,1,none⟩=some (.int .i64 ((B.size:Int) - (l.length:Int))):=by
 obtain ⟨a,hb,h1,h2,h3,_⟩:=h;have h4:l.length=B.size - a:=by rw[h3 he,List.length_drop,Array.length_toList];rfl
 have h5:((B.size:Int) - (l.length:Int))=(a:Int):=by omega
 rw[h5];simpa using hb.cell 1
theorem jDp:∀ (f i n:Nat) (l:List UInt8),f≤l.length→(rv f i n (l.take f) 0).1=(rv f i n l 0).1∧(rv f i n (l.take f) 0).2.2=(rv f i n l 0).2.2∧((rv f i n l 0).2.2=0→(rv f i n (l.take f) 0).2.1.length+(l.length - f)=(rv f i n l 0).2.1.length)
 | 0,i,n,l,_=>⟨rfl,rfl,λh=>by cases h⟩
 | f+1,i,n,[],h=>by simp at h
 | f+1,i,n,c :: t,h=>by
  have hf:f≤t.length:=by simpa using h
  have ih:=λi n=>jDp f i n t hf
  have t1:∀ x:List UInt8,jL 1 (c :: x) 0=[c]:=λx=>by unfold jL;rw[if_pos ⟨rfl,by decide,by simp only[List.length_cons];omega⟩];rfl
  have l1:∀ x:List UInt8,jX 1 (c :: x) 0=x:=λx=>by unfold jX;rw[if_pos rfl,if_pos ⟨by decide,by simp only[List.length_cons];omega⟩];rfl
  have e1:∀ x:List UInt8,jT 1 (c :: x) 0=0:=λx=>by unfold jT;rw[if_pos rfl,if_pos ⟨by decide,by simp only[List.length_cons];omega⟩]
  rw[List.take_succ_cons]
  by_cases h1:128≤num [c]
  ·rw[j4j (e1 _) (by rw[t1];exact h1),j4j (e1 _) (by rw[t1];exact h1),t1,t1,l1,l1,e1,e1]
   have:=ih (i+1) (n+num [c] % 128*128 ^ i)
   refine ⟨this.1,this.2.1,λh9=>?_⟩;have h8:=this.2.2 h9;simp only[List.length_cons];omega
  ·by_cases h2:num [c]=0∧0<i
   ·rw[j4l (e1 _) (by rw[t1];exact h2.1) h2.2,j4l (e1 _) (by rw[t1];exact h2.1) h2.2]
    exact ⟨rfl,rfl,λh=>by cases h⟩
   ·rw[j4i (e1 _) (by rw[t1];omega) (by rw[t1];exact h2),j4i (e1 _) (by rw[t1];omega) (by rw[t1];exact h2),t1,t1,l1,l1,e1,e1]
    refine ⟨rfl,rfl,λ_=>?_⟩;simp only[List.length_take,List.length_cons];omega
theorem zx (l:List UInt8):vK l=(j0k l).2.2∧((j0k l).2.2=0→qL l=⟨((num (jL 1 l 0) / 16:Nat):Int),num (jL 1 l 0) % 16,(l.length:Int) - ((j0k l).2.1.length:Int),(j0k l).1⟩):=by
 by_cases h5:l.length≤5
 ·have e:l.take 5=l:=List.take_of_length_le h5
  have hE:vK l=(j0k l).2.2:=by unfold vK;rw[e]
  refine ⟨hE,λh=>?_⟩;unfold qL;rw[if_pos (hE.trans h),e]
 ·obtain ⟨c,t,rfl⟩:∃ c t,l=c :: t:=by
   cases l with
   | nil=>simp at h5
   | cons c t=>exact ⟨c,t,rfl⟩
  have ht:4≤t.length:=by simp at h5;omega
  have t1:∀ x:List UInt8,jL 1 (c :: x) 0=[c]:=λx=>by unfold jL;rw[if_pos ⟨rfl,by decide,by simp only[List.length_cons];omega⟩];rfl
  have l1:∀ x:List UInt8,jX 1 (c :: x) 0=x:=λx=>by unfold jX;rw[if_pos rfl,if_pos ⟨by decide,by simp only[List.length_cons];omega⟩];rfl
  have e1:∀ x:List UInt8,jT 1 (c :: x) 0=0:=λx=>by unfold jT;rw[if_pos rfl,if_pos ⟨by decide,by simp only[List.length_cons];omega⟩]
  have h9:=jDp 4 0 0 t ht;have hS:∀ x,j0k (c :: x)=rv 4 0 0 x 0:=λx=>by unfold j0k;rw[l1,e1]
  have hE:vK (c :: t)=(j0k (c :: t)).2.2:=by
   unfold vK;rw[List.take_succ_cons,hS,hS];exact h9.2.1
  refine ⟨hE,λh=>?_⟩;have h8:=h9.2.2 (by rw[hS]at h;exact h);unfold qL;rw[if_pos (hE.trans h),List.take_succ_cons,hS,hS,t1,t1,h9.1]
  congr 1
  simp only[List.length_cons,List.length_take];omega
theorem jBr (a:Option Addr) (c:Nat) (l:List UInt8) (w:World) (hr:Row w a (B8 l)) (hn:a=none→l.length=0∧c=0) (hl:l.length≤100000):Calls Tryz.prog 20 #[.slice a l.length c] w λe w'=>e=.returned (.tuple #[.agg #[.int .i64 (qL l).kind,.int .u8 ((qL l).flags:Int),.int .i64 (qL l).head,.int .i64 ((qL l).rest:Int)],.int .i64 (vK l)])∧Kept No w w':=by
 let RR:Ending→World→Prop:=λe w'=>e=.returned (.tuple #[.agg #[.int .i64 (qL l).kind,.int .u8 ((qL l).flags:Int),.int .i64 (qL l).head,.int .i64 ((qL l).rest:Int)],.int .i64 (vK l)])∧Kept No w w'
 go_enter Tryz.func20,Tryz.ntmps20
 generalize hA:({tmps:=_,defers:=[]}:Act)=A;have F:Fr A 38 [(0,(.slice a l.length c))]:=by rw[← hA];exact (Fr.cons (i:=0) (v:=(.slice a l.length c)) (Fr.nil0 rfl rfl) rfl)
 clear hA;have H:=Hp.start w;refine sg λK1 hK1=>?_;refine ja (c:=#[(.int .i64 0),(.int .u8 0),(.int .i64 0),(.int .i64 0)]) (t:=59) F H rfl (jY rfl (jKn _)) ?_;clear F A;intro hb W A hk hN H9 F;clear H;have H:=H9;clear H9;clear hk hN;refine zd ?_;intro A F;refine nn (hK1 _ _) ?_;refine sg λK2 hK2=>?_;refine zd ?_;intro A F;refine j3 F rfl (q9 rfl (F.e rfl) (jCb (Lib.hid rfl) (hr.keptNo H.k) c (λh=>(hn h).2))) ?_;intro A F;refine j3 (v:=(.agg #[(.string ((⟨l.toArray⟩:ByteArray))),(.int .i64 0),(.int .i64 0)])) F rfl (jV rfl (j6 (F.e rfl) js) (by kernel_rfl)) ?_;intro A F;refine ja (c:=#[(.string ((⟨l.toArray⟩:ByteArray))),(.int .i64 0),(.int .i64 0)]) (t:=66) F H rfl (qO rfl (F.e rfl) (qP _ _)) ?_;clear F A;intro r W A hk hN H9 F;clear H;have H:=H9;clear H9;clear hk hN;refine zd ?_;intro A F;refine nn (hK2 _ _) ?_;refine wp_seq_k λK3 hK3=>?_;obtain ⟨hrb,hr0⟩:=H.b.at_ (j:=0) rfl;obtain ⟨B,hB⟩:∃ B:ByteArray,B=⟨l.toArray⟩:=⟨_,rfl⟩
 have hBs:B.size=l.length:=by rw[hB,vo]
 obtain ⟨S0,hS0⟩:∃ S0:Ts,S0=⟨l,0,false⟩:=⟨_,rfl⟩
 have hRf:RefR _ r B S0.l S0.e:=⟨0,by rw[hB,hS0];exact hrb,Nat.zero_le _,by omega,λ_=>by rw[hB,hS0];simp,λh=>absurd (by rw[hS0]) h⟩
 have hZ:Rd B w (λ_=>True) r S0 _:=⟨by rw[hS0];exact hl,hRf,H.k.mono (λ_ _ f=>f.elim)⟩
 replace H:=H.tl;clear hRf hrb;have hn8:=ql S0;refine jC ?_;refine zd ?_;intro A F;refine jI (λ(x:Ts)=>[⟨hb,59,#[(.int .i64 0),(.int .u8 0),(.int .i64 0),(.int .i64 0)]⟩]) (RdD B _ r (.int .u64 ((S0.num 1:Int))) (S0.rd 1)) F rfl (j5 rfl rfl (j4 (F.e rfl) (j4 jA j8)) j0j) (j40 1 (by decide) (by decide) hZ) (λS4 _ _ h=>Hp.re H (h.2.2.k) (ge1 hr0) ⟨kD1 (h.2.2.k) hZ.r.blk (ne9 rfl),trivial⟩) ?_;clear F H A;intro S4 vv W A hR H F;obtain ⟨rfl,hS4,hZ9⟩:=hR
 try dsimp only at H
 replace hZ:=hZ.step hZ9 (λ_ _=>trivial);clear hZ9;refine j3 (v:=(.int .i64 ((S0.num 1:Int)))) F rfl (q9 rfl (F.e rfl) (jIs _ _ (by omega))) ?_;intro A F;refine zd ?_;intro A F;refine nn (hK3 _ _) ?_;refine sg λK5 hK5=>?_;refine zd ?_;intro A F;refine jI (λ(x:Ts)=>[⟨hb,59,#[(.int .i64 0),(.int .u8 0),(.int .i64 0),(.int .i64 0)]⟩]) (RdD B _ r (.int .u32 ((S4.var:Int))) S4.rdV) F rfl (j5 rfl rfl (j4 (F.e rfl) j8) jOe) (jPy hZ) (λS6 _ _ h=>Hp.re H (h.2.2.k) (ge1 hr0) ⟨kD1 (h.2.2.k) hZ.r.blk (ne9 rfl),trivial⟩) ?_;clear F H A;intro S6 vv W A hR H F;obtain ⟨rfl,hS6,hZ9⟩:=hR
 try dsimp only at H
 replace hZ:=hZ.step hZ9 (λ_ _=>trivial);clear hZ9;refine zd ?_;intro A F;refine nn (hK5 _ _) ?_;refine wp_seq_k λK7 hK7=>?_;refine sg λK8 hK8=>?_;refine zd ?_;intro A F;refine j3 F rfl (jK rfl (F.e rfl)) ?_;intro A F;refine jH2 F rfl rfl (F.e rfl) (j84 _ _ _) (j4q _) (hZ.r.c2) ?_;intro A F;refine zb (vn) ?_;intro A F;refine nn (hK8 _ _) ?_;refine zc (λhb9=>?_) (λhb9=>?_)
 ·skip
  replace F:=(((((F.nil.cons (F.g 6 _ rfl)).cons (F.g 5 _ rfl)).cons (F.g 4 _ rfl)).cons (F.g 3 _ rfl)).cons (F.g 2 _ rfl))
  refine wp_seq_k λK10 hK10=>?_;refine wp_region_held_drew (S:=λwx=>∃ c9,Hp _ wx [⟨hb,59,c9⟩]) (by kernel_rfl) ⟨_,H.drew⟩ (λH9=>?_);clear H9;replace H:=H.drew;replace hZ:=hZ.no (Kept.refl No _).drew;generalize World.drew _=W at *;refine jR (v:=(.agg #[(.int .i64 0),(.int .u8 0),(.int .i64 0),(.int .i64 0)])) (i:=0) F rfl rfl (by kernel_rfl) (λ_ _ _ h=>h) (⟨_,H⟩) (λwz ⟨c9,H⟩=>(jV rfl js (by kernel_rfl))) ?_;intro A F;refine td 1 ?_;intro A F;refine jR (v:=(.pointer (some ⟨r,0,none⟩))) (i:=2) F rfl rfl (by kernel_rfl) (λ_ _ _ h=>h) (⟨_,H⟩) (λwz ⟨c9,H⟩=>(jK rfl (F.e rfl))) ?_;intro A F;refine td 3 ?_;intro A F;refine zj (i:=4) (j:=5) (by kernel_rfl) ?_ ?_
  ·skip
   refine xO (v:=(.int .i64 S6.e)) (i:=4) F rfl rfl (jB rfl (F.e rfl) (qE (j4q _) (hZ.r.c2))) (⟨_,H⟩) ?_;intro A F;obtain ⟨W9,hr,hB,hk⟩:=j7 (P:=Tryz.prog) (S:=59) (c:=#[(.int .i64 0),(.int .u8 0),(.int .i64 0),(.int .i64 0)]) _ (H.b.at_ (j:=0) rfl).1 (j58 _) rfl (by simp[Value.oneCell']);replace hZ:=hZ.st (H.b.at_ (j:=0) rfl).1 (ne9 rfl) (ne9 rfl) (.inr trivial) hk;replace H:Hp _ _ [_]:=Hp.turn [] H hk hB;clear hk hB;refine jf (i:=5) (by kernel_rfl) (zw (i:=5) rfl (jD rfl (F.e rfl) (F.e rfl) hr) (⟨_,H⟩) ?_);clear hr;refine td 6 ?_;intro A F;refine wpAnyH_done (by kernel_rfl) ?_ _;refine hK10 _ _ ?_;refine j9 ?_;refine (show bodyPost _ Tryz.f20 RR Exit.ret _ _ from ?_);exact bodyPost_ret (qV rfl (F.g 2 _ rfl) (F.g 3 _ rfl) (jE (#[(.int .i64 0),(.int .u8 0),(.int .i64 0),(.int .i64 0)]) rfl (jGy _) (j58 _) (λi=>H.cs 0 rfl i))) F.d ((by have hE:vK l=S6.e:=(by rw[(zx l).1];subst hS6 hS4;subst hS0;rfl);have hB9:qL l=⟨0,0,0,0⟩:=if_neg (by rw[hE];have h9:(!decide (S6.e=0))=true:=hb9;simpa using h9);exact ⟨by first|(rw[hB9,hE];done)|(rw[hB9,hE];rfl),H.k⟩))
  ·skip
   obtain ⟨W9,hr,hB,hk⟩:=j7 (P:=Tryz.prog) (S:=59) (c:=#[(.int .i64 0),(.int .u8 0),(.int .i64 0),(.int .i64 0)]) _ (H.b.at_ (j:=0) rfl).1 (j58 _) rfl (by simp[Value.oneCell']);replace hZ:=hZ.st (H.b.at_ (j:=0) rfl).1 (ne9 rfl) (ne9 rfl) (.inr trivial) hk;replace H:Hp _ _ [_]:=Hp.turn [] H hk hB;clear hk hB;refine zw (i:=5) rfl (jD rfl (F.e rfl) (F.e rfl) hr) (⟨_,H⟩) ?_;clear hr;refine jf (i:=4) (by kernel_rfl) (xO (v:=(.int .i64 S6.e)) (i:=4) F rfl rfl (jB rfl (F.e rfl) (qE (j4q _) (hZ.r.c2))) (⟨_,H⟩) ?_);intro A F;refine td 6 ?_;intro A F;refine wpAnyH_done (by kernel_rfl) ?_ _;refine hK10 _ _ ?_;refine j9 ?_;refine (show bodyPost _ Tryz.f20 RR Exit.ret _ _ from ?_);exact bodyPost_ret (qV rfl (F.g 2 _ rfl) (F.g 3 _ rfl) (jE (#[(.int .i64 0),(.int .u8 0),(.int .i64 0),(.int .i64 0)]) rfl (jGy _) (j58 _) (λi=>H.cs 0 rfl i))) F.d ((by have hE:vK l=S6.e:=(by rw[(zx l).1];subst hS6 hS4;subst hS0;rfl);have hB9:qL l=⟨0,0,0,0⟩:=if_neg (by rw[hE];have h9:(!decide (S6.e=0))=true:=hb9;simpa using h9);exact ⟨by first|(rw[hB9,hE];done)|(rw[hB9,hE];rfl),H.k⟩))
 replace F:=(((((F.nil.cons (F.g 6 _ rfl)).cons (F.g 5 _ rfl)).cons (F.g 4 _ rfl)).cons (F.g 3 _ rfl)).cons (F.g 2 _ rfl))
 refine wp_skip (hK7 _ _ ?_);refine wp_seq_k λK11 hK11=>?_;have h80:S6.e=0:=(by have h9:(!decide (S6.e=0))=false:=hb9;simpa using h9)
 refine jC ?_;refine zd ?_;intro A F;refine j3 F rfl (jF rfl (F.e rfl) jA (vu (i:=S0.num 1) (j:=16) (by decide) (jH (by omega) (by omega)))) ?_;intro A F;refine zd ?_;intro A F;refine zb (vc (i:=S0.num 1) (j:=16) (by decide)) ?_;intro A F;refine j3 (v:=(.int .u8 (((S0.num 1 % 16:Nat):Int)))) F rfl (q9 rfl (F.e rfl) (jNm _ _ (by omega) (by omega))) ?_;intro A F;refine zd ?_;intro A F;refine j3 F rfl (jK rfl (F.e rfl)) ?_;intro A F;refine jH2 F rfl rfl (F.e rfl) (jCx _ _ _) (j4q _) (hZ.r.c1 h80) ?_;intro A F;refine zd ?_;intro A F;refine j3 (v:=(.int .i64 ((S4.var:Int)))) F rfl (q9 rfl (F.e rfl) (jFo _ _ (by have:=jDt S4;omega))) ?_;intro A F;refine j3 (v:=(.agg #[(.int .i64 ((((S0.num 1) / 16:Nat):Int))),(.int .u8 (((S0.num 1 % 16:Nat):Int))),(.int .i64 (((B.size:Int) - (S6.l.length:Int)))),(.int .i64 ((S4.var:Int)))])) F rfl (jV rfl (j6 (F.e rfl) (j6 (F.e rfl) (j6 (F.e rfl) (j6 (F.e rfl) js)))) (by kernel_rfl)) ?_;intro A F;obtain ⟨W9,hr,hB,hk⟩:=j7 (P:=Tryz.prog) (S:=59) (c:=#[(.int .i64 ((((S0.num 1) / 16:Nat):Int))),(.int .u8 (((S0.num 1 % 16:Nat):Int))),(.int .i64 (((B.size:Int) - (S6.l.length:Int)))),(.int .i64 ((S4.var:Int)))]) _ (H.b.at_ (j:=0) rfl).1 (j58 _) rfl (by simp[Value.oneCell']);replace hZ:=hZ.st (H.b.at_ (j:=0) rfl).1 (ne9 rfl) (ne9 rfl) (.inr trivial) hk;refine jW (jD rfl (F.e rfl) (F.e rfl) hr) ?_;clear hr;replace H:Hp _ _ [_]:=Hp.turn [] H hk hB;clear hk hB;refine zd ?_;intro A F;refine nn (hK11 _ _) ?_;refine j9 ?_;refine (show bodyPost _ Tryz.f20 RR Exit.ret _ _ from ?_);exact bodyPost_ret (qV rfl (F.g 2 _ rfl) (F.g 3 _ rfl) (jE (#[(.int .i64 ((((S0.num 1) / 16:Nat):Int))),(.int .u8 (((S0.num 1 % 16:Nat):Int))),(.int .i64 (((B.size:Int) - (S6.l.length:Int)))),(.int .i64 ((S4.var:Int)))]) rfl (jGy _) (j58 _) (λi=>H.cs 0 rfl i))) F.d ((by have hE:vK l=S6.e:=(by rw[(zx l).1];subst hS6 hS4;subst hS0;rfl);have hB9:qL l=⟨((S0.num 1 / 16:Nat):Int),S0.num 1 % 16,(B.size:Int) - (S6.l.length:Int),S4.var⟩:=(by have h7:=(zx l).2 (by rw[← (zx l).1,hE,h80]);rw[h7,hBs];subst hS6 hS4;subst hS0;rfl);exact ⟨by first|(rw[hB9,hE,h80];done)|(rw[hB9,hE,h80];rfl),H.k⟩))
theorem jCn (w:World):(isAgg 64).run Tryz.prog w=.ok false w:=by kernel_rfl
instance:NA 64:=⟨jCn⟩
theorem jJi:FAt Tryz.prog 59 0 0:=by
 intro B o w
 have u:=Tryz.underlying59
 go_simp
instance:FA 59 0 0:=⟨jJi⟩
theorem jCw:FAt Tryz.prog 59 1 1:=by
 intro B o w
 have u:=Tryz.underlying59
 go_simp
instance:FA 59 1 1:=⟨jCw⟩
theorem jJj:FAt Tryz.prog 59 2 2:=by
 intro B o w
 have u:=Tryz.underlying59
 go_simp
instance:FA 59 2 2:=⟨jJj⟩
theorem jJk:FAt Tryz.prog 59 3 3:=by
 intro B o w
 have u:=Tryz.underlying59
 go_simp
instance:FA 59 3 3:=⟨jJk⟩
theorem j4b:FAt Tryz.prog 68 0 0:=by
 intro B o w
 have u:=Tryz.underlying68
 go_simp
instance:FA 68 0 0:=⟨j4b⟩
theorem jCy:FAt Tryz.prog 68 1 1:=by
 intro B o w
 have u:=Tryz.underlying68
 go_simp
instance:FA 68 1 1:=⟨jCy⟩
theorem jCz:FAt Tryz.prog 68 2 2:=by
 intro B o w
 have u:=Tryz.underlying68
 go_simp
instance:FA 68 2 2:=⟨jCz⟩
theorem jD2:FN Tryz.prog 58:=jc Tryz.func58 (by kernel_rfl) rfl
theorem jD1:FN Tryz.prog 28:=jc Tryz.func28 (by kernel_rfl) rfl
theorem jKy:FN Tryz.prog 26:=jc Tryz.func26 (by kernel_rfl) rfl
theorem jKz:FN Tryz.prog 27:=jc Tryz.func27 (by kernel_rfl) rfl
theorem jNy:FN Tryz.prog 22:=jc Tryz.func22 (by kernel_rfl) rfl
theorem j52:FN Tryz.prog 24:=jc Tryz.func24 (by kernel_rfl) rfl
theorem j9k:FN Tryz.prog 25:=jc Tryz.func25 (by kernel_rfl) rfl
theorem jOg:FN Tryz.prog 60:=jc Tryz.func60 (by kernel_rfl) rfl
theorem jOm:FN Tryz.prog 7:=jc Tryz.func7 (by kernel_rfl) rfl
theorem jNw:FN Tryz.prog 20:=jc Tryz.func20 (by kernel_rfl) rfl
section
variable {P:Program} {ops:Array Oper} {Q:Exit→Act→World→Prop} {a:Act} {w w0:World} {rest:List Oper} {N n:Nat} {L:List (Nat × Value)} {v:Value} {ty:TypeId} {ps:String} {af:Array Edge} {op:Op} {gd:Nat × Bool} {α:Type}
theorem jE8 (M':α→List Bk) (R:α→Value→World→Prop) {f:Nat} {args:Array Value} (F:Fr a N L) (hn:Nat.blt n N=true) (hw:Region.wanted ⟨some n,op,ty,ps,af,some gd⟩ (yielded ops a.tmps)=true) (h:(execOp a.eval ⟨some n,op,ty,ps,af,some gd⟩).run P w=.ok (.enter f args) w)
  (hc:Calls P f args w λe w'=>∃ v x,e=.returned v∧R x v w') (hH:∀ x v w',R x v w'→Hp w0 w' (M' x)) (k:∀ (x:α) (v:Value) (w':World) (a':Act),R x v w'→Hp w0 w' (M' x)→Fr a' N ((n,v) :: L)→wpList P ops Q rest a' w'):wpList P ops Q (⟨some n,op,ty,ps,af,some gd⟩ :: rest) a w:=by
 unfold wpList;rw[if_pos hw];left;unfold Oper.wp;rw[h];refine hc.mono ?_;rintro e w' ⟨v,x,rfl,hR⟩;exact k x v w' _ hR (hH x v w' hR) (F.put hn v)
end
theorem j9a (n:Nat) (w:World) (h:n<9223372036854775808):(convert 71 3 (.int .u64 (n:Int))).run Tryz.prog w=.ok (.int .i64 (n:Int)) w:=by
 have u:=Tryz.underlying3;have u2:=Tryz.underlying71;have e:IntKind.i64.wrap (n:Int)=n:=jH (by omega) (by omega)
 go_simp
 try exact e
theorem j7z (n:Nat) (w:World) (h:n<256):(convert 71 5 (.int .u64 (n:Int))).run Tryz.prog w=.ok (.int .u8 (n:Int)) w:=by
 have u:=Tryz.underlying5;have u2:=Tryz.underlying71;have e:IntKind.u8.wrap (n:Int)=n:=by rw[IntKind.wrap_u8];omega
 go_simp
 try exact e
theorem j0r (n:Nat) (w:World) (h:n<65536):(convert 71 23 (.int .u64 (n:Int))).run Tryz.prog w=.ok (.int .u16 (n:Int)) w:=by
 have u:=Tryz.underlying23;have u2:=Tryz.underlying71;have e:IntKind.u16.wrap (n:Int)=n:=by rw[IntKind.wrap_u16];omega
 go_simp
 try exact e
theorem zu (B:ByteArray) (w0 w:World) (t r:Nat) (v:Int) (S:Ts) (H:Hp w0 w [⟨t,68,#[(.pointer (some ⟨r,0,none⟩)),(.int .i64 v),(.bool S.b)]⟩]) (hr0:w0.heap.size≤r) (hR:RefR w r B S.l S.e) (hn:S.l.length≤100000)  :
  Calls Tryz.prog 25 #[.pointer (some ⟨t,0,none⟩)] w λe w'=>∃ u,∃ x:Ts,e=.returned u∧(TcD B w v t r (.string S.bin) S.rdT) x u w':=by
 have HB:=H;clear H;let RR:Ending→World→Prop:=λe w'=>∃ u,∃ x:Ts,e=.returned u∧(TcD B w v t r (.string S.bin) S.rdT) x u w'
 go_enter Tryz.func25,Tryz.ntmps25
 generalize hA:({tmps:=_,defers:=[]}:Act)=A;have F:Fr A 22 [(0,(.pointer (some ⟨t,0,none⟩)))]:=by rw[← hA];exact (Fr.cons (i:=0) (v:=(.pointer (some ⟨t,0,none⟩))) (Fr.nil0 rfl rfl) rfl)
 clear hA;have H:=HB;clear HB;have hZ:Rd B w (Tt t r) r S w:=Rd.start hR hn;clear hR hn;refine sg λK1 hK1=>?_;refine zd ?_;intro A F;refine nn (hK1 _ _) ?_;refine sg λK2 hK2=>?_;refine zd ?_;intro A F;refine j3 F rfl (jK rfl (F.e rfl)) ?_;intro A F
 iterate 2 (refine zd ?_;intro A F)
 refine jI (λ(x:Ts)=>[⟨t,68,#[(.pointer (some ⟨r,0,none⟩)),(.int .i64 v),(.bool x.b)]⟩]) (RdD B _ r (.string S.bin) S.rdB) F rfl (j5 rfl rfl (j4 (F.e rfl) j8) jD2) (jIt hZ) (λS3 _ _ h=>Hp.re H (h.2.2.k) (ge1 hr0) ⟨⟨rfl,λhb=>by rw[show S3=_ from h.2.1];exact (kD1 (h.2.2.k) hZ.r.blk (ne9 rfl)).2 hb⟩,trivial⟩) ?_;clear F H A;intro S3 vv W A hR H F;obtain ⟨rfl,hS3,hZ9⟩:=hR
 try dsimp only at H
 replace hZ:=hZ.step hZ9 tt1;clear hZ9;refine zd ?_;intro A F;refine nn (hK2 _ _) ?_;refine sg λK4 hK4=>?_
 iterate 2 (refine zd ?_;intro A F)
 refine j3 F rfl (jK rfl (F.e rfl)) ?_;intro A F
 iterate 3 (refine zd ?_;intro A F)
 refine zg ?_;intro A F;refine jl F H rfl (jv F rfl rfl rfl) (λhG=>(j5 rfl rfl (j4 (F.o rfl hG) j8) jGs)) (λhG=>j3g S.bin _ (by have:=jCo S;omega)) ?_;clear F H A;intro W A hk H F;replace hZ:=hZ.no hk;clear hk;refine zg ?_;intro A F;refine j3 F rfl (jN rfl (F.e rfl) (λhx=>(F.o rfl (gnt hx))) rfl) ?_;intro A F;refine j3 F rfl (jK rfl (F.e rfl)) ?_;intro A F;refine zd ?_;intro A F;refine zs [] (#[(.pointer (some ⟨r,0,none⟩)),(.int .i64 v),(.bool (S3.b||(!(jm S.bin))))]) ?_;intro W H9 hk;replace hZ:=hZ.st (H.b.at_ (j:=0) rfl).1 (ne9 rfl) (ne9 rfl) (.inr (.inl rfl)) hk;clear H hk;have H:=H9;clear H9;refine nn (hK4 _ _) ?_;refine sg λK6 hK6=>?_
 iterate 2 (refine zd ?_;intro A F)
 refine nn (hK6 _ _) ?_;refine j9 ?_;refine (show bodyPost _ Tryz.f25 RR Exit.ret _ _ from zr ?_);exact (by subst hS3;exact ⟨_,S.rdT,rfl,⟨rfl,rfl,⟨hZ.n,hZ.r,hZ.k⟩,(H.b.at_ (j:=0) rfl).1⟩⟩)
theorem zL (B:ByteArray) (w0 w:World) (t r:Nat) (v:Int) (S:Ts) (H:Hp w0 w [⟨t,68,#[(.pointer (some ⟨r,0,none⟩)),(.int .i64 v),(.bool S.b)]⟩]) (hr0:w0.heap.size≤r) (hR:RefR w r B S.l S.e) (hn:S.l.length≤100000)  :
  Calls Tryz.prog 24 #[.pointer (some ⟨t,0,none⟩)] w λe w'=>∃ u,∃ x:Ts × Option Addr × Nat,e=.returned u∧(λx=>ScD B w v t r (S.sec v) (S.rdS v) x.1 x.2.1 x.2.2) x u w':=by
 have HB:=H;clear H;let RR:Ending→World→Prop:=λe w'=>∃ u,∃ x:Ts × Option Addr × Nat,e=.returned u∧(λx=>ScD B w v t r (S.sec v) (S.rdS v) x.1 x.2.1 x.2.2) x u w'
 go_enter Tryz.func24,Tryz.ntmps24
 generalize hA:({tmps:=_,defers:=[]}:Act)=A;have F:Fr A 30 [(0,(.pointer (some ⟨t,0,none⟩)))]:=by rw[← hA];exact (Fr.cons (i:=0) (v:=(.pointer (some ⟨t,0,none⟩))) (Fr.nil0 rfl rfl) rfl)
 clear hA;have H:=HB;clear HB;have hZ:Rd B w (Tt t r) r S w:=Rd.start hR hn;clear hR hn;refine sg λK1 hK1=>?_;refine zd ?_;intro A F;refine nn (hK1 _ _) ?_;refine wp_seq_k λK2 hK2=>?_;refine sg λK3 hK3=>?_;refine zd ?_;intro A F;refine j3 F rfl (jK rfl (F.e rfl)) ?_;intro A F
 iterate 2 (refine zd ?_;intro A F)
 refine zb (jG) ?_;intro A F;refine nn (hK3 _ _) ?_;refine zc (λhb4=>?_) (λhb4=>?_)
 ·skip
  refine sg λK5 hK5=>?_;refine zd ?_;intro A F;refine nn (hK5 _ _) ?_;refine j9 ?_;refine (show bodyPost _ Tryz.f24 RR Exit.ret _ _ from zr ?_);exact ⟨_,(S,none,0),rfl,⟨by rw[show S.sec v=[] from if_pos (of_decide_eq_true hb4)];rfl,(if_pos (of_decide_eq_true hb4)).symm,hZ,(H.b.at_ (j:=0) rfl).1,by rw[show S.sec v=[] from if_pos (of_decide_eq_true hb4)];exact .nil _ _⟩⟩
 refine wp_skip (hK2 _ _ ?_);refine sg λK6 hK6=>?_;refine zd ?_;intro A F;refine j3 F rfl (jK rfl (F.e rfl)) ?_;intro A F
 iterate 2 (refine zd ?_;intro A F)
 refine jI (λ(x:Ts)=>[⟨t,68,#[(.pointer (some ⟨r,0,none⟩)),(.int .i64 v),(.bool x.b)]⟩]) (TkD B _ r (qd S.l S.e).1 (qd S.l S.e).2 (⟨qz S.l S.e,qu S.l S.e,S.b⟩:Ts)) F rfl (j5 rfl rfl (j4 (F.e rfl) j8) jOg) (jNo hZ) (λS7 _ _ h=>Hp.re H (h.choose_spec.choose_spec.2.2.2.2.k) (ge1 hr0) ⟨⟨rfl,λhb=>by rw[show S7=_ from h.choose_spec.choose_spec.2.2.2.1];exact (kD1 (h.choose_spec.choose_spec.2.2.2.2.k) hZ.r.blk (ne9 rfl)).2 hb⟩,trivial⟩) ?_;clear F H A;intro S7 vv W A hR H F;obtain ⟨a7,c7,rfl,hP7,hN7,hS7,hZ9⟩:=hR
 try dsimp only at H
 replace hZ:=hZ.step hZ9 tt1;clear hZ9
 iterate 5 (refine zd ?_;intro A F)
 refine nn (hK6 _ _) ?_;refine sg λK8 hK8=>?_
 iterate 2 (refine zd ?_;intro A F)
 refine j3 F rfl (jK rfl (F.e rfl)) ?_;intro A F
 iterate 3 (refine zd ?_;intro A F)
 iterate 2 (refine zg ?_;intro A F)
 refine j3 F rfl (jN rfl (F.e rfl) (λhx=>(F.o rfl (gnt hx))) rfl) ?_;intro A F;refine j3 F rfl (jK rfl (F.e rfl)) ?_;intro A F;refine zd ?_;intro A F;refine zs [] (#[(.pointer (some ⟨r,0,none⟩)),(.int .i64 v),(.bool (S7.b||(!((qd S.l S.e).2))))]) ?_;intro W H9 hk;replace hZ:=hZ.st (H.b.at_ (j:=0) rfl).1 (ne9 rfl) (ne9 rfl) (.inr (.inl rfl)) hk;replace hP7:=hP7.propK hk (jq (H.b.at_ (j:=0) rfl).1 (nu3 (by simp) (by simp) (by simp)));clear H hk;have H:=H9;clear H9;refine nn (hK8 _ _) ?_;refine sg λK9 hK9=>?_
 iterate 2 (refine zd ?_;intro A F)
 refine nn (hK9 _ _) ?_;refine j9 ?_;refine (show bodyPost _ Tryz.f24 RR Exit.ret _ _ from zr ?_);exact (by have hE1:S.sec v=(qd S.l S.e).1:=if_neg (of_decide_eq_false hb4);have hE2:=show S.rdS v=_ from if_neg (of_decide_eq_false hb4);subst hS7;refine ⟨_,(_,a7,c7),rfl,⟨by rw[hE1];rfl,hE2.symm,⟨hZ.n,hZ.r,hZ.k⟩,(H.b.at_ (j:=0) rfl).1,by rw[hE1];exact hP7⟩⟩)
theorem j6x (B:ByteArray) (w0 w:World) (t q r:Nat) (v:Int) (S:Ts) (P:Pk) (s:Sl) (H:Hp w0 w [⟨t,68,#[(.pointer (some ⟨r,0,none⟩)),(.int .i64 v),(.bool S.b)]⟩,⟨q,34,(Pk.cells P s)⟩]) (hr0:w0.heap.size≤r) (hR:RefR w r B S.l S.e) (hn:S.l.length≤100000) (hE:Emp w P s)  :
  Calls Tryz.prog 27 #[.pointer (some ⟨t,0,none⟩),.pointer (some ⟨q,0,none⟩)] w λe w'=>∃ u,∃ x:Ts × Pk × Sl,e=.returned u∧(λx=>KcD B w v t q r (qg v P S) x.1 x.2.1 x.2.2) x u w':=by
 have HB:=H;clear H;let RR:Ending→World→Prop:=λe w'=>∃ u,∃ x:Ts × Pk × Sl,e=.returned u∧(λx=>KcD B w v t q r (qg v P S) x.1 x.2.1 x.2.2) x u w'
 go_enter Tryz.func27,Tryz.ntmps27
 generalize hA:({tmps:=_,defers:=[]}:Act)=A;have F:Fr A 37 [(1,(.pointer (some ⟨q,0,none⟩))),(0,(.pointer (some ⟨t,0,none⟩)))]:=by rw[← hA];exact (Fr.cons (i:=1) (v:=(.pointer (some ⟨q,0,none⟩))) (Fr.cons (i:=0) (v:=(.pointer (some ⟨t,0,none⟩))) (Fr.nil0 rfl rfl) rfl) rfl)
 clear hA;have H:=HB;clear HB;have hZ:Rd B w (Tq t q r) r S w:=Rd.start hR hn;clear hR hn;have hqt:q<t:=H.b.2.2.1 _ (List.mem_cons_self ..);have hPp:=hE.p;refine wp_seq_k λK1 hK1=>?_;refine sg λK2 hK2=>?_;refine zd ?_;intro A F;refine j3 F rfl (jK rfl (F.e rfl)) ?_;intro A F
 iterate 2 (refine zd ?_;intro A F)
 refine zb (jG) ?_;intro A F;rcases Bool.eq_false_or_eq_true (decide (v=4)) with hb3|hb3
 ·replace F:=F.hd (congrArg Value.bool hb3)
  refine zd ?_;intro A F;refine j3q F rfl (jv (X:=true) F rfl rfl rfl) ?_;intro A F;refine j3q F rfl (jv (X:=true) F rfl rfl rfl) ?_;intro A F;refine j3q F rfl (jv (X:=true) F rfl rfl rfl) ?_;intro A F;refine j3q F rfl (jv (X:=true) F rfl rfl rfl) ?_;intro A F;refine j3q F rfl (jv (X:=true) F rfl rfl rfl) ?_;intro A F;refine j3q F rfl (jv (X:=true) F rfl rfl rfl) ?_;intro A F;refine j3 F rfl (vD rfl (F.e rfl) jA) ?_;intro A F;refine nn (hK2 _ _) ?_;refine wp_cond_true (F.e rfl) ?_;refine j9 ?_;refine (show bodyPost _ Tryz.f27 RR Exit.ret _ _ from zr0 ?_);exact (by have hK9:=(show qg v P S=_ from if_pos (.inl (of_decide_eq_true hb3)));exact ⟨_,(_,_,s),rfl,⟨rfl,(congrArg Prod.snd hK9).symm,(congrArg Prod.fst hK9).symm,hZ,(H.b.at_ (j:=0) rfl).1,(H.b.at_ (j:=1) rfl).1,xf hE.w,hPp,hE.nf,hE.nc,hE.sc⟩⟩)
 replace F:=F.hd (congrArg Value.bool hb3);refine zd ?_;intro A F;refine vC F rfl (jv (X:=false) F rfl rfl rfl) (qQ rfl (F.e rfl)) ?_;intro A F;refine vC F rfl (jv (X:=false) F rfl rfl rfl) (jK rfl (F.e rfl)) ?_;intro A F;refine vC F rfl (jv (X:=false) F rfl rfl rfl) (qp rfl (F.e rfl) (j4b _ _ _)) ?_;intro A F;refine vC F rfl (jv (X:=false) F rfl rfl rfl) (jB rfl (F.e rfl) (qE (jCn _) (H.c 0 rfl rfl))) ?_;intro A F;refine jE8 (λ(x:Ts)=>[⟨t,68,#[(.pointer (some ⟨r,0,none⟩)),(.int .i64 v),(.bool x.b)]⟩,⟨q,34,(Pk.cells P s)⟩]) (RdD B _ r (.int .i64 ((S.l.length:Int))) S) F rfl (jv (X:=false) F rfl rfl rfl) (j5 rfl rfl (j4 (F.e rfl) j8) jD1) (jKr hZ) (λS4 _ _ h=>Hp.re H (h.2.2.k) (ge1 hr0) ⟨⟨rfl,λhb=>by rw[show S4=_ from h.2.1];exact (kD1 (h.2.2.k) hZ.r.blk (ne9 rfl)).2 hb⟩,⟨kD1 (h.2.2.k) hZ.r.blk (ne9 rfl),trivial⟩⟩) ?_;clear F H A;intro S4 vv W A hR H F;obtain ⟨rfl,hS4,hZ9⟩:=hR
 try dsimp only at H
 replace hPp:=hPp.propK hZ9.k (vO1 hZ.r);replace hZ:=hZ.step hZ9 tq1;clear hZ9;refine vC F rfl (jv (X:=false) F rfl rfl rfl) (jF rfl (F.e rfl) jA (jt (i:=S.l.length) (j:=0))) ?_;intro A F;refine j3 F rfl (j9e rfl (F.e rfl) (F.e rfl)) ?_;intro A F;refine nn (hK2 _ _) ?_;refine zc (λhb5=>?_) (λhb5=>?_)
 ·skip
  refine j9 ?_;refine (show bodyPost _ Tryz.f27 RR Exit.ret _ _ from zr0 ?_);exact (by have hK9:=(show qg v P S=_ from if_pos (.inr (of_decide_eq_true hb5)));subst hS4;exact ⟨_,(_,_,s),rfl,⟨rfl,(congrArg Prod.snd hK9).symm,(congrArg Prod.fst hK9).symm,hZ,(H.b.at_ (j:=0) rfl).1,(H.b.at_ (j:=1) rfl).1,xf hE.w,hPp,hE.nf,hE.nc,hE.sc⟩⟩)
 refine wp_skip (hK1 _ _ ?_);refine sg λK6 hK6=>?_
 iterate 2 (refine zd ?_;intro A F)
 refine j3 F rfl (jK rfl (F.e rfl)) ?_;intro A F
 iterate 2 (refine zd ?_;intro A F)
 refine jI (λ(x:Ts)=>[⟨t,68,#[(.pointer (some ⟨r,0,none⟩)),(.int .i64 v),(.bool x.b)]⟩,⟨q,34,(Pk.cells P s)⟩]) (RdD B _ r (.int .u64 ((S4.num 1:Int))) (S4.rd 1)) F rfl (j5 rfl rfl (j4 (F.e rfl) (j4 jA j8)) j0j) (j40 1 (by decide) (by decide) hZ) (λS7 _ _ h=>Hp.re H (h.2.2.k) (ge1 hr0) ⟨⟨rfl,λhb=>by rw[show S7=_ from h.2.1];exact (kD1 (h.2.2.k) hZ.r.blk (ne9 rfl)).2 hb⟩,⟨kD1 (h.2.2.k) hZ.r.blk (ne9 rfl),trivial⟩⟩) ?_;clear F H A;intro S7 vv W A hR H F;obtain ⟨rfl,hS7,hZ9⟩:=hR
 try dsimp only at H
 replace hPp:=hPp.propK hZ9.k (vO1 hZ.r);replace hZ:=hZ.step hZ9 tq1;clear hZ9;have h87:=ql S4;refine j3 (v:=(.int .u8 ((S4.num 1:Int)))) F rfl (q9 rfl (F.e rfl) (j7z _ _ (by omega))) ?_;intro A F;refine j3 F rfl (jK rfl (F.e rfl)) ?_;intro A F;refine zd ?_;intro A F;let P8:Pk:={P with code:=S4.num 1}
 refine zs [_] ((Pk.cells P8 s)) ?_;intro W H9 hk;replace hZ:=hZ.st (H.b.at_ (j:=1) rfl).1 (ne9 rfl) (ne9 rfl) (.inr (.inr (.inl rfl))) hk;replace hPp:=hPp.propK hk (jq (H.b.at_ (j:=1) rfl).1 (jn _ _));clear H hk;have H:=H9;clear H9;refine nn (hK6 _ _) ?_;refine sg λK9 hK9=>?_;refine zd ?_;intro A F;refine j3 F rfl (jK rfl (F.e rfl)) ?_;intro A F
 iterate 2 (refine zd ?_;intro A F)
 refine jI (λ(x:Ts)=>[⟨t,68,#[(.pointer (some ⟨r,0,none⟩)),(.int .i64 v),(.bool x.b)]⟩,⟨q,34,(Pk.cells P8 s)⟩]) (RdD B _ r (.int .i64 ((S7.l.length:Int))) S7) F rfl (j5 rfl rfl (j4 (F.e rfl) j8) jD1) (jKr hZ) (λS10 _ _ h=>Hp.re H (h.2.2.k) (ge1 hr0) ⟨⟨rfl,λhb=>by rw[show S10=_ from h.2.1];exact (kD1 (h.2.2.k) hZ.r.blk (ne9 rfl)).2 hb⟩,⟨kD1 (h.2.2.k) hZ.r.blk (ne9 rfl),trivial⟩⟩) ?_;clear F H A;intro S10 vv W A hR H F;obtain ⟨rfl,hS10,hZ9⟩:=hR
 try dsimp only at H
 replace hPp:=hPp.propK hZ9.k (vO1 hZ.r);replace hZ:=hZ.step hZ9 tq1;clear hZ9;refine zb (qa (i:=S7.l.length) (j:=0)) ?_;intro A F;refine nn (hK9 _ _) ?_;refine zc (λhb11=>?_) (λhb11=>?_)
 ·skip
  replace F:=((F.nil.cons (F.g 1 _ rfl)).cons (F.g 0 _ rfl))
  refine jC ?_
  iterate 2 (refine zd ?_;intro A F)
  obtain ⟨htb,ht0⟩:=H.b.at_ (j:=0) rfl;refine jI (λ(x:Ts × Option Addr × Nat)=>[⟨t,68,#[(.pointer (some ⟨r,0,none⟩)),(.int .i64 v),(.bool x.1.b)]⟩,⟨q,34,(Pk.cells P8 s)⟩]) (λx=>ScD B _ v t r (S10.sec v) (S10.rdS v) x.1 x.2.1 x.2.2) F rfl (j5 rfl rfl (j4 (F.e rfl) j8) j52) (zL B w0 _ t r v S10 ⟨H.k,htb,ht0,by simp,trivial⟩ hr0 hZ.r hZ.n) (λx9 _ _ h=>Hp.re H (h.z.k) (ge2 hr0 ht0) ⟨⟨rfl,λ_=>h.tb⟩,⟨kD2 (h.z.k) hZ.r.blk (ne9 rfl) htb (ne9 rfl),trivial⟩⟩) ?_;clear F H A;intro x9 vv W A hR H F;obtain ⟨S12,a12,c12⟩:=x9;replace hR:ScD B _ v t r (S10.sec v) (S10.rdS v) S12 a12 c12 vv W:=hR;obtain ⟨rfl,hS12,hZ9,-,hP12⟩:=hR
  try dsimp only at H
  replace hPp:=hPp.propK hZ9.k (vO2 hZ.r htb (nu3 (by simp) (by simp) (by simp)));replace hZ:=hZ.step hZ9 tq2;clear hZ9;clear htb ht0;refine j3 F rfl (jK rfl (F.e rfl)) ?_;intro A F;refine zd ?_;intro A F;let s13:Sl:={s with pa:=a12,pc:=c12}
  let P14:Pk:={P8 with props:=(S10.sec v)}
  refine zs [_] ((Pk.cells P14 s13)) ?_;intro W H9 hk;replace hZ:=hZ.st (H.b.at_ (j:=1) rfl).1 (ne9 rfl) (ne9 rfl) (.inr (.inr (.inl rfl))) hk;replace hPp:=hPp.propK hk (jq (H.b.at_ (j:=1) rfl).1 (jn _ _));replace hP12:=hP12.propK hk (jq (H.b.at_ (j:=1) rfl).1 (jn _ _));clear H hk;have H:=H9;clear H9;refine wpList_nil ?_;refine (show bodyPost _ Tryz.f27 RR Exit.normal _ _ from zn0 ?_);exact (by have hK9:=(show qg v P S=_ from (if_neg (by rintro (h9|h9);exact (of_decide_eq_false hb3) h9;exact of_decide_eq_false hb5 h9)).trans (if_neg (by have h9:=of_decide_eq_true hb11;subst hS10 hS7 hS4;omega)));subst hS12 hS10 hS7 hS4;exact ⟨_,(_,_,s13),rfl,⟨rfl,(congrArg Prod.snd hK9).symm,(congrArg Prod.fst hK9).symm,hZ,(H.b.at_ (j:=0) rfl).1,(H.b.at_ (j:=1) rfl).1,xf hE.w,hP12,hE.nf,hE.nc,hE.sc⟩⟩)
 replace F:=((F.nil.cons (F.g 1 _ rfl)).cons (F.g 0 _ rfl))
 refine wp_skip ?_;refine (show bodyPost _ Tryz.f27 RR Exit.normal _ _ from zn0 ?_);exact (by have hK9:=(show qg v P S=_ from (if_neg (by rintro (h9|h9);exact (of_decide_eq_false hb3) h9;exact of_decide_eq_false hb5 h9)).trans (if_pos (by have h9:=of_decide_eq_false hb11;subst hS10 hS7 hS4;omega)));subst hS10 hS7 hS4;exact ⟨_,(_,_,s),rfl,⟨rfl,(congrArg Prod.snd hK9).symm,(congrArg Prod.fst hK9).symm,hZ,(H.b.at_ (j:=0) rfl).1,(H.b.at_ (j:=1) rfl).1,xf hE.w,hPp,hE.nf,hE.nc,hE.sc⟩⟩)
def j03 (v:Int) (f:Nat) (p:Pk) (s:Ts):Pk × Ts :=
 if (!decide (f &&& 4=0))=true then ({p with willProps:=s.sec v,willTopic:=(s.rdS v).bin,willLoad:=(s.rdS v).rdT.bin},(s.rdS v).rdT.rdB) else (p,s)
def xU (p:Pk) (s:Ts):Pk × Ts:=if p.hasUser=true then ({p with user:=s.bin},s.rdT) else (p,s)
def j13 (p:Pk) (s:Ts):Pk × Ts:=if p.hasPass=true then ({p with pass:=s.bin},s.rdB) else (p,s)
def jIl (v:Int) (s:Ts):Bool:=(((s.b||!decide (s.bin=jEf))||!decide ((s.rdB.num 1:Int)=v))||decide ((s.rdB.rd 1).num 1 % 2=1))||(!(!decide ((s.rdB.rd 1).num 1 &&& 4=0))&&!decide ((s.rdB.rd 1).num 1 / 8 % 8=0))
def j0q (v:Int) (s:Ts):Ts:=⟨(((s.rdB.rd 1).rd 1).rd 2).l,(((s.rdB.rd 1).rd 1).rd 2).e,jIl v s⟩
def jB7 (v:Int) (s:Ts):Pk:={zk 1 with clean:=!decide ((s.rdB.rd 1).num 1 &&& 2=0),keep:=((s.rdB.rd 1).rd 1).num 2,client:=((j0q v s).rdS v).bin,hasWill:=!decide ((s.rdB.rd 1).num 1 &&& 4=0),hasUser:=!decide ((s.rdB.rd 1).num 1 &&& 128=0),hasPass:=!decide ((s.rdB.rd 1).num 1 &&& 64=0),willQoS:=(s.rdB.rd 1).num 1 / 8 &&& 3,willRetain:=!decide ((s.rdB.rd 1).num 1 &&& 32=0),props:=(j0q v s).sec v}
def j3o (v:Int) (s:Ts):Pk × Ts :=
 let f:=(s.rdB.rd 1).num 1;let w:=j03 v f (jB7 v s) ((j0q v s).rdS v).rdT;let u:=xU w.1 w.2
 j13 u.1 u.2
theorem jNl:∀ f:Nat,f<256→(decide (f / 2 % 2=1) = !decide (f &&& 2=0))∧(decide (f / 4 % 2=1) = !decide (f &&& 4=0))∧(f / 8 % 4=(f / 8 &&& 3))∧(decide (f / 32 % 2=1) = !decide (f &&& 32=0))∧(decide (f / 64 % 2=1) = !decide (f &&& 64=0))∧(decide (f / 128 % 2=1) = !decide (f &&& 128=0)):=by decide +kernel
theorem j6z {P:Program} {w:World} {t:TypeId} {k:IntKind} {i j:Int} {b:Bool} {x y:Operand} (h:decide (i=j)=b):(do eqGuard .eql t x y (.int k i) (.int k j);binOp .eql t (.int k i) (.int k j):Sem Value).run P w=.ok (.bool b) w:=h▸jG
theorem Rd.same {B:ByteArray} {w W:World} {T:Nat→Prop} {r:Nat} {S S':Ts} (h:Rd B w T r S W) (h1:S'.l=S.l) (h2:S'.e=S.e):Rd B w T r S' W:=⟨by rw[h1];exact h.n,by rw[h1,h2];exact h.r,h.k⟩
theorem jNn (n:Nat) (w:World) (h:n<256):(convert 3 5 (.int .i64 (n:Int))).run Tryz.prog w=.ok (.int .u8 (n:Int)) w:=jNm n w (by omega) (by omega)
theorem j80 (B:ByteArray) (w0 w:World) (t q r:Nat) (v:Int) (S:Ts) (P:Pk) (s:Sl) (H:Hp w0 w [⟨t,68,#[(.pointer (some ⟨r,0,none⟩)),(.int .i64 v),(.bool S.b)]⟩,⟨q,34,(Pk.cells P s)⟩]) (hr0:w0.heap.size≤r) (hR:RefR w r B S.l S.e) (hn:S.l.length≤100000) (hE:Emp w P s) (hP1:P=zk 1) :
  Calls Tryz.prog 22 #[.pointer (some ⟨t,0,none⟩),.pointer (some ⟨q,0,none⟩)] w λe w'=>∃ u,∃ x:Ts × Pk × Sl,e=.returned u∧(λx=>KcD B w v t q r (j3o v S) x.1 x.2.1 x.2.2) x u w':=by
 have HB:=H;clear H;let RR:Ending→World→Prop:=λe w'=>∃ u,∃ x:Ts × Pk × Sl,e=.returned u∧(λx=>KcD B w v t q r (j3o v S) x.1 x.2.1 x.2.2) x u w'
 go_enter Tryz.func22,Tryz.ntmps22
 generalize hA:({tmps:=_,defers:=[]}:Act)=A;have F:Fr A 165 [(1,(.pointer (some ⟨q,0,none⟩))),(0,(.pointer (some ⟨t,0,none⟩)))]:=by rw[← hA];exact (Fr.cons (i:=1) (v:=(.pointer (some ⟨q,0,none⟩))) (Fr.cons (i:=0) (v:=(.pointer (some ⟨t,0,none⟩))) (Fr.nil0 rfl rfl) rfl) rfl)
 clear hA;have H:=HB;clear HB;have hZ:Rd B w (Tq t q r) r S w:=Rd.start hR hn;clear hR hn;have hqt:q<t:=H.b.2.2.1 _ (List.mem_cons_self ..);have hPp:=hE.p;refine sg λK1 hK1=>?_;refine zd ?_;intro A F;refine j3 F rfl (jK rfl (F.e rfl)) ?_;intro A F
 iterate 2 (refine zd ?_;intro A F)
 refine jI (λ(x:Ts)=>[⟨t,68,#[(.pointer (some ⟨r,0,none⟩)),(.int .i64 v),(.bool x.b)]⟩,⟨q,34,(Pk.cells P s)⟩]) (RdD B _ r (.string S.bin) S.rdB) F rfl (j5 rfl rfl (j4 (F.e rfl) j8) jD2) (jIt hZ) (λS2 _ _ h=>Hp.re H (h.2.2.k) (ge1 hr0) ⟨⟨rfl,λhb=>by rw[show S2=_ from h.2.1];exact (kD1 (h.2.2.k) hZ.r.blk (ne9 rfl)).2 hb⟩,⟨kD1 (h.2.2.k) hZ.r.blk (ne9 rfl),trivial⟩⟩) ?_;clear F H A;intro S2 vv W A hR H F;obtain ⟨rfl,hS2,hZ9⟩:=hR
 try dsimp only at H
 replace hPp:=hPp.propK hZ9.k (vO1 hZ.r);replace hZ:=hZ.step hZ9 tq1;clear hZ9;refine zd ?_;intro A F;refine nn (hK1 _ _) ?_;refine sg λK3 hK3=>?_;refine zd ?_;intro A F;refine j3 F rfl (jK rfl (F.e rfl)) ?_;intro A F
 iterate 2 (refine zd ?_;intro A F)
 refine jI (λ(x:Ts)=>[⟨t,68,#[(.pointer (some ⟨r,0,none⟩)),(.int .i64 v),(.bool x.b)]⟩,⟨q,34,(Pk.cells P s)⟩]) (RdD B _ r (.int .u64 ((S2.num 1:Int))) (S2.rd 1)) F rfl (j5 rfl rfl (j4 (F.e rfl) (j4 jA j8)) j0j) (j40 1 (by decide) (by decide) hZ) (λS4 _ _ h=>Hp.re H (h.2.2.k) (ge1 hr0) ⟨⟨rfl,λhb=>by rw[show S4=_ from h.2.1];exact (kD1 (h.2.2.k) hZ.r.blk (ne9 rfl)).2 hb⟩,⟨kD1 (h.2.2.k) hZ.r.blk (ne9 rfl),trivial⟩⟩) ?_;clear F H A;intro S4 vv W A hR H F;obtain ⟨rfl,hS4,hZ9⟩:=hR
 try dsimp only at H
 replace hPp:=hPp.propK hZ9.k (vO1 hZ.r);replace hZ:=hZ.step hZ9 tq1;clear hZ9;have h84:=ql S2;refine j3 (v:=(.int .i64 ((S2.num 1:Int)))) F rfl (q9 rfl (F.e rfl) (j9a _ _ (by omega))) ?_;intro A F;refine zd ?_;intro A F;refine nn (hK3 _ _) ?_;refine sg λK5 hK5=>?_;refine zd ?_;intro A F;refine j3 F rfl (jK rfl (F.e rfl)) ?_;intro A F
 iterate 2 (refine zd ?_;intro A F)
 refine jI (λ(x:Ts)=>[⟨t,68,#[(.pointer (some ⟨r,0,none⟩)),(.int .i64 v),(.bool x.b)]⟩,⟨q,34,(Pk.cells P s)⟩]) (RdD B _ r (.int .u64 ((S4.num 1:Int))) (S4.rd 1)) F rfl (j5 rfl rfl (j4 (F.e rfl) (j4 jA j8)) j0j) (j40 1 (by decide) (by decide) hZ) (λS6 _ _ h=>Hp.re H (h.2.2.k) (ge1 hr0) ⟨⟨rfl,λhb=>by rw[show S6=_ from h.2.1];exact (kD1 (h.2.2.k) hZ.r.blk (ne9 rfl)).2 hb⟩,⟨kD1 (h.2.2.k) hZ.r.blk (ne9 rfl),trivial⟩⟩) ?_;clear F H A;intro S6 vv W A hR H F;obtain ⟨rfl,hS6,hZ9⟩:=hR
 try dsimp only at H
 replace hPp:=hPp.propK hZ9.k (vO1 hZ.r);replace hZ:=hZ.step hZ9 tq1;clear hZ9;have h86:=ql S4;have hbits:=jNl _ h86;refine j3 (v:=(.int .i64 ((S4.num 1:Int)))) F rfl (q9 rfl (F.e rfl) (j9a _ _ (by omega))) ?_;intro A F;refine zd ?_;intro A F;refine nn (hK5 _ _) ?_;refine sg λK7 hK7=>?_
 iterate 2 (refine zd ?_;intro A F)
 refine j3 F rfl (jK rfl (F.e rfl)) ?_;intro A F
 iterate 2 (refine zd ?_;intro A F)
 refine jI (λ(x:Ts)=>[⟨t,68,#[(.pointer (some ⟨r,0,none⟩)),(.int .i64 v),(.bool x.b)]⟩,⟨q,34,(Pk.cells P s)⟩]) (RdD B _ r (.int .u64 ((S6.num 2:Int))) (S6.rd 2)) F rfl (j5 rfl rfl (j4 (F.e rfl) (j4 jA j8)) j0j) (j40 2 (by decide) (by decide) hZ) (λS8 _ _ h=>Hp.re H (h.2.2.k) (ge1 hr0) ⟨⟨rfl,λhb=>by rw[show S8=_ from h.2.1];exact (kD1 (h.2.2.k) hZ.r.blk (ne9 rfl)).2 hb⟩,⟨kD1 (h.2.2.k) hZ.r.blk (ne9 rfl),trivial⟩⟩) ?_;clear F H A;intro S8 vv W A hR H F;obtain ⟨rfl,hS8,hZ9⟩:=hR
 try dsimp only at H
 replace hPp:=hPp.propK hZ9.k (vO1 hZ.r);replace hZ:=hZ.step hZ9 tq1;clear hZ9;have h88:=xr S6;refine j3 (v:=(.int .u16 ((S6.num 2:Int)))) F rfl (q9 rfl (F.e rfl) (j0r _ _ (by omega))) ?_;intro A F;refine j3 F rfl (jK rfl (F.e rfl)) ?_;intro A F;refine zd ?_;intro A F;let P9:Pk:={P with keep:=S6.num 2}
 refine zs [_] ((Pk.cells P9 s)) ?_;intro W H9 hk;replace hZ:=hZ.st (H.b.at_ (j:=1) rfl).1 (ne9 rfl) (ne9 rfl) (.inr (.inr (.inl rfl))) hk;replace hPp:=hPp.propK hk (jq (H.b.at_ (j:=1) rfl).1 (jn _ _));clear H hk;have H:=H9;clear H9;refine nn (hK7 _ _) ?_;refine sg λK10 hK10=>?_
 iterate 7 (refine zd ?_;intro A F)
 refine j3 F rfl (jF rfl (F.e rfl) jA (vu (i:=S4.num 1) (j:=2) (by decide) (jH (by omega) (by omega)))) ?_;intro A F;refine zb (vc (i:=((S4.num 1) / 2)) (j:=2) (by decide)) ?_;intro A F;refine j3 (v:=(.bool (!decide (S4.num 1 &&& 2=0)))) F rfl (jF rfl (F.e rfl) jA (j6z (by rw[← hbits.1];exact decide_eq_decide.2 (by omega)))) ?_;intro A F;refine zd ?_;intro A F;refine j3 F rfl (jF rfl (F.e rfl) jA (vu (i:=S4.num 1) (j:=4) (by decide) (jH (by omega) (by omega)))) ?_;intro A F;refine zb (vc (i:=((S4.num 1) / 4)) (j:=2) (by decide)) ?_;intro A F;refine j3 (v:=(.bool (!decide (S4.num 1 &&& 4=0)))) F rfl (jF rfl (F.e rfl) jA (j6z (by rw[← hbits.2.1];exact decide_eq_decide.2 (by omega)))) ?_;intro A F;refine zd ?_;intro A F;refine j3 F rfl (jF rfl (F.e rfl) jA (vu (i:=S4.num 1) (j:=8) (by decide) (jH (by omega) (by omega)))) ?_;intro A F;refine zb (vc (i:=((S4.num 1) / 8)) (j:=4) (by decide)) ?_;intro A F;refine j3 (v:=(.int .u8 (((S4.num 1 / 8 &&& 3:Nat):Int)))) F rfl (q9 rfl (by rw[← hbits.2.2.1];exact (F.e rfl)) (jNn _ _ (Nat.lt_of_le_of_lt Nat.and_le_right (by decide)))) ?_;intro A F;refine zd ?_;intro A F;refine j3 F rfl (jF rfl (F.e rfl) jA (vu (i:=S4.num 1) (j:=32) (by decide) (jH (by omega) (by omega)))) ?_;intro A F;refine zb (vc (i:=((S4.num 1) / 32)) (j:=2) (by decide)) ?_;intro A F;refine j3 (v:=(.bool (!decide (S4.num 1 &&& 32=0)))) F rfl (jF rfl (F.e rfl) jA (j6z (by rw[← hbits.2.2.2.1];exact decide_eq_decide.2 (by omega)))) ?_;intro A F;refine zd ?_;intro A F;refine j3 F rfl (jF rfl (F.e rfl) jA (vu (i:=S4.num 1) (j:=64) (by decide) (jH (by omega) (by omega)))) ?_;intro A F;refine zb (vc (i:=((S4.num 1) / 64)) (j:=2) (by decide)) ?_;intro A F;refine j3 (v:=(.bool (!decide (S4.num 1 &&& 64=0)))) F rfl (jF rfl (F.e rfl) jA (j6z (by rw[← hbits.2.2.2.2.1];exact decide_eq_decide.2 (by omega)))) ?_;intro A F;refine zd ?_;intro A F;refine j3 F rfl (jF rfl (F.e rfl) jA (vu (i:=S4.num 1) (j:=128) (by decide) (jH (by omega) (by omega)))) ?_;intro A F;refine zb (vc (i:=((S4.num 1) / 128)) (j:=2) (by decide)) ?_;intro A F;refine j3 (v:=(.bool (!decide (S4.num 1 &&& 128=0)))) F rfl (jF rfl (F.e rfl) jA (j6z (by rw[← hbits.2.2.2.2.2];exact decide_eq_decide.2 (by omega)))) ?_;intro A F;refine j3 F rfl (jK rfl (F.e rfl)) ?_;intro A F;refine zd ?_;intro A F;let P11:Pk:={P9 with clean:=!decide (S4.num 1 &&& 2=0)}
 refine zs [_] ((Pk.cells P11 s)) ?_;intro W H9 hk;replace hZ:=hZ.st (H.b.at_ (j:=1) rfl).1 (ne9 rfl) (ne9 rfl) (.inr (.inr (.inl rfl))) hk;replace hPp:=hPp.propK hk (jq (H.b.at_ (j:=1) rfl).1 (jn _ _));clear H hk;have H:=H9;clear H9;refine j3 F rfl (jK rfl (F.e rfl)) ?_;intro A F;refine zd ?_;intro A F;let P12:Pk:={P11 with hasWill:=!decide (S4.num 1 &&& 4=0)}
 refine zs [_] ((Pk.cells P12 s)) ?_;intro W H9 hk;replace hZ:=hZ.st (H.b.at_ (j:=1) rfl).1 (ne9 rfl) (ne9 rfl) (.inr (.inr (.inl rfl))) hk;replace hPp:=hPp.propK hk (jq (H.b.at_ (j:=1) rfl).1 (jn _ _));clear H hk;have H:=H9;clear H9;refine j3 F rfl (jK rfl (F.e rfl)) ?_;intro A F;refine zd ?_;intro A F;let P13:Pk:={P12 with willQoS:=(S4.num 1 / 8 &&& 3)}
 refine zs [_] ((Pk.cells P13 s)) ?_;intro W H9 hk;replace hZ:=hZ.st (H.b.at_ (j:=1) rfl).1 (ne9 rfl) (ne9 rfl) (.inr (.inr (.inl rfl))) hk;replace hPp:=hPp.propK hk (jq (H.b.at_ (j:=1) rfl).1 (jn _ _));clear H hk;have H:=H9;clear H9;refine j3 F rfl (jK rfl (F.e rfl)) ?_;intro A F;refine zd ?_;intro A F;let P14:Pk:={P13 with willRetain:=!decide (S4.num 1 &&& 32=0)}
 refine zs [_] ((Pk.cells P14 s)) ?_;intro W H9 hk;replace hZ:=hZ.st (H.b.at_ (j:=1) rfl).1 (ne9 rfl) (ne9 rfl) (.inr (.inr (.inl rfl))) hk;replace hPp:=hPp.propK hk (jq (H.b.at_ (j:=1) rfl).1 (jn _ _));clear H hk;have H:=H9;clear H9;refine j3 F rfl (jK rfl (F.e rfl)) ?_;intro A F;refine zd ?_;intro A F;let P15:Pk:={P14 with hasPass:=!decide (S4.num 1 &&& 64=0)}
 refine zs [_] ((Pk.cells P15 s)) ?_;intro W H9 hk;replace hZ:=hZ.st (H.b.at_ (j:=1) rfl).1 (ne9 rfl) (ne9 rfl) (.inr (.inr (.inl rfl))) hk;replace hPp:=hPp.propK hk (jq (H.b.at_ (j:=1) rfl).1 (jn _ _));clear H hk;have H:=H9;clear H9;refine j3 F rfl (jK rfl (F.e rfl)) ?_;intro A F;refine zd ?_;intro A F;let P16:Pk:={P15 with hasUser:=!decide (S4.num 1 &&& 128=0)}
 refine zs [_] ((Pk.cells P16 s)) ?_;intro W H9 hk;replace hZ:=hZ.st (H.b.at_ (j:=1) rfl).1 (ne9 rfl) (ne9 rfl) (.inr (.inr (.inl rfl))) hk;replace hPp:=hPp.propK hk (jq (H.b.at_ (j:=1) rfl).1 (jn _ _));clear H hk;have H:=H9;clear H9;refine nn (hK10 _ _) ?_;refine sg λK17 hK17=>?_
 iterate 2 (refine zd ?_;intro A F)
 refine j3 F rfl (jK rfl (F.e rfl)) ?_;intro A F
 iterate 3 (refine zd ?_;intro A F)
 refine zg ?_;intro A F;refine zgb (j4g) ?_;intro A F;refine j3 F rfl (jN rfl (F.e rfl) (λhx=>(F.o rfl (gnt hx))) rfl) ?_;intro A F;refine zd ?_;intro A F
 iterate 2 (refine zg ?_;intro A F)
 refine q6 F rfl (jv F rfl rfl rfl) (λhG=>(jK rfl (F.o rfl hG))) ?_;intro A F;refine zB F rfl rfl (jv F rfl rfl rfl) rfl rfl (λhG=>(F.o rfl hG)) (jCy _ _ _) (j4q _) (H.c 0 rfl rfl) ?_;intro A F;refine zgb (vn) ?_;intro A F;refine j3 F rfl (jN rfl (F.e rfl) (λhx=>(F.o rfl (gnt hx))) rfl) ?_;intro A F;refine zd ?_;intro A F;refine zg ?_;intro A F;refine zgb (vc (i:=S4.num 1) (j:=2) (by decide)) ?_;intro A F;refine zgb (jt (i:=((S4.num 1) % 2)) (j:=1)) ?_;intro A F;refine j3 F rfl (jN rfl (F.e rfl) (λhx=>(F.o rfl (gnt hx))) rfl) ?_;intro A F;refine zd ?_;intro A F;refine zg ?_;intro A F;refine q6 F rfl (jv F rfl rfl rfl) (λhG=>(jK rfl (F.o rfl hG))) ?_;intro A F;refine zB F rfl rfl (jv F rfl rfl rfl) rfl rfl (λhG=>(F.o rfl hG)) (jCv _ _ _) (jLx _) (H.c 1 rfl rfl) ?_;intro A F
 iterate 3 (refine zg ?_;intro A F)
 refine q6 F rfl (zy F rfl rfl rfl) (λhG=>(jF rfl (F.o rfl hG) jA (vu (i:=S4.num 1) (j:=8) (by decide) (jH (by omega) (by omega))))) ?_;intro A F;refine zgb (vc (i:=((S4.num 1) / 8)) (j:=8) (by decide)) ?_;intro A F;refine zgb (qN (i:=((((S4.num 1) / 8)) % 8)) (j:=0)) ?_;intro A F;refine zg ?_;intro A F;refine j3 F rfl (jN rfl (F.e rfl) (λhx=>(F.o rfl (gnt hx))) rfl) ?_;intro A F;refine j3 F rfl (jK rfl (F.e rfl)) ?_;intro A F;refine zd ?_;intro A F;refine zs [] (#[(.pointer (some ⟨r,0,none⟩)),(.int .i64 v),(.bool ((((S8.b||(!decide (S.bin=⟨#[77,81,84,84]⟩)))||(!decide ((S2.num 1:Int)=v)))||(decide (((S4.num 1) % 2)=1)))||((!(!decide (S4.num 1 &&& 4=0)))&&(!decide (((((S4.num 1) / 8)) % 8)=0)))))]) ?_;intro W H9 hk;replace hZ:=hZ.st (H.b.at_ (j:=0) rfl).1 (ne9 rfl) (ne9 rfl) (.inr (.inl rfl)) hk;replace hPp:=hPp.propK hk (jq (H.b.at_ (j:=0) rfl).1 (nu3 (by simp) (by simp) (by simp)));clear H hk;have H:=H9;clear H9;refine nn (hK17 _ _) ?_;refine wp_seq_k λK18 hK18=>?_;obtain ⟨S19,hS19⟩:∃ S9:Ts,S9=⟨S8.l,S8.e,((((S8.b||(!decide (S.bin=⟨#[77,81,84,84]⟩)))||(!decide ((S2.num 1:Int)=v)))||(decide (((S4.num 1) % 2)=1)))||((!(!decide (S4.num 1 &&& 4=0)))&&(!decide (((((S4.num 1) / 8)) % 8)=0))))⟩:=⟨_,rfl⟩
 have hb9:(((((S8.b||(!decide (S.bin=⟨#[77,81,84,84]⟩)))||(!decide ((S2.num 1:Int)=v)))||(decide (((S4.num 1) % 2)=1)))||((!(!decide (S4.num 1 &&& 4=0)))&&(!decide (((((S4.num 1) / 8)) % 8)=0)))))=S19.b:=by rw[hS19]
 rw[hb9]at H;clear hb9;replace hZ:=hZ.same (S':=S19) (by rw[hS19]) (by rw[hS19]);refine jC ?_
 iterate 2 (refine zd ?_;intro A F)
 obtain ⟨htb,ht0⟩:=H.b.at_ (j:=0) rfl;refine jI (λ(x:Ts × Option Addr × Nat)=>[⟨t,68,#[(.pointer (some ⟨r,0,none⟩)),(.int .i64 v),(.bool x.1.b)]⟩,⟨q,34,(Pk.cells P16 s)⟩]) (λx=>ScD B _ v t r (S19.sec v) (S19.rdS v) x.1 x.2.1 x.2.2) F rfl (j5 rfl rfl (j4 (F.e rfl) j8) j52) (zL B w0 _ t r v S19 ⟨H.k,htb,ht0,by simp,trivial⟩ hr0 hZ.r hZ.n) (λx9 _ _ h=>Hp.re H (h.z.k) (ge2 hr0 ht0) ⟨⟨rfl,λ_=>h.tb⟩,⟨kD2 (h.z.k) hZ.r.blk (ne9 rfl) htb (ne9 rfl),trivial⟩⟩) ?_;clear F H A;intro x9 vv W A hR H F;obtain ⟨S20,a20,c20⟩:=x9;replace hR:ScD B _ v t r (S19.sec v) (S19.rdS v) S20 a20 c20 vv W:=hR;obtain ⟨rfl,hS20,hZ9,-,hP20⟩:=hR
 try dsimp only at H
 replace hPp:=hPp.propK hZ9.k (vO2 hZ.r htb (nu3 (by simp) (by simp) (by simp)));replace hZ:=hZ.step hZ9 tq2;clear hZ9;clear htb ht0;refine j3 F rfl (jK rfl (F.e rfl)) ?_;intro A F;refine zd ?_;intro A F;let s21:Sl:={s with pa:=a20,pc:=c20}
 let P22:Pk:={P16 with props:=(S19.sec v)}
 refine zs [_] ((Pk.cells P22 s21)) ?_;intro W H9 hk;replace hZ:=hZ.st (H.b.at_ (j:=1) rfl).1 (ne9 rfl) (ne9 rfl) (.inr (.inr (.inl rfl))) hk;replace hPp:=hPp.propK hk (jq (H.b.at_ (j:=1) rfl).1 (jn _ _));replace hP20:=hP20.propK hk (jq (H.b.at_ (j:=1) rfl).1 (jn _ _));clear H hk;have H:=H9;clear H9;refine nn (hK18 _ _) ?_;refine sg λK23 hK23=>?_
 iterate 2 (refine zd ?_;intro A F)
 obtain ⟨htb,ht0⟩:=H.b.at_ (j:=0) rfl;refine jI (λ(x:Ts)=>[⟨t,68,#[(.pointer (some ⟨r,0,none⟩)),(.int .i64 v),(.bool x.b)]⟩,⟨q,34,(Pk.cells P22 s21)⟩]) (TcD B _ v t r (.string S20.bin) S20.rdT) F rfl (j5 rfl rfl (j4 (F.e rfl) j8) j9k) (zu B w0 _ t r v S20 ⟨H.k,htb,ht0,by simp,trivial⟩ hr0 hZ.r hZ.n) (λS24 _ _ h=>Hp.re H (h.z.k) (ge2 hr0 ht0) ⟨⟨rfl,λ_=>h.tb⟩,⟨kD2 (h.z.k) hZ.r.blk (ne9 rfl) htb (ne9 rfl),trivial⟩⟩) ?_;clear F H A;intro S24 vv W A hR H F;obtain ⟨rfl,hS24,hZ9,-⟩:=hR
 try dsimp only at H
 replace hPp:=hPp.propK hZ9.k (vO2 hZ.r htb (nu3 (by simp) (by simp) (by simp)));replace hP20:=hP20.propK hZ9.k (vO2 hZ.r htb (nu3 (by simp) (by simp) (by simp)));replace hZ:=hZ.step hZ9 tq2;clear hZ9;clear htb ht0;refine j3 F rfl (jK rfl (F.e rfl)) ?_;intro A F;refine zd ?_;intro A F;let P25:Pk:={P22 with client:=S20.bin}
 refine zs [_] ((Pk.cells P25 s21)) ?_;intro W H9 hk;replace hZ:=hZ.st (H.b.at_ (j:=1) rfl).1 (ne9 rfl) (ne9 rfl) (.inr (.inr (.inl rfl))) hk;replace hPp:=hPp.propK hk (jq (H.b.at_ (j:=1) rfl).1 (jn _ _));replace hP20:=hP20.propK hk (jq (H.b.at_ (j:=1) rfl).1 (jn _ _));clear H hk;have H:=H9;clear H9;refine nn (hK23 _ _) ?_;refine vS (λA W=>∃ P26:Pk,∃ S26:Ts,∃ s26:Sl,Fr A 165 [(0,(.pointer (some ⟨t,0,none⟩))),(1,(.pointer (some ⟨q,0,none⟩)))]∧Hp w0 W [⟨t,68,#[(.pointer (some ⟨r,0,none⟩)),(.int .i64 v),(.bool S26.b)]⟩,⟨q,34,(Pk.cells P26 s26)⟩]∧(P26=(j03 v (S4.num 1) P25 S24).1)∧(S26=(j03 v (S4.num 1) P25 S24).2)∧(Rd B w (Tq t q r) r S26 W)∧(Row W (s26).wa (PC P26.willProps))∧(Row W (s26).pa (PC P26.props))∧(P26.filters=[])∧(P26.codes=[])∧((s26).ca=none∧(s26).cc=0)) (λA W hM=>?_) (λK27 hK27=>?_)
 rotate_left
 ·skip
  refine sg λK28 hK28=>?_;refine zd ?_;intro A F;refine j3 F rfl (jK rfl (F.e rfl)) ?_;intro A F
  iterate 2 (refine zd ?_;intro A F)
  refine nn (hK28 _ _) ?_;refine zc (λhb29=>?_) (λhb29=>?_)
  ·skip
   replace F:=((F.nil.cons (F.g 1 _ rfl)).cons (F.g 0 _ rfl))
   refine sg λK30 hK30=>?_
   iterate 2 (refine zd ?_;intro A F)
   obtain ⟨htb,ht0⟩:=H.b.at_ (j:=0) rfl;refine jI (λ(x:Ts × Option Addr × Nat)=>[⟨t,68,#[(.pointer (some ⟨r,0,none⟩)),(.int .i64 v),(.bool x.1.b)]⟩,⟨q,34,(Pk.cells P25 s21)⟩]) (λx=>ScD B _ v t r (S24.sec v) (S24.rdS v) x.1 x.2.1 x.2.2) F rfl (j5 rfl rfl (j4 (F.e rfl) j8) j52) (zL B w0 _ t r v S24 ⟨H.k,htb,ht0,by simp,trivial⟩ hr0 hZ.r hZ.n) (λx9 _ _ h=>Hp.re H (h.z.k) (ge2 hr0 ht0) ⟨⟨rfl,λ_=>h.tb⟩,⟨kD2 (h.z.k) hZ.r.blk (ne9 rfl) htb (ne9 rfl),trivial⟩⟩) ?_;clear F H A;intro x9 vv W A hR H F;obtain ⟨S31,a31,c31⟩:=x9;replace hR:ScD B _ v t r (S24.sec v) (S24.rdS v) S31 a31 c31 vv W:=hR;obtain ⟨rfl,hS31,hZ9,-,hP31⟩:=hR
   try dsimp only at H
   replace hPp:=hPp.propK hZ9.k (vO2 hZ.r htb (nu3 (by simp) (by simp) (by simp)));replace hP20:=hP20.propK hZ9.k (vO2 hZ.r htb (nu3 (by simp) (by simp) (by simp)));replace hZ:=hZ.step hZ9 tq2;clear hZ9;clear htb ht0;refine j3 F rfl (jK rfl (F.e rfl)) ?_;intro A F;refine zd ?_;intro A F;let s32:Sl:={s21 with wa:=a31,wc:=c31}
   let P33:Pk:={P25 with willProps:=(S24.sec v)}
   refine zs [_] ((Pk.cells P33 s32)) ?_;intro W H9 hk;replace hZ:=hZ.st (H.b.at_ (j:=1) rfl).1 (ne9 rfl) (ne9 rfl) (.inr (.inr (.inl rfl))) hk;replace hPp:=hPp.propK hk (jq (H.b.at_ (j:=1) rfl).1 (jn _ _));replace hP20:=hP20.propK hk (jq (H.b.at_ (j:=1) rfl).1 (jn _ _));replace hP31:=hP31.propK hk (jq (H.b.at_ (j:=1) rfl).1 (jn _ _));clear H hk;have H:=H9;clear H9;refine nn (hK30 _ _) ?_;refine sg λK34 hK34=>?_
   iterate 2 (refine zd ?_;intro A F)
   obtain ⟨htb,ht0⟩:=H.b.at_ (j:=0) rfl;refine jI (λ(x:Ts)=>[⟨t,68,#[(.pointer (some ⟨r,0,none⟩)),(.int .i64 v),(.bool x.b)]⟩,⟨q,34,(Pk.cells P33 s32)⟩]) (TcD B _ v t r (.string S31.bin) S31.rdT) F rfl (j5 rfl rfl (j4 (F.e rfl) j8) j9k) (zu B w0 _ t r v S31 ⟨H.k,htb,ht0,by simp,trivial⟩ hr0 hZ.r hZ.n) (λS35 _ _ h=>Hp.re H (h.z.k) (ge2 hr0 ht0) ⟨⟨rfl,λ_=>h.tb⟩,⟨kD2 (h.z.k) hZ.r.blk (ne9 rfl) htb (ne9 rfl),trivial⟩⟩) ?_;clear F H A;intro S35 vv W A hR H F;obtain ⟨rfl,hS35,hZ9,-⟩:=hR
   try dsimp only at H
   replace hPp:=hPp.propK hZ9.k (vO2 hZ.r htb (nu3 (by simp) (by simp) (by simp)));replace hP20:=hP20.propK hZ9.k (vO2 hZ.r htb (nu3 (by simp) (by simp) (by simp)));replace hP31:=hP31.propK hZ9.k (vO2 hZ.r htb (nu3 (by simp) (by simp) (by simp)));replace hZ:=hZ.step hZ9 tq2;clear hZ9;clear htb ht0;refine j3 F rfl (jK rfl (F.e rfl)) ?_;intro A F;refine zd ?_;intro A F;let P36:Pk:={P33 with willTopic:=S31.bin}
   refine zs [_] ((Pk.cells P36 s32)) ?_;intro W H9 hk;replace hZ:=hZ.st (H.b.at_ (j:=1) rfl).1 (ne9 rfl) (ne9 rfl) (.inr (.inr (.inl rfl))) hk;replace hPp:=hPp.propK hk (jq (H.b.at_ (j:=1) rfl).1 (jn _ _));replace hP20:=hP20.propK hk (jq (H.b.at_ (j:=1) rfl).1 (jn _ _));replace hP31:=hP31.propK hk (jq (H.b.at_ (j:=1) rfl).1 (jn _ _));clear H hk;have H:=H9;clear H9;refine nn (hK34 _ _) ?_;refine jC ?_
   iterate 2 (refine zd ?_;intro A F)
   refine j3 F rfl (jK rfl (F.e rfl)) ?_;intro A F
   iterate 2 (refine zd ?_;intro A F)
   refine jI (λ(x:Ts)=>[⟨t,68,#[(.pointer (some ⟨r,0,none⟩)),(.int .i64 v),(.bool x.b)]⟩,⟨q,34,(Pk.cells P36 s32)⟩]) (RdD B _ r (.string S35.bin) S35.rdB) F rfl (j5 rfl rfl (j4 (F.e rfl) j8) jD2) (jIt hZ) (λS37 _ _ h=>Hp.re H (h.2.2.k) (ge1 hr0) ⟨⟨rfl,λhb=>by rw[show S37=_ from h.2.1];exact (kD1 (h.2.2.k) hZ.r.blk (ne9 rfl)).2 hb⟩,⟨kD1 (h.2.2.k) hZ.r.blk (ne9 rfl),trivial⟩⟩) ?_;clear F H A;intro S37 vv W A hR H F;obtain ⟨rfl,hS37,hZ9⟩:=hR
   try dsimp only at H
   replace hPp:=hPp.propK hZ9.k (vO1 hZ.r);replace hP20:=hP20.propK hZ9.k (vO1 hZ.r);replace hP31:=hP31.propK hZ9.k (vO1 hZ.r);replace hZ:=hZ.step hZ9 tq1;clear hZ9;refine j3 F rfl (jK rfl (F.e rfl)) ?_;intro A F;refine zd ?_;intro A F;let P38:Pk:={P36 with willLoad:=S35.bin}
   refine zs [_] ((Pk.cells P38 s32)) ?_;intro W H9 hk;replace hZ:=hZ.st (H.b.at_ (j:=1) rfl).1 (ne9 rfl) (ne9 rfl) (.inr (.inr (.inl rfl))) hk;replace hPp:=hPp.propK hk (jq (H.b.at_ (j:=1) rfl).1 (jn _ _));replace hP20:=hP20.propK hk (jq (H.b.at_ (j:=1) rfl).1 (jn _ _));replace hP31:=hP31.propK hk (jq (H.b.at_ (j:=1) rfl).1 (jn _ _));clear H hk;have H:=H9;clear H9;refine wpList_nil ?_;exact hK27 _ _ ⟨P38,S37,s32,((F.nil.cons (F.g 1 _ rfl)).cons (F.g 0 _ rfl)),H,(by subst hS37;subst hS35;subst hS31;exact (congrArg Prod.fst (show (j03 v (S4.num 1) P25 S24)=_ from if_pos hb29)).symm),(by subst hS37;subst hS35;subst hS31;exact (congrArg Prod.snd (show (j03 v (S4.num 1) P25 S24)=_ from if_pos hb29)).symm),hZ,hP31,hP20,(by subst hP1;rfl),(by subst hP1;rfl),hE.sc⟩
  replace F:=((F.nil.cons (F.g 1 _ rfl)).cons (F.g 0 _ rfl))
  refine wp_skip ?_;exact hK27 _ _ ⟨P25,S24,s21,((F.nil.cons (F.g 1 _ rfl)).cons (F.g 0 _ rfl)),H,(congrArg Prod.fst (show (j03 v (S4.num 1) P25 S24)=_ from if_neg (by have h9:(!decide (S4.num 1 &&& 4=0))=false:=hb29;show ¬ (!decide (S4.num 1 &&& 4=0))=true;rw[h9];decide))).symm,(congrArg Prod.snd (show (j03 v (S4.num 1) P25 S24)=_ from if_neg (by have h9:(!decide (S4.num 1 &&& 4=0))=false:=hb29;show ¬ (!decide (S4.num 1 &&& 4=0))=true;rw[h9];decide))).symm,hZ,xf (by subst hP1;rfl),hP20,(by subst hP1;rfl),(by subst hP1;rfl),hE.sc⟩
 clear F H;obtain ⟨P26,S26,s26,F,H,hP26,hS26,hZ,hPw26,hPp26,hnf26,hnc26,hsc26⟩:=hM;refine vS (λA W=>∃ P39:Pk,∃ S39:Ts,∃ s39:Sl,Fr A 165 [(0,(.pointer (some ⟨t,0,none⟩))),(1,(.pointer (some ⟨q,0,none⟩)))]∧Hp w0 W [⟨t,68,#[(.pointer (some ⟨r,0,none⟩)),(.int .i64 v),(.bool S39.b)]⟩,⟨q,34,(Pk.cells P39 s39)⟩]∧(P39=(xU P26 S26).1)∧(S39=(xU P26 S26).2)∧(Rd B w (Tq t q r) r S39 W)∧(Row W (s39).wa (PC P39.willProps))∧(Row W (s39).pa (PC P39.props))∧(P39.filters=[])∧(P39.codes=[])∧((s39).ca=none∧(s39).cc=0)) (λA W hM=>?_) (λK40 hK40=>?_)
 rotate_left
 ·skip
  refine sg λK41 hK41=>?_;refine zd ?_;intro A F;refine j3 F rfl (jK rfl (F.e rfl)) ?_;intro A F
  iterate 2 (refine zd ?_;intro A F)
  refine nn (hK41 _ _) ?_;refine zc (λhb42=>?_) (λhb42=>?_)
  ·skip
   refine jC ?_
   iterate 2 (refine zd ?_;intro A F)
   obtain ⟨htb,ht0⟩:=H.b.at_ (j:=0) rfl;refine jI (λ(x:Ts)=>[⟨t,68,#[(.pointer (some ⟨r,0,none⟩)),(.int .i64 v),(.bool x.b)]⟩,⟨q,34,(Pk.cells P26 s26)⟩]) (TcD B _ v t r (.string S26.bin) S26.rdT) F rfl (j5 rfl rfl (j4 (F.e rfl) j8) j9k) (zu B w0 _ t r v S26 ⟨H.k,htb,ht0,by simp,trivial⟩ hr0 hZ.r hZ.n) (λS43 _ _ h=>Hp.re H (h.z.k) (ge2 hr0 ht0) ⟨⟨rfl,λ_=>h.tb⟩,⟨kD2 (h.z.k) hZ.r.blk (ne9 rfl) htb (ne9 rfl),trivial⟩⟩) ?_;clear F H A;intro S43 vv W A hR H F;obtain ⟨rfl,hS43,hZ9,-⟩:=hR
   try dsimp only at H
   replace hPw26:=hPw26.propK hZ9.k (vO2 hZ.r htb (nu3 (by simp) (by simp) (by simp)));replace hPp26:=hPp26.propK hZ9.k (vO2 hZ.r htb (nu3 (by simp) (by simp) (by simp)));replace hZ:=hZ.step hZ9 tq2;clear hZ9;clear htb ht0;refine j3 F rfl (jK rfl (F.e rfl)) ?_;intro A F;refine zd ?_;intro A F;let P44:Pk:={P26 with user:=S26.bin}
   refine zs [_] ((Pk.cells P44 s26)) ?_;intro W H9 hk;replace hZ:=hZ.st (H.b.at_ (j:=1) rfl).1 (ne9 rfl) (ne9 rfl) (.inr (.inr (.inl rfl))) hk;replace hPw26:=hPw26.propK hk (jq (H.b.at_ (j:=1) rfl).1 (jn _ _));replace hPp26:=hPp26.propK hk (jq (H.b.at_ (j:=1) rfl).1 (jn _ _));clear H hk;have H:=H9;clear H9;refine wpList_nil ?_;exact hK40 _ _ ⟨P44,S43,s26,((F.nil.cons (F.g 1 _ rfl)).cons (F.g 0 _ rfl)),H,(by subst hS43;exact (congrArg Prod.fst (show (xU P26 S26)=_ from if_pos hb42)).symm),(by subst hS43;exact (congrArg Prod.snd (show (xU P26 S26)=_ from if_pos hb42)).symm),hZ,hPw26,hPp26,hnf26,hnc26,hsc26⟩
  refine wp_skip ?_;exact hK40 _ _ ⟨P26,S26,s26,((F.nil.cons (F.g 1 _ rfl)).cons (F.g 0 _ rfl)),H,(congrArg Prod.fst (show (xU P26 S26)=_ from if_neg (by have h9:(P26.hasUser)=false:=hb42;show ¬ (P26.hasUser)=true;rw[h9];decide))).symm,(congrArg Prod.snd (show (xU P26 S26)=_ from if_neg (by have h9:(P26.hasUser)=false:=hb42;show ¬ (P26.hasUser)=true;rw[h9];decide))).symm,hZ,hPw26,hPp26,hnf26,hnc26,hsc26⟩
 clear F H;obtain ⟨P39,S39,s39,F,H,hP39,hS39,hZ,hPw39,hPp39,hnf39,hnc39,hsc39⟩:=hM;refine sg λK45 hK45=>?_;refine zd ?_;intro A F;refine j3 F rfl (jK rfl (F.e rfl)) ?_;intro A F
 iterate 2 (refine zd ?_;intro A F)
 refine nn (hK45 _ _) ?_;refine zc (λhb46=>?_) (λhb46=>?_)
 ·skip
  refine jC ?_
  iterate 2 (refine zd ?_;intro A F)
  refine j3 F rfl (jK rfl (F.e rfl)) ?_;intro A F
  iterate 2 (refine zd ?_;intro A F)
  refine jI (λ(x:Ts)=>[⟨t,68,#[(.pointer (some ⟨r,0,none⟩)),(.int .i64 v),(.bool x.b)]⟩,⟨q,34,(Pk.cells P39 s39)⟩]) (RdD B _ r (.string S39.bin) S39.rdB) F rfl (j5 rfl rfl (j4 (F.e rfl) j8) jD2) (jIt hZ) (λS47 _ _ h=>Hp.re H (h.2.2.k) (ge1 hr0) ⟨⟨rfl,λhb=>by rw[show S47=_ from h.2.1];exact (kD1 (h.2.2.k) hZ.r.blk (ne9 rfl)).2 hb⟩,⟨kD1 (h.2.2.k) hZ.r.blk (ne9 rfl),trivial⟩⟩) ?_;clear F H A;intro S47 vv W A hR H F;obtain ⟨rfl,hS47,hZ9⟩:=hR
  try dsimp only at H
  replace hPw39:=hPw39.propK hZ9.k (vO1 hZ.r);replace hPp39:=hPp39.propK hZ9.k (vO1 hZ.r);replace hZ:=hZ.step hZ9 tq1;clear hZ9;refine j3 F rfl (jK rfl (F.e rfl)) ?_;intro A F;refine zd ?_;intro A F;let P48:Pk:={P39 with pass:=S39.bin}
  refine zs [_] ((Pk.cells P48 s39)) ?_;intro W H9 hk;replace hZ:=hZ.st (H.b.at_ (j:=1) rfl).1 (ne9 rfl) (ne9 rfl) (.inr (.inr (.inl rfl))) hk;replace hPw39:=hPw39.propK hk (jq (H.b.at_ (j:=1) rfl).1 (jn _ _));replace hPp39:=hPp39.propK hk (jq (H.b.at_ (j:=1) rfl).1 (jn _ _));clear H hk;have H:=H9;clear H9;refine wpList_nil ?_;refine (show bodyPost _ Tryz.f22 RR Exit.normal _ _ from zn0 ?_);exact (by have hK9:=(show j13 P39 S39=_ from if_pos hb46);subst hS47 hS39 hP39 hS26 hP26 hS24 hS20 hS19 hS8 hS6 hS4 hS2 hP1;exact ⟨_,(_,_,s39),rfl,⟨rfl,(congrArg Prod.snd hK9).symm,(congrArg Prod.fst hK9).symm,hZ,(H.b.at_ (j:=0) rfl).1,(H.b.at_ (j:=1) rfl).1,hPw39,hPp39,hnf39,hnc39,hsc39⟩⟩)
 refine wp_skip ?_;refine (show bodyPost _ Tryz.f22 RR Exit.normal _ _ from zn0 ?_);exact (by have hK9:=(show j13 P39 S39=_ from if_neg (by have h9:(P39.hasPass)=false:=hb46;show ¬ (P39.hasPass)=true;rw[h9];decide));subst hS39 hP39 hS26 hP26 hS24 hS20 hS19 hS8 hS6 hS4 hS2 hP1;exact ⟨_,(_,_,s39),rfl,⟨rfl,(congrArg Prod.snd hK9).symm,(congrArg Prod.fst hK9).symm,hZ,(H.b.at_ (j:=0) rfl).1,(H.b.at_ (j:=1) rfl).1,hPw39,hPp39,hnf39,hnc39,hsc39⟩⟩)
theorem jKq:∀ f:Nat,f<256→(decide (f % 2=1) = !decide (f &&& 1=0))∧(decide (f &&& 4=0)=true→decide (f / 8 % 8=0)=decide (f &&& 56=0))∧(decide (f &&& 56=0)=true→(f / 8 &&& 3)=0∧(!decide (f &&& 32=0))=false):=by decide +kernel
def xI (v:Int) (s:Ts):Ts:=((((jE1 v s).rd 1).need (decide ((jE1 v s).num 1 &&& 1=0))).rd 2)
theorem Ts.ext9 {s t:Ts} (h1:s.l=t.l) (h2:s.e=t.e) (h3:s.b=t.b):s=t:=by
 cases s;cases t;simp only at h1 h2 h3;subst h1 h2 h3
 rfl
theorem jIp (v:Int) (s:Ts):(xI v s).l=(j0q v s).l∧(xI v s).e=(j0q v s).e:=⟨rfl,rfl⟩
theorem jC3 {s t:Ts} (v:Int) (h1:s.l=t.l) (h2:s.e=t.e):s.sec v=t.sec v∧(s.rdS v).l=(t.rdS v).l∧(s.rdS v).e=(t.rdS v).e∧(s.rdS v).b=(s.b||(if v=4 then false else !(qd s.l s.e).2)):=by
 unfold Ts.sec Ts.rdS;rw[h1,h2]
 split
 ·exact ⟨rfl,h1,h2,by simp⟩
 ·exact ⟨rfl,rfl,rfl,rfl⟩
theorem jCf {s t:Ts} (h1:s.l=t.l) (h2:s.e=t.e):s.bin=t.bin∧s.rdT.l=t.rdT.l∧s.rdT.e=t.rdT.e∧s.rdB.l=t.rdB.l∧s.rdB.e=t.rdB.e∧s.rdT.b=(s.b||!jm t.bin):=by
 obtain ⟨l,e,b⟩:=s;obtain ⟨l2,e2,b2⟩:=t;simp only at h1 h2;subst h1 h2;exact ⟨rfl,rfl,rfl,rfl,rfl,rfl⟩
theorem jIm {v:Int} {s:Ts}:jIl v s=((xI v s).b||(decide ((s.rdB.rd 1).num 1 &&& 4=0)&&!decide ((s.rdB.rd 1).num 1 &&& 56=0))):=by
 have hb:=jKq _ (ql (s.rdB.rd 1));have e1:(xI v s).b=(((s.b||!decide (s.bin=jEf))||!decide ((s.rdB.num 1:Int)=v))||!decide ((s.rdB.rd 1).num 1 &&& 1=0)):=rfl;rw[e1];unfold jIl;rw[hb.1];generalize (((s.b||!decide (s.bin=jEf))||!decide ((s.rdB.num 1:Int)=v))||!decide ((s.rdB.rd 1).num 1 &&& 1=0))=x;cases h:decide ((s.rdB.rd 1).num 1 &&& 4=0)
 ·simp
 ·rw[hb.2.1 h];simp
theorem jLp (f:Nat) (p:Pk) (s:Ts):j13 (xU {p with hasUser:=!decide (f &&& 128=0),hasPass:=!decide (f &&& 64=0)} s).1 (xU {p with hasUser:=!decide (f &&& 128=0),hasPass:=!decide (f &&& 64=0)} s).2=j2u f (zU f p s).1 (zU f p s).2:=by
 unfold xU zU j13 j2u;generalize (!decide (f &&& 128=0))=hu;generalize (!decide (f &&& 64=0))=hp;cases hu<;>cases hp<;>rfl
theorem jPl (p q:Pk) (s:Ts) (h1:p.hasUser=q.hasUser) (h2:p.hasPass=q.hasPass):(j13 (xU p s).1 (xU p s).2).2=(j13 (xU q s).1 (xU q s).2).2:=by
 unfold xU j13;rw[h1];cases h:q.hasUser<;>simp only[Bool.false_eq_true,if_true,if_false]<;>rw[h2]<;>cases h3:q.hasPass<;>rfl
theorem jQ2 (p:Pk) (s:Ts) (h:s.b=true):(j13 (xU p s).1 (xU p s).2).2.b=true:=by
 have hT:s.rdT.b=true:=by show (s.b||_)=true;rw[h];rfl
 unfold xU j13;cases p.hasUser<;>simp only[Bool.false_eq_true,if_true,if_false]<;>split<;>first|exact h|exact hT
def j4u (v:Int) (s:Ts):Pk:={zk 1 with clean:=!decide ((s.rdB.rd 1).num 1 &&& 2=0),keep:=((s.rdB.rd 1).rd 1).num 2,props:=(xI v s).sec v,client:=((xI v s).rdS v).bin}
theorem jFn (v:Int) (s:Ts):zq v s=j2u ((s.rdB.rd 1).num 1) (zU ((s.rdB.rd 1).num 1) (z8 v ((s.rdB.rd 1).num 1) (j4u v s) ((xI v s).rdS v).rdT).1 (z8 v ((s.rdB.rd 1).num 1) (j4u v s) ((xI v s).rdS v).rdT).2).1 (zU ((s.rdB.rd 1).num 1) (z8 v ((s.rdB.rd 1).num 1) (j4u v s) ((xI v s).rdS v).rdT).1 (z8 v ((s.rdB.rd 1).num 1) (j4u v s) ((xI v s).rdS v).rdT).2).2:=rfl
theorem jFm (v:Int) (s:Ts):j3o v s=j13 (xU (j03 v ((s.rdB.rd 1).num 1) (jB7 v s) ((j0q v s).rdS v).rdT).1 (j03 v ((s.rdB.rd 1).num 1) (jB7 v s) ((j0q v s).rdS v).rdT).2).1 (xU (j03 v ((s.rdB.rd 1).num 1) (jB7 v s) ((j0q v s).rdS v).rdT).1 (j03 v ((s.rdB.rd 1).num 1) (jB7 v s) ((j0q v s).rdS v).rdT).2).2:=rfl
theorem jIo (v:Int) (s:Ts):jB7 v s={j4u v s with hasWill:=!decide ((s.rdB.rd 1).num 1 &&& 4=0),hasUser:=!decide ((s.rdB.rd 1).num 1 &&& 128=0),hasPass:=!decide ((s.rdB.rd 1).num 1 &&& 64=0),willQoS:=(s.rdB.rd 1).num 1 / 8 &&& 3,willRetain:=!decide ((s.rdB.rd 1).num 1 &&& 32=0)}:=by
 have h1:=jC3 (s:=j0q v s) (t:=xI v s) v rfl rfl;have h2:=jCf h1.2.1 h1.2.2.1;unfold jB7 j4u;rw[h1.1,h2.1]
theorem j97 (v:Int) (s:Ts):(j3o v s).2=(zq v s).2∧((j3o v s).2.b=false→(j3o v s).1=(zq v s).1):=by
 have hf:(s.rdB.rd 1).num 1<256:=ql _;have hcb:=jIm (v:=v) (s:=s);have hle:=jIp v s;rw[jFn,jFm,jIo];have hSb:(j0q v s).b=jIl v s:=rfl;generalize (s.rdB.rd 1).num 1=f at *;rcases (Bool.eq_false_or_eq_true (decide (f &&& 4=0))).symm with h4|h4
 ·skip
  have e:j0q v s=xI v s:=Ts.ext9 hle.1.symm hle.2.symm (by rw[hSb,hcb,h4];simp);have h4':(!decide (f &&& 4=0))=true:=by rw[h4];rfl
  rw[e];unfold j03 z8;rw[if_pos h4',if_pos h4']
  have:=jLp f {j4u v s with hasWill:=!decide (f &&& 4=0),willQoS:=f / 8 &&& 3,willRetain:=!decide (f &&& 32=0),willProps:=((xI v s).rdS v).rdT.sec v,willTopic:=(((xI v s).rdS v).rdT.rdS v).bin,willLoad:=(((xI v s).rdS v).rdT.rdS v).rdT.bin} ((((xI v s).rdS v).rdT.rdS v).rdT.rdB)
  exact ⟨congrArg Prod.snd this,λ_=>congrArg Prod.fst this⟩
 ·skip
  have h4':¬ (!decide (f &&& 4=0))=true:=by rw[h4];decide
  unfold j03 z8;rw[if_neg h4',if_neg h4'];have h1:=jC3 (s:=j0q v s) (t:=xI v s) v rfl rfl;have h1':=jC3 (s:=xI v s) (t:=xI v s) v rfl rfl;have h2:=jCf h1.2.1 h1.2.2.1;have h2':=jCf (s:=(xI v s).rdS v) (t:=(xI v s).rdS v) rfl rfl
  have e:((j0q v s).rdS v).rdT=(((xI v s).rdS v).rdT).need (decide (f &&& 56=0)):=by
   refine Ts.ext9 h2.2.1 h2.2.2.1 ?_;show ((j0q v s).rdS v).rdT.b=(((xI v s).rdS v).rdT.b||!decide (f &&& 56=0));rw[h2.2.2.2.2.2,h2'.2.2.2.2.2,h1.2.2.2,h1'.2.2.2,hSb,hcb,h4];rw[show (j0q v s).l=(xI v s).l from rfl,show (j0q v s).e=(xI v s).e from rfl];generalize (xI v s).b=a;generalize (!decide (f &&& 56=0))=b;generalize (if v=4 then false else !(qd (xI v s).l (xI v s).e).2)=c;generalize (!jm ((xI v s).rdS v).bin)=d;cases a<;>cases b<;>cases c<;>cases d<;>rfl
  rw[e];have hq:=jLp f {j4u v s with hasWill:=!decide (f &&& 4=0)} ((((xI v s).rdS v).rdT).need (decide (f &&& 56=0)));have hs:=jPl {j4u v s with hasWill:=!decide (f &&& 4=0),hasUser:=!decide (f &&& 128=0),hasPass:=!decide (f &&& 64=0),willQoS:=f / 8 &&& 3,willRetain:=!decide (f &&& 32=0)} {j4u v s with hasWill:=!decide (f &&& 4=0),hasUser:=!decide (f &&& 128=0),hasPass:=!decide (f &&& 64=0)} ((((xI v s).rdS v).rdT).need (decide (f &&& 56=0))) rfl rfl;refine ⟨hs.trans (congrArg Prod.snd hq),λhb=>?_⟩;rcases (Bool.eq_false_or_eq_true (decide (f &&& 56=0))).symm with h5|h5
  ·skip
   have:=jQ2 {j4u v s with hasWill:=!decide (f &&& 4=0),hasUser:=!decide (f &&& 128=0),hasPass:=!decide (f &&& 64=0),willQoS:=f / 8 &&& 3,willRetain:=!decide (f &&& 32=0)} ((((xI v s).rdS v).rdT).need (decide (f &&& 56=0))) (by show (_||!decide (f &&& 56=0))=true;rw[h5];simp)
   have hb':=this.symm.trans hb;cases hb'
  ·skip
   have hw:=(jKq f hf).2.2 h5;rw[hw.1,hw.2];exact congrArg Prod.fst hq
end Go.Proofs.YtnehnjklgglliaaGreatDoor
