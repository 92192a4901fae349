import Derived.Test.YtkochkhfbhjicaaGreatDoorYFG
import Derived.Test.YtkochkhfbhjicaaGreatDoorYFV
import Derived.Test.YtkochkhfbhjicaaGreatDoorYFD
import Derived.Test.YtkochkhfbhjicaaGreatDoorYF2
import Derived.Test.YtkochkhfbhjicaaGreatDoorYFF
namespace Go.Proofs.YtkochkhfbhjicaaGreatDoor
open Go.RowKit
set_option linter.unusedVariables false
set_option linter.unusedSimpArgs false
set_option maxRecDepth 100000
theorem j76 (p:Pk) (s:Sl) (w:World) (hp:p.At s w) (hF:Fit p) (hT:Tabs w) :
  Calls Tryz.prog 96 #[p.val s] w λe w'=>e=.returned (.bool (zA p))∧Kept No w w':=by
 let RR:Ending→World→Prop:=λe w'=>e=.returned (.bool (zA p))∧Kept No w w'
 go_enter Tryz.func96,Tryz.ntmps96
 generalize hA:({tmps:=_,defers:=[]}:Act)=A;have F:Fr A 17 [(0,(Pk.val p s))]:=by rw[← hA];exact (Fr.cons (i:=0) (v:=(Pk.val p s)) (Fr.nil0 rfl rfl) rfl)
 clear hA;have H:=Hp.start w;refine sg λK1 hK1=>?_;refine jj (c:=(Pk.cells p s)) (t:=36) F H rfl (qW rfl (F.e rfl) (qX _ _)) ?_;clear F A;intro b2 W A hk hN H9 F;clear H;have H:=H9;clear H9;clear hk hN;refine zd ?_;intro A F;refine nn (hK1 _ _) ?_;refine sg λK3 hK3=>?_
 iterate 2 (refine zd ?_;intro A F)
 refine zb (j94 (i:=p.willQoS) (j:=2)) ?_;intro A F;refine zd ?_;intro A F
 iterate 2 (refine zg ?_;intro A F)
 refine qU F H rfl (qI F rfl rfl rfl) (λhG=>(j6 rfl rfl (j0 (F.o rfl hG) j9) jO2)) (λhG=>j69 p.willTopic _ (by have:=hF.r.client;have:=hF.r.user;have:=hF.r.topic;have:=hF.r.willTopic;omega) (hT.kept H.k)) ?_;clear F H A;intro W A hk H F;clear hk;refine j7 F rfl (jI rfl (F.e rfl) (λhx=>(F.o rfl hx)) rfl) ?_;intro A F;refine zd ?_;intro A F
 iterate 2 (refine zg ?_;intro A F)
 refine qQ F rfl (qI F rfl rfl rfl) (λhG=>(qH rfl (j0 (F.o rfl hG) j9) (vk Tryz.underlying9))) ?_;intro A F;refine qQ F rfl (qI F rfl rfl rfl) (λhG=>(jF rfl (F.o rfl hG) jD (j94 (i:=p.willLoad.size) (j:=65535)))) ?_;intro A F;refine j7 F rfl (jI rfl (F.e rfl) (λhx=>(F.o rfl hx)) rfl) ?_;intro A F;refine zd ?_;intro A F;refine nn (hK3 _ _) ?_;refine jH ?_;refine (show bodyPost _ Tryz.f96 RR Exit.ret _ _ from zr ?_);exact rb (by first|rfl|(simp only[zA,Bool.and_assoc,Bool.or_assoc,Bool.and_true,Bool.true_and,Bool.and_false,Bool.false_and]<;>rfl)|(simp[zA];done)|(simp only[zA];grind))
theorem j3g (v:Int) (p:Pk) (s:Sl) (w:World) (hp:p.At s w) (hF:Fit p) (hT:Tabs w) :
  Calls Tryz.prog 79 #[.int .i64 v,p.val s] w λe w'=>e=.returned (.bool (qk v p))∧Kept No w w':=by
 have hcl:decide (0<p.client.size) = !decide (p.client=⟨#[]⟩):=by
  by_cases h:p.client.size=0
  ·rw[zu h];rfl
  ·have h2:p.client≠⟨#[]⟩:=λe=>h (by rw[e];rfl)
   simp[h2];omega
 have hpl:decide (p.pass.size≤65535) = !decide (65535<p.pass.size):=by
  rw[Bool.eq_iff_iff];simp
 let RR:Ending→World→Prop:=λe w'=>e=.returned (.bool (qk v p))∧Kept No w w'
 go_enter Tryz.func79,Tryz.ntmps79
 generalize hA:({tmps:=_,defers:=[]}:Act)=A;have F:Fr A 46 [(1,(Pk.val p s)),(0,(.int .i64 v))]:=by rw[← hA];exact (Fr.cons (i:=1) (v:=(Pk.val p s)) (Fr.cons (i:=0) (v:=(.int .i64 v)) (Fr.nil0 rfl rfl) rfl) rfl)
 clear hA;have H:=Hp.start w;refine sg λK1 hK1=>?_;refine jj (c:=(Pk.cells p s)) (t:=36) F H rfl (qW rfl (F.e rfl) (qX _ _)) ?_;clear F A;intro b2 W A hk hN H9 F;clear H;have H:=H9;clear H9;clear hk hN;refine zd ?_;intro A F;refine nn (hK1 _ _) ?_;refine wp_seq_k λK3 hK3=>?_;refine sg λK4 hK4=>?_
 iterate 2 (refine zd ?_;intro A F)
 refine jf F H rfl (j6 rfl rfl (j0 (F.e rfl) j9) jKw) (xx p.client _ (by have:=hF.r.client;have:=hF.r.user;have:=hF.r.topic;have:=hF.r.willTopic;omega) (hT.kept H.k)) ?_;clear F H A;intro W A hk H F;clear hk
 iterate 2 (refine zd ?_;intro A F)
 iterate 2 (refine zg ?_;intro A F)
 refine qU F H rfl (zS F rfl rfl rfl) (λhG=>(j6 rfl rfl (j0 (F.o rfl hG) j9) jKw)) (λhG=>xx p.user _ (by have:=hF.r.client;have:=hF.r.user;have:=hF.r.topic;have:=hF.r.willTopic;omega) (hT.kept H.k)) ?_;clear F H A;intro W A hk H F;clear hk;refine zg ?_;intro A F;refine j7 F rfl (qL rfl (F.e rfl) (λhx=>(F.o rfl (gnt hx))) rfl) ?_;intro A F;refine zd ?_;intro A F
 iterate 2 (refine zg ?_;intro A F)
 refine qQ F rfl (zS F rfl rfl rfl) (λhG=>(qH rfl (j0 (F.o rfl hG) j9) (vk Tryz.underlying9))) ?_;intro A F;refine qQ F rfl (zS F rfl rfl rfl) (λhG=>(jF rfl (F.o rfl hG) jD (j1v (i:=p.pass.size) (j:=65535)))) ?_;intro A F;refine j7 F rfl (qL rfl (F.e rfl) (λhx=>(F.o rfl (gnt hx))) rfl) ?_;intro A F;refine nn (hK4 _ _) ?_;refine zc (λhb7=>?_) (λhb7=>?_)
 ·skip
  replace F:=(((F.nil.cons (F.g 4 _ rfl)).cons (F.g 3 _ rfl)).cons (F.g 0 _ rfl))
  refine sg λK8 hK8=>?_;refine zd ?_;intro A F;refine nn (hK8 _ _) ?_;refine jH ?_;refine (show bodyPost _ Tryz.f79 RR Exit.ret _ _ from zr ?_);exact rb (by first|rfl|(simp only[qk,hcl,hpl,hb7,Bool.and_assoc,Bool.or_assoc,Bool.and_true,Bool.true_and,Bool.and_false,Bool.false_and]<;>rfl)|(simp[qk,hcl,hpl,hb7];done)|(simp only[qk,hcl,hpl,hb7];grind))
 replace F:=(((F.nil.cons (F.g 4 _ rfl)).cons (F.g 3 _ rfl)).cons (F.g 0 _ rfl))
 refine wp_skip (hK3 _ _ ?_);refine wp_seq_k λK9 hK9=>?_;refine sg λK10 hK10=>?_
 iterate 3 (refine zd ?_;intro A F)
 refine qQ F rfl (qI F rfl rfl rfl) (λhG=>(jA rfl (F.e rfl) (jE ((Pk.cells p s)) rfl (jY _) (jQ _) (λi=>H.cs 0 rfl i)))) ?_;intro A F;refine qU F H rfl (qI F rfl rfl rfl) (λhG=>(j6 rfl rfl (j0 (F.o rfl hG) j9) jO1)) (λhG=>j76 p s _ (hp.kept H.k) hF (hT.kept H.k)) ?_;clear F H A;intro W A hk H F;clear hk;refine zg ?_;intro A F;refine j7 F rfl (jI rfl (F.e rfl) (λhx=>(F.o rfl hx)) rfl) ?_;intro A F;refine nn (hK10 _ _) ?_;refine zc (λhb12=>?_) (λhb12=>?_)
 ·skip
  refine sg λK13 hK13=>?_;refine zd ?_;intro A F;refine nn (hK13 _ _) ?_;refine jH ?_;refine (show bodyPost _ Tryz.f79 RR Exit.ret _ _ from zr ?_);exact rb (by first|rfl|(simp only[qk,hcl,hpl,hb7,hb12,Bool.and_assoc,Bool.or_assoc,Bool.and_true,Bool.true_and,Bool.and_false,Bool.false_and]<;>rfl)|(simp[qk,hcl,hpl,hb7,hb12];done)|(simp only[qk,hcl,hpl,hb7,hb12];grind))
 refine wp_skip (hK9 _ _ ?_);refine wp_seq_k λK14 hK14=>?_;refine sg λK15 hK15=>?_;refine zd ?_;intro A F;refine zb (jL) ?_;intro A F;refine nn (hK15 _ _) ?_;refine zc (λhb16=>?_) (λhb16=>?_)
 ·skip
  refine sg λK17 hK17=>?_;refine zd ?_;intro A F;refine nn (hK17 _ _) ?_;refine jH ?_;refine (show bodyPost _ Tryz.f79 RR Exit.ret _ _ from zr ?_);exact rb (by first|rfl|(simp only[qk,hcl,hpl,hb7,hb12,hb16,Bool.and_assoc,Bool.or_assoc,Bool.and_true,Bool.true_and,Bool.and_false,Bool.false_and]<;>rfl)|(simp[qk,hcl,hpl,hb7,hb12,hb16];done)|(simp only[qk,hcl,hpl,hb7,hb12,hb16];grind))
 refine wp_skip (hK14 _ _ ?_);refine sg λK18 hK18=>?_
 iterate 3 (refine zd ?_;intro A F)
 iterate 3 (refine zg ?_;intro A F)
 refine j7 F rfl (qL rfl (F.e rfl) (λhx=>(F.o rfl (gnt hx))) rfl) ?_;intro A F;refine zd ?_;intro A F
 iterate 5 (refine zg ?_;intro A F)
 refine qQ F rfl (j5w F rfl rfl rfl) (λhG=>(jF rfl (F.o rfl hG) jD (j4w))) ?_;intro A F;refine zg ?_;intro A F;refine j7 F rfl (jI rfl (F.e rfl) (λhx=>(F.o rfl hx)) rfl) ?_;intro A F;refine zd ?_;intro A F;refine nn (hK18 _ _) ?_;refine jH ?_;refine (show bodyPost _ Tryz.f79 RR Exit.ret _ _ from zr ?_);exact rb (by first|rfl|(simp only[qk,hcl,hpl,hb7,hb12,hb16,Bool.and_assoc,Bool.or_assoc,Bool.and_true,Bool.true_and,Bool.and_false,Bool.false_and]<;>rfl)|(simp[qk,hcl,hpl,hb7,hb12,hb16];done)|(simp only[qk,hcl,hpl,hb7,hb12,hb16];grind))
theorem vQ (v:Int) (p:Pk) (s:Sl) (w:World) (hp:p.At s w) (hF:Fit p) (hT:Tabs w) :
  Calls Tryz.prog 80 #[.int .i64 v,p.val s] w λe w'=>e=.returned (.bool (ke v p.kind p.code))∧Kept No w w':=by
 let RR:Ending→World→Prop:=λe w'=>e=.returned (.bool (ke v p.kind p.code))∧Kept No w w'
 go_enter Tryz.func80,Tryz.ntmps80
 generalize hA:({tmps:=_,defers:=[]}:Act)=A;have F:Fr A 11 [(1,(Pk.val p s)),(0,(.int .i64 v))]:=by rw[← hA];exact (Fr.cons (i:=1) (v:=(Pk.val p s)) (Fr.cons (i:=0) (v:=(.int .i64 v)) (Fr.nil0 rfl rfl) rfl) rfl)
 clear hA;have H:=Hp.start w;refine sg λK1 hK1=>?_;refine jj (c:=(Pk.cells p s)) (t:=36) F H rfl (qW rfl (F.e rfl) (qX _ _)) ?_;clear F A;intro b2 W A hk hN H9 F;clear H;have H:=H9;clear H9;clear hk hN;refine zd ?_;intro A F;refine nn (hK1 _ _) ?_;refine sg λK3 hK3=>?_
 iterate 5 (refine zd ?_;intro A F)
 refine jf F H rfl (j6 rfl rfl (j0 (F.e rfl) (j0 (F.e rfl) (j0 (F.e rfl) j9))) jKx) (j7q v p.kind p.code _ hF.code) ?_;clear F H A;intro W A hk H F;clear hk;refine zd ?_;intro A F;refine nn (hK3 _ _) ?_;refine jH ?_;refine (show bodyPost _ Tryz.f80 RR Exit.ret _ _ from zr ?_);exact rb (by first|rfl|(simp only[ke,Bool.and_assoc,Bool.or_assoc,Bool.and_true,Bool.true_and,Bool.and_false,Bool.false_and]<;>rfl)|(simp[ke];done)|(simp only[ke];grind))
theorem j2b (s:ByteArray):∃ s1 s2,j0z s=.tuple #[.string s1,.string s2,.bool (qu s)]:=by
 unfold j0z;cases qu s with
 | true=>exact ⟨_,_,rfl⟩
 | false=>exact ⟨_,_,rfl⟩
theorem j8y (v k:Int) (f:Fi) (w:World) (ho:f.opt<256) (ht:f.text.size≤140737488351232) (hT:Tabs w) :
  Calls Tryz.prog 100 #[.int .i64 v,.int .i64 k,f.val] w λe w'=>e=.returned (.bool (j3m v k f))∧Kept No w w':=by
 rw[← jJi v k f ho];let RR:Ending→World→Prop:=λe w'=>e=.returned (.bool (j13 v k f))∧Kept No w w'
 go_enter Tryz.func100,Tryz.ntmps100
 generalize hA:({tmps:=_,defers:=[]}:Act)=A;have F:Fr A 50 [(2,(.agg #[(.string f.text),(.int .u8 ((f.opt:Int)))])),(1,(.int .i64 k)),(0,(.int .i64 v))]:=by rw[← hA];exact (Fr.cons (i:=2) (v:=(.agg #[(.string f.text),(.int .u8 ((f.opt:Int)))])) (Fr.cons (i:=1) (v:=(.int .i64 k)) (Fr.cons (i:=0) (v:=(.int .i64 v)) (Fr.nil0 rfl rfl) rfl) rfl) rfl)
 clear hA;have H:=Hp.start w;refine sg λK1 hK1=>?_;refine jj (c:=#[(.string f.text),(.int .u8 ((f.opt:Int)))]) (t:=63) F H rfl (qW rfl (F.e rfl) (qX _ _)) ?_;clear F A;intro b2 W A hk hN H9 F;clear H;have H:=H9;clear H9;clear hk hN;refine zd ?_;intro A F;refine nn (hK1 _ _) ?_;refine wp_seq_k λK3 hK3=>?_;refine sg λK4 hK4=>?_;refine zd ?_;intro A F;refine zb (jL) ?_;intro A F;refine nn (hK4 _ _) ?_;refine zc (λhb5=>?_) (λhb5=>?_)
 ·skip
  refine sg λK6 hK6=>?_
  iterate 2 (refine zd ?_;intro A F)
  refine zb (jx (i:=f.opt) (j:=0)) ?_;intro A F;refine zd ?_;intro A F;refine nn (hK6 _ _) ?_;refine jH ?_;refine (show bodyPost _ Tryz.f100 RR Exit.ret _ _ from zr ?_);exact rb (by first|rfl|(simp only[j13,hb5,Bool.and_assoc,Bool.or_assoc,Bool.and_true,Bool.true_and,Bool.and_false,Bool.false_and]<;>rfl)|(simp[j13,hb5];done)|(simp only[j13,hb5];grind))
 refine wp_skip (hK3 _ _ ?_);refine wp_seq_k λK7 hK7=>?_;refine sg λK8 hK8=>?_
 iterate 2 (refine zd ?_;intro A F)
 refine j7 F rfl (jF rfl (F.e rfl) jD (j4u (m:=f.opt) (n:=3) (by omega) (by decide))) ?_;intro A F;refine zb (j1v (i:=((f.opt &&& 3))) (j:=2)) ?_;intro A F;refine nn (hK8 _ _) ?_;refine zc (λhb9=>?_) (λhb9=>?_)
 ·skip
  refine sg λK10 hK10=>?_;refine zd ?_;intro A F;refine nn (hK10 _ _) ?_;refine jH ?_;refine (show bodyPost _ Tryz.f100 RR Exit.ret _ _ from zr ?_);exact rb (by first|rfl|(simp only[j13,hb5,hb9,Bool.and_assoc,Bool.or_assoc,Bool.and_true,Bool.true_and,Bool.and_false,Bool.false_and]<;>rfl)|(simp[j13,hb5,hb9];done)|(simp only[j13,hb5,hb9];grind))
 refine wp_skip (hK7 _ _ ?_);refine wp_seq_k λK11 hK11=>?_;refine sg λK12 hK12=>?_;refine zd ?_;intro A F;refine zb (jL) ?_;intro A F;refine nn (hK12 _ _) ?_;refine zc (λhb13=>?_) (λhb13=>?_)
 ·skip
  refine sg λK14 hK14=>?_
  iterate 2 (refine zd ?_;intro A F)
  refine j7 F rfl (jF rfl (F.e rfl) jD (jBy (m:=f.opt) (n:=3) (by omega) (by decide))) ?_;intro A F;refine zb (jx (i:=((f.opt &&& 252))) (j:=0)) ?_;intro A F;refine zd ?_;intro A F;refine nn (hK14 _ _) ?_;refine jH ?_;refine (show bodyPost _ Tryz.f100 RR Exit.ret _ _ from zr ?_);exact rb (by first|rfl|(simp only[j13,hb5,hb9,hb13,Bool.and_assoc,Bool.or_assoc,Bool.and_true,Bool.true_and,Bool.and_false,Bool.false_and]<;>rfl)|(simp[j13,hb5,hb9,hb13];done)|(simp only[j13,hb5,hb9,hb13];grind))
 refine wp_skip (hK11 _ _ ?_);refine wp_seq_k λK15 hK15=>?_;refine sg λK16 hK16=>?_
 iterate 2 (refine zd ?_;intro A F)
 refine j7 F rfl (jF rfl (F.e rfl) jD (j4u (m:=f.opt) (n:=48) (by omega) (by decide))) ?_;intro A F;refine zb (jx (i:=((f.opt &&& 48))) (j:=48)) ?_;intro A F;refine zd ?_;intro A F
 iterate 2 (refine zg ?_;intro A F)
 refine qQ F rfl (zS F rfl rfl rfl) (λhG=>(jF rfl (F.o rfl hG) jD (j4u (m:=f.opt) (n:=192) (by omega) (by decide)))) ?_;intro A F;refine qQ F rfl (zS F rfl rfl rfl) (λhG=>(jF rfl (F.o rfl hG) jD (vV (i:=((f.opt &&& 192))) (j:=0)))) ?_;intro A F;refine j7 F rfl (qL rfl (F.e rfl) (λhx=>(F.o rfl (gnt hx))) rfl) ?_;intro A F;refine nn (hK16 _ _) ?_;refine zc (λhb17=>?_) (λhb17=>?_)
 ·skip
  replace F:=((F.nil.cons (F.g 6 _ rfl)).cons (F.g 5 _ rfl))
  refine sg λK18 hK18=>?_;refine zd ?_;intro A F;refine nn (hK18 _ _) ?_;refine jH ?_;refine (show bodyPost _ Tryz.f100 RR Exit.ret _ _ from zr ?_);exact rb (by first|rfl|(simp only[j13,hb5,hb9,hb13,hb17,Bool.and_assoc,Bool.or_assoc,Bool.and_true,Bool.true_and,Bool.and_false,Bool.false_and]<;>rfl)|(simp[j13,hb5,hb9,hb13,hb17];done)|(simp only[j13,hb5,hb9,hb13,hb17];grind))
 replace F:=((F.nil.cons (F.g 6 _ rfl)).cons (F.g 5 _ rfl))
 refine wp_skip (hK15 _ _ ?_);refine sg λK19 hK19=>?_
 iterate 2 (refine zd ?_;intro A F)
 refine va (R:=λvv ww=>∃ s1 s2,vv=.tuple #[.string s1,.string s2,.bool (qu f.text)]) F H rfl (j6 rfl rfl (j0 (F.e rfl) j9) jLn) ((jC3 f.text _ (by omega) (hT.kept H.k)).mono λe9 ww h9=>by obtain ⟨s1,s2,hs⟩:=j2b f.text;exact ⟨_,h9.1,⟨s1,s2,hs⟩,h9.2⟩) ?_;clear F H A;intro vv W A hR hk H F;obtain ⟨s1,s2,rfl⟩:=hR;clear hk
 iterate 7 (refine zd ?_;intro A F)
 refine nn (hK19 _ _) ?_;refine sg λK21 hK21=>?_
 iterate 3 (refine zd ?_;intro A F)
 iterate 2 (refine zg ?_;intro A F)
 refine qQ F rfl (zS F rfl rfl rfl) (λhG=>(jF rfl (F.o rfl hG) jD (j4u (m:=f.opt) (n:=4) (by omega) (by decide)))) ?_;intro A F;refine qQ F rfl (zS F rfl rfl rfl) (λhG=>(jF rfl (F.o rfl hG) jD (jx (i:=((f.opt &&& 4))) (j:=0)))) ?_;intro A F;refine j7 F rfl (qL rfl (F.e rfl) (λhx=>(F.o rfl (gnt hx))) rfl) ?_;intro A F;refine zd ?_;intro A F;refine nn (hK21 _ _) ?_;refine jH ?_;refine (show bodyPost _ Tryz.f100 RR Exit.ret _ _ from zr ?_);exact rb (by first|rfl|(simp only[j13,hb5,hb9,hb13,hb17,Bool.and_assoc,Bool.or_assoc,Bool.and_true,Bool.true_and,Bool.and_false,Bool.false_and]<;>rfl)|(simp[j13,hb5,hb9,hb13,hb17];done)|(simp only[j13,hb5,hb9,hb13,hb17];grind))
theorem j0l (v:Int) (p:Pk) (s:Sl) (w:World) (hp:p.At s w) (hF:Fit p) (hT:Tabs w) :
  Calls Tryz.prog 82 #[.int .i64 v,p.val s] w λe w'=>e=.returned (.bool (vr v p))∧Kept No w w':=by
 have hl1:decide (1≤p.filters.length) = !decide (p.filters.length=0):=jJe _;have hl2:decide (p.filters.length≤1024) = !decide (1024<p.filters.length):=jM5 _ _;have hm:=hF.few.hf;let RR:Ending→World→Prop:=λe w'=>e=.returned (.bool (vr v p))∧Kept No w w'
 go_enter Tryz.func82,Tryz.ntmps82
 generalize hA:({tmps:=_,defers:=[]}:Act)=A;have F:Fr A 37 [(1,(Pk.val p s)),(0,(.int .i64 v))]:=by rw[← hA];exact (Fr.cons (i:=1) (v:=(Pk.val p s)) (Fr.cons (i:=0) (v:=(.int .i64 v)) (Fr.nil0 rfl rfl) rfl) rfl)
 clear hA;have H:=Hp.start w;refine sg λK1 hK1=>?_;refine jj (c:=(Pk.cells p s)) (t:=36) F H rfl (qW rfl (F.e rfl) (qX _ _)) ?_;clear F A;intro b2 W A hk hN H9 F;clear H;have H:=H9;clear H9;clear hk hN;refine zd ?_;intro A F;refine nn (hK1 _ _) ?_;refine wp_seq_k λK3 hK3=>?_;refine sg λK4 hK4=>?_
 iterate 2 (refine zd ?_;intro A F)
 refine j7 F rfl (qH rfl (j0 (F.e rfl) j9) (qK Tryz.underlying34)) ?_;intro A F;refine zb (jx (i:=p.filters.length) (j:=0)) ?_;intro A F;refine zd ?_;intro A F
 iterate 2 (refine zg ?_;intro A F)
 refine qQ F rfl (zS F rfl rfl rfl) (λhG=>(qH rfl (j0 (F.o rfl hG) j9) (qK Tryz.underlying34))) ?_;intro A F;refine qQ F rfl (zS F rfl rfl rfl) (λhG=>(jF rfl (F.o rfl hG) jD (j1v (i:=p.filters.length) (j:=1024)))) ?_;intro A F;refine j7 F rfl (qL rfl (F.e rfl) (λhx=>(F.o rfl (gnt hx))) rfl) ?_;intro A F;refine nn (hK4 _ _) ?_;refine zc (λhb5=>?_) (λhb5=>?_)
 ·skip
  refine sg λK6 hK6=>?_;refine zd ?_;intro A F;refine nn (hK6 _ _) ?_;refine jH ?_;refine (show bodyPost _ Tryz.f82 RR Exit.ret _ _ from zr ?_);exact ⟨by simp only[vr,hl1,hl2];(have:=hb5;revert this;cases decide (p.filters.length=0)<;>cases decide (1024<p.filters.length)<;>simp),H.k⟩
 refine wp_skip (hK3 _ _ ?_);refine wp_seq_k λK7 hK7=>?_;refine sg λK8 hK8=>?_
 iterate 2 (refine zd ?_;intro A F)
 refine j7 F rfl (qH rfl (j0 (F.e rfl) j9) (qK Tryz.underlying34)) ?_;intro A F;refine zd ?_;intro A F;refine nn (hK8 _ _) ?_;refine wp_block ?_;refine xf (λ(j:Nat) A W=>Fr A 37 [(0,(.int .i64 v)),(3,(.pointer (some ⟨b2,0,none⟩))),(18,(.slice s.fa p.filters.length s.fc)),(19,(.int .i64 ((p.filters.length:Int)))),(20,(.int .i64 ((j:Int))))]∧Hp w W [⟨b2,36,(Pk.cells p s)⟩]∧(j≤p.filters.length∧(p.filters.take j).all (λf=>qE f.text&&j3m v p.kind f)=true)) (λj=>p.filters.length - j) 0 ⟨(((((F.nil.cons (vK (F.g 20 _ rfl) (by rfl))).cons (F.g 19 _ rfl)).cons (F.g 18 _ rfl)).cons (F.g 3 _ rfl)).cons (F.g 0 _ rfl)),H,⟨by omega,by simp⟩⟩ (λj A W hI J9 hJ9=>?_);clear F H;obtain ⟨F,H,hj,hall⟩:=hI
 by_cases hlt:j<p.filters.length
 ·skip
  have ht10:decide (j<p.filters.length)=true:=decide_eq_true hlt;obtain ⟨b9,off9,ha9,hbb9,q0,q1⟩:=(hp.kept H.k).hf.filt hlt;rw[ha9]at F;obtain ⟨f9,hF9⟩:∃ f9,f9=p.filters[j]:=⟨_,rfl⟩
  rw[← hF9]at q0 q1;have hFo:f9.opt<256:=hF9▸hF.opt _ (List.getElem_mem hlt);have hFt:f9.text.size≤140737488351232:=hF9▸hF.r.tf _ (List.getElem_mem hlt);refine sg λK11 hK11=>?_;refine zb (vB (i:=j) (j:=p.filters.length)) ?_;intro A F;replace F:=F.hd (congrArg Value.bool ht10);refine nn (hK11 _ _) ?_;refine wp_seq_k λK12 hK12=>?_;refine wp_cond_true (F.e rfl) ?_;refine wp_skip (hK12 _ _ ?_);refine wp_seq_k λK13 hK13=>?_;refine wp_block ?_;refine sg λK14 hK14=>?_;refine j7 F rfl (qJ rfl (F.e rfl) (F.e rfl) (vc Tryz.underlying34 (j20 _) hlt)) ?_;intro A F;refine j7 F rfl (jA rfl (F.e rfl) (j2s (jCv _) (j20 _) q0 q1)) ?_;intro A F;refine jj (c:=#[(.string ⟨#[]⟩),(.int .u8 0)]) (t:=63) F H rfl (jq rfl (jF9 _)) ?_;clear F A;intro b15 W A hk hN H9 F;clear H;have H:=H9;clear H9;clear hk hN;obtain ⟨W9,hr,hB,hk⟩:=jC (P:=Tryz.prog) (S:=63) (c:=#[(.string f9.text),(.int .u8 ((f9.opt:Int)))]) _ (H.b.at_ (j:=0) rfl).1 (j20 _) rfl (by simp[Value.oneCell']);refine q9 (jJ rfl (F.e rfl) (F.e rfl) hr) ?_;clear hr;replace H:Hp _ _ [_,_]:=Hp.turn [] H hk hB;clear hk hB;refine nn (hK14 _ _) ?_;refine sg λK16 hK16=>?_
  iterate 2 (refine zd ?_;intro A F)
  refine jf F H rfl (j6 rfl rfl (j0 (F.e rfl) j9) jO3) (j5n f9.text _ (by omega) (hT.kept H.k)) ?_;clear F H A;intro W A hk H F;clear hk
  iterate 2 (refine zd ?_;intro A F)
  iterate 3 (refine zg ?_;intro A F)
  refine qQ F rfl (zS F rfl rfl rfl) (λhG=>(jA rfl (F.e rfl) (jE (#[(.string f9.text),(.int .u8 ((f9.opt:Int)))]) rfl (jCv _) (j20 _) (λi=>H.cs 0 rfl i)))) ?_;intro A F;refine qU F H rfl (zS F rfl rfl rfl) (λhG=>(j6 rfl rfl (j0 (F.o rfl hG) (j0 (F.o rfl hG) (j0 (F.o rfl hG) j9))) jLm)) (λhG=>j8y v p.kind f9 _ hFo hFt (hT.kept H.k)) ?_;clear F H A;intro W A hk H F;clear hk;refine zg ?_;intro A F;refine j7 F rfl (qL rfl (F.e rfl) (λhx=>(F.o rfl (gnt hx))) rfl) ?_;intro A F;refine nn (hK16 _ _) ?_;refine zc (λhb19=>?_) (λhb19=>?_)
  ·skip
   refine sg λK20 hK20=>?_;refine zd ?_;intro A F;refine nn (hK20 _ _) ?_;refine jH ?_;refine (show bodyPost _ Tryz.f82 RR Exit.ret _ _ from zr ?_);exact ⟨by rw[show vr v p=false from by unfold vr;rw[j9n hlt (by rw[← hF9];have:=hb19;revert this;cases qE f9.text<;>cases j3m v p.kind f9<;>simp)];simp],H.k⟩
  refine wp_skip (hK13 _ _ ?_);refine jB ?_;refine j7 F rfl (jF rfl (F.e rfl) jD (jd (jK (by omega) (by omega)))) ?_;intro A F;refine zd ?_;intro A F;refine wpList_nil ?_;exact hJ9 ((j+1)) _ _ (by omega) ⟨(((((F.nil.cons (vK (F.g 20 _ rfl) (by simp))).cons (F.g 19 _ rfl)).cons (vK (F.g 18 _ rfl) (by rw[ha9]))).cons (F.g 3 _ rfl)).cons (F.g 0 _ rfl)),H.tl,⟨by omega,j9o hlt hall (by rw[← hF9];have:=hb19;revert this;cases qE f9.text<;>cases j3m v p.kind f9<;>simp)⟩⟩
 have ht21:decide (j<p.filters.length)=false:=decide_eq_false hlt;refine sg λK22 hK22=>?_;refine zb (vB (i:=j) (j:=p.filters.length)) ?_;intro A F;replace F:=F.hd (congrArg Value.bool ht21);refine nn (hK22 _ _) ?_;refine wp_seq_k λK23 hK23=>?_;refine wp_cond_false (F.e rfl) ?_;refine wp_exit ?_;refine hK7 _ _ ?_;refine sg λK24 hK24=>?_;refine zd ?_;intro A F;refine nn (hK24 _ _) ?_;refine jH ?_;refine (show bodyPost _ Tryz.f82 RR Exit.ret _ _ from zr ?_);exact ⟨by simp only[vr,hl1,hl2,jCh hlt hall];(first|rfl|(have:=hb5;revert this;cases decide (p.filters.length=0)<;>cases decide (1024<p.filters.length)<;>simp)),H.k⟩
theorem jFd {v:Int} {p:Pk} (h:(decide (v=4)&&decide (p.kind=11))=true):zt v p=decide (p.codes.length=0):=by
 simp only[aE9,dE9]at h;unfold zt;rw[if_pos h]
theorem jFf {v:Int} {p:Pk} (h:(decide (v=4)&&decide (p.kind=11))=false) (k:(decide (p.codes.length=0)||decide (1024<p.codes.length))=true):zt v p=false:=by
 have h':¬ (v=4∧p.kind=11):=by intro ⟨a,b⟩;rw[decide_eq_true a,decide_eq_true b]at h;cases h
 unfold zt;rw[if_neg h'];simp only[oE9,dE9]at k;rcases k with k|k
 ·rw[decide_eq_false (by omega:¬ 1≤p.codes.length)];rfl
 ·rw[decide_eq_false (by omega:¬ p.codes.length≤1024)];simp
theorem j7d {v:Int} {p:Pk} (h:(decide (v=4)&&decide (p.kind=11))=false) (k:(decide (p.codes.length=0)||decide (1024<p.codes.length))=false):zt v p=p.codes.all (λc=>ke v p.kind c.toNat):=by
 have h':¬ (v=4∧p.kind=11):=by intro ⟨a,b⟩;rw[decide_eq_true a,decide_eq_true b]at h;cases h
 unfold zt;rw[if_neg h'];simp only[Bool.or_eq_false_iff,decide_eq_false_iff_not]at k;rw[decide_eq_true (by omega:1≤p.codes.length),decide_eq_true (by omega:p.codes.length≤1024)];rfl
theorem j18 (v:Int) (p:Pk) (s:Sl) (w:World) (hp:p.At s w) (hF:Fit p) (hT:Tabs w) :
  Calls Tryz.prog 83 #[.int .i64 v,p.val s] w λe w'=>e=.returned (.bool (zt v p))∧Kept No w w':=by
 have hm:=hF.few.hc;let RR:Ending→World→Prop:=λe w'=>e=.returned (.bool (zt v p))∧Kept No w w'
 go_enter Tryz.func83,Tryz.ntmps83
 generalize hA:({tmps:=_,defers:=[]}:Act)=A;have F:Fr A 42 [(1,(Pk.val p s)),(0,(.int .i64 v))]:=by rw[← hA];exact (Fr.cons (i:=1) (v:=(Pk.val p s)) (Fr.cons (i:=0) (v:=(.int .i64 v)) (Fr.nil0 rfl rfl) rfl) rfl)
 clear hA;have H:=Hp.start w;refine sg λK1 hK1=>?_;refine jj (c:=(Pk.cells p s)) (t:=36) F H rfl (qW rfl (F.e rfl) (qX _ _)) ?_;clear F A;intro b2 W A hk hN H9 F;clear H;have H:=H9;clear H9;clear hk hN;refine zd ?_;intro A F;refine nn (hK1 _ _) ?_;refine wp_seq_k λK3 hK3=>?_;refine sg λK4 hK4=>?_;refine zd ?_;intro A F;refine zb (jL) ?_;intro A F;refine zd ?_;intro A F
 iterate 2 (refine zg ?_;intro A F)
 refine qQ F rfl (qI F rfl rfl rfl) (λhG=>(jF rfl (F.o rfl hG) jD (jL))) ?_;intro A F;refine j7 F rfl (jI rfl (F.e rfl) (λhx=>(F.o rfl hx)) rfl) ?_;intro A F;refine nn (hK4 _ _) ?_;refine zc (λhb5=>?_) (λhb5=>?_)
 ·skip
  refine sg λK6 hK6=>?_
  iterate 2 (refine zd ?_;intro A F)
  refine j7 F rfl (qH rfl (j0 (F.e rfl) j9) (qK Tryz.underlying25)) ?_;intro A F;refine zb (jx (i:=p.codes.length) (j:=0)) ?_;intro A F;refine zd ?_;intro A F;refine nn (hK6 _ _) ?_;refine jH ?_;refine (show bodyPost _ Tryz.f83 RR Exit.ret _ _ from zr ?_);exact ⟨by rw[jFd hb5],H.k⟩
 refine wp_skip (hK3 _ _ ?_);refine wp_seq_k λK7 hK7=>?_;refine sg λK8 hK8=>?_
 iterate 2 (refine zd ?_;intro A F)
 refine j7 F rfl (qH rfl (j0 (F.e rfl) j9) (qK Tryz.underlying25)) ?_;intro A F;refine zb (jx (i:=p.codes.length) (j:=0)) ?_;intro A F;refine zd ?_;intro A F
 iterate 2 (refine zg ?_;intro A F)
 refine qQ F rfl (zS F rfl rfl rfl) (λhG=>(qH rfl (j0 (F.o rfl hG) j9) (qK Tryz.underlying25))) ?_;intro A F;refine qQ F rfl (zS F rfl rfl rfl) (λhG=>(jF rfl (F.o rfl hG) jD (j1v (i:=p.codes.length) (j:=1024)))) ?_;intro A F;refine j7 F rfl (qL rfl (F.e rfl) (λhx=>(F.o rfl (gnt hx))) rfl) ?_;intro A F;refine nn (hK8 _ _) ?_;refine zc (λhb9=>?_) (λhb9=>?_)
 ·skip
  replace F:=(((F.nil.cons (F.g 4 _ rfl)).cons (F.g 3 _ rfl)).cons (F.g 0 _ rfl))
  refine sg λK10 hK10=>?_;refine zd ?_;intro A F;refine nn (hK10 _ _) ?_;refine jH ?_;refine (show bodyPost _ Tryz.f83 RR Exit.ret _ _ from zr ?_);exact ⟨by rw[jFf hb5 hb9],H.k⟩
 replace F:=(((F.nil.cons (F.g 4 _ rfl)).cons (F.g 3 _ rfl)).cons (F.g 0 _ rfl))
 refine wp_skip (hK7 _ _ ?_);refine wp_seq_k λK11 hK11=>?_;refine sg λK12 hK12=>?_
 iterate 2 (refine zd ?_;intro A F)
 refine j7 F rfl (qH rfl (j0 (F.e rfl) j9) (qK Tryz.underlying25)) ?_;intro A F;refine zd ?_;intro A F;refine nn (hK12 _ _) ?_;refine wp_block ?_;refine xf (λ(j:Nat) A W=>Fr A 42 [(0,(.int .i64 v)),(3,(.pointer (some ⟨b2,0,none⟩))),(29,(.slice s.ca p.codes.length s.cc)),(30,(.int .i64 ((p.codes.length:Int)))),(31,(.int .i64 ((j:Int))))]∧Hp w W [⟨b2,36,(Pk.cells p s)⟩]∧(j≤p.codes.length∧(p.codes.take j).all (λc=>ke v p.kind c.toNat)=true)) (λj=>p.codes.length - j) 0 ⟨(((((F.nil.cons (vK (F.g 31 _ rfl) (by rfl))).cons (F.g 30 _ rfl)).cons (F.g 29 _ rfl)).cons (F.g 3 _ rfl)).cons (F.g 0 _ rfl)),H,⟨by omega,by simp⟩⟩ (λj A W hI J13 hJ13=>?_);clear F H;obtain ⟨F,H,hj,hall⟩:=hI
 by_cases hlt:j<p.codes.length
 ·skip
  have ht14:decide (j<p.codes.length)=true:=decide_eq_true hlt;obtain ⟨b9,off9,ha9,hbb9,q0⟩:=(hp.kept H.k).hc.byte hlt;rw[ha9]at F;obtain ⟨f9,hF9⟩:∃ f9,f9=p.codes[j]:=⟨_,rfl⟩
  rw[← hF9]at q0;have hc8:f9.toNat<256:=f9.toNat_lt;refine sg λK15 hK15=>?_;refine zb (vB (i:=j) (j:=p.codes.length)) ?_;intro A F;replace F:=F.hd (congrArg Value.bool ht14);refine nn (hK15 _ _) ?_;refine wp_seq_k λK16 hK16=>?_;refine wp_cond_true (F.e rfl) ?_;refine wp_skip (hK16 _ _ ?_);refine wp_seq_k λK17 hK17=>?_;refine wp_block ?_;refine sg λK18 hK18=>?_;refine j7 F rfl (qJ rfl (F.e rfl) (F.e rfl) (vc Tryz.underlying25 (j7n _) hlt)) ?_;intro A F;refine j7 F rfl (jA rfl (F.e rfl) (jk (j4a _) q0)) ?_;intro A F;refine zd ?_;intro A F;refine nn (hK18 _ _) ?_;refine sg λK19 hK19=>?_
  iterate 4 (refine zd ?_;intro A F)
  refine jf F H rfl (j6 rfl rfl (j0 (F.e rfl) (j0 (F.e rfl) (j0 (F.e rfl) j9))) jKx) (j7q v p.kind f9.toNat _ hc8) ?_;clear F H A;intro W A hk H F;clear hk;refine zd ?_;intro A F;refine nn (hK19 _ _) ?_;refine zc (λhb21=>?_) (λhb21=>?_)
  ·skip
   refine sg λK22 hK22=>?_;refine zd ?_;intro A F;refine nn (hK22 _ _) ?_;refine jH ?_;refine (show bodyPost _ Tryz.f83 RR Exit.ret _ _ from zr ?_);exact ⟨by rw[j7d hb5 hb9,j9n hlt (by rw[← hF9];exact gnf hb21)],H.k⟩
  refine wp_skip (hK17 _ _ ?_);refine jB ?_;refine j7 F rfl (jF rfl (F.e rfl) jD (jd (jK (by omega) (by omega)))) ?_;intro A F;refine zd ?_;intro A F;refine wpList_nil ?_;exact hJ13 ((j+1)) _ _ (by omega) ⟨(((((F.nil.cons (vK (F.g 31 _ rfl) (by simp))).cons (F.g 30 _ rfl)).cons (vK (F.g 29 _ rfl) (by rw[ha9]))).cons (F.g 3 _ rfl)).cons (F.g 0 _ rfl)),H,⟨by omega,j9o hlt hall (by rw[← hF9];exact gnz hb21)⟩⟩
 have ht23:decide (j<p.codes.length)=false:=decide_eq_false hlt;refine sg λK24 hK24=>?_;refine zb (vB (i:=j) (j:=p.codes.length)) ?_;intro A F;replace F:=F.hd (congrArg Value.bool ht23);refine nn (hK24 _ _) ?_;refine wp_seq_k λK25 hK25=>?_;refine wp_cond_false (F.e rfl) ?_;refine wp_exit ?_;refine hK11 _ _ ?_;refine sg λK26 hK26=>?_;refine zd ?_;intro A F;refine nn (hK26 _ _) ?_;refine jH ?_;refine (show bodyPost _ Tryz.f83 RR Exit.ret _ _ from zr ?_);exact ⟨by rw[j7d hb5 hb9,jCh hlt hall],H.k⟩
theorem j11 (p:Pk) (s:Sl) (w:World) (hp:p.At s w) (hF:Fit p) (hS:∀ f∈p.filters,f.text.size≤65535) :
  Calls Tryz.prog 42 #[p.val s] w λe w'=>e=.returned (.int .i64 (qZ p.kind p.filters:Int))∧Kept No w w':=by
 have hm:=hF.few.hf;let RR:Ending→World→Prop:=λe w'=>e=.returned (.int .i64 (qZ p.kind p.filters:Int))∧Kept No w w'
 go_enter Tryz.func42,Tryz.ntmps42
 generalize hA:({tmps:=_,defers:=[]}:Act)=A;have F:Fr A 25 [(0,(Pk.val p s))]:=by rw[← hA];exact (Fr.cons (i:=0) (v:=(Pk.val p s)) (Fr.nil0 rfl rfl) rfl)
 clear hA;have H:=Hp.start w;refine sg λK1 hK1=>?_;refine jj (c:=(Pk.cells p s)) (t:=36) F H rfl (qW rfl (F.e rfl) (qX _ _)) ?_;clear F A;intro b2 W A hk hN H9 F;clear H;have H:=H9;clear H9;clear hk hN;refine zd ?_;intro A F;refine nn (hK1 _ _) ?_;refine sg λK3 hK3=>?_;refine zd ?_;intro A F;refine nn (hK3 _ _) ?_;refine wp_seq_k λK4 hK4=>?_;refine sg λK5 hK5=>?_
 iterate 2 (refine zd ?_;intro A F)
 refine j7 F rfl (qH rfl (j0 (F.e rfl) j9) (qK Tryz.underlying34)) ?_;intro A F;refine zd ?_;intro A F;refine nn (hK5 _ _) ?_;refine wp_block ?_;refine xf (λ(j:Nat) A W=>Fr A 25 [(1,(.pointer (some ⟨b2,0,none⟩))),(2,(.int .i64 0)),(3,(.int .i64 ((qZ p.kind (p.filters.take j):Int)))),(7,(.slice s.fa p.filters.length s.fc)),(8,(.int .i64 ((p.filters.length:Int)))),(9,(.int .i64 ((j:Int))))]∧Hp w W [⟨b2,36,(Pk.cells p s)⟩]∧j≤p.filters.length) (λj=>p.filters.length - j) 0 ⟨((((((F.nil.cons (vK (F.g 9 _ rfl) (by rfl))).cons (F.g 8 _ rfl)).cons (F.g 7 _ rfl)).cons (vK (F.g 3 _ rfl) (by simp[qZ]))).cons (F.g 2 _ rfl)).cons (F.g 1 _ rfl)),H,by omega⟩ (λj A W hI J6 hJ6=>?_);clear F H;obtain ⟨F,H,hj⟩:=hI
 by_cases hlt:j<p.filters.length
 ·skip
  have ht7:decide (j<p.filters.length)=true:=decide_eq_true hlt;obtain ⟨b9,off9,ha9,hbb9,q0,q1⟩:=(hp.kept H.k).hf.filt hlt;rw[ha9]at F;obtain ⟨f9,hF9⟩:∃ f9,f9=p.filters[j]:=⟨_,rfl⟩
  rw[← hF9]at q0 q1;have hFo:f9.opt<256:=hF9▸hF.opt _ (List.getElem_mem hlt);have hFt:f9.text.size≤140737488351232:=hF9▸hF.r.tf _ (List.getElem_mem hlt);have hFs:f9.text.size≤65535:=hF9▸hS _ (List.getElem_mem hlt);have hstp:=j70 p.kind hlt;rw[← hF9]at hstp;have hsb:=j19 p.kind (p.filters.take j) (λf hf=>hS f (List.mem_of_mem_take hf));have htl:(p.filters.take j).length≤j:=List.length_take_le _ _;refine sg λK8 hK8=>?_;refine zb (vB (i:=j) (j:=p.filters.length)) ?_;intro A F;replace F:=F.hd (congrArg Value.bool ht7);refine nn (hK8 _ _) ?_;refine wp_seq_k λK9 hK9=>?_;refine wp_cond_true (F.e rfl) ?_;refine wp_skip (hK9 _ _ ?_);refine wp_seq_k λK10 hK10=>?_;refine wp_block ?_;refine sg λK11 hK11=>?_;refine j7 F rfl (qJ rfl (F.e rfl) (F.e rfl) (vc Tryz.underlying34 (j20 _) hlt)) ?_;intro A F;refine j7 F rfl (jA rfl (F.e rfl) (j2s (jCv _) (j20 _) q0 q1)) ?_;intro A F;refine jj (c:=#[(.string ⟨#[]⟩),(.int .u8 0)]) (t:=63) F H rfl (jq rfl (jF9 _)) ?_;clear F A;intro b12 W A hk hN H9 F;clear H;have H:=H9;clear H9;clear hk hN;obtain ⟨W9,hr,hB,hk⟩:=jC (P:=Tryz.prog) (S:=63) (c:=#[(.string f9.text),(.int .u8 ((f9.opt:Int)))]) _ (H.b.at_ (j:=0) rfl).1 (j20 _) rfl (by simp[Value.oneCell']);refine q9 (jJ rfl (F.e rfl) (F.e rfl) hr) ?_;clear hr;replace H:Hp _ _ [_,_]:=Hp.turn [] H hk hB;clear hk hB;refine nn (hK11 _ _) ?_;refine sg λK13 hK13=>?_
  iterate 3 (refine zd ?_;intro A F)
  refine jf F H rfl (j6 rfl rfl (j0 (F.e rfl) j9) j1b) (vx f9.text _ (by omega)) ?_;clear F H A;intro W A hk H F;clear hk;refine j7 F rfl (jF rfl (F.e rfl) (F.e rfl) (jd (jK (by omega) (by omega)))) ?_;intro A F;refine zd ?_;intro A F;refine nn (hK13 _ _) ?_;refine sg λK15 hK15=>?_
  iterate 2 (refine zd ?_;intro A F)
  refine zb (jL) ?_;intro A F;refine nn (hK15 _ _) ?_;refine zc (λhb16=>?_) (λhb16=>?_)
  ·skip
   refine jB ?_;refine zd ?_;intro A F;refine j7 F rfl (jF rfl (F.e rfl) jD (jd (jK (by omega) (by omega)))) ?_;intro A F;refine zd ?_;intro A F;refine nn (hK10 _ _) ?_;refine jB ?_;refine j7 F rfl (jF rfl (F.e rfl) jD (jd (jK (by omega) (by omega)))) ?_;intro A F;refine zd ?_;intro A F;refine wpList_nil ?_;exact hJ6 ((j+1)) _ _ (by omega) ⟨((((((F.nil.cons (vK (F.g 9 _ rfl) (by simp))).cons (F.g 8 _ rfl)).cons (vK (F.g 7 _ rfl) (by rw[ha9]))).cons (vK (F.g 3 _ rfl) (by have hx:=hb16;simp only[dE9,decide_eq_false_iff_not]at hx;(first|rw[if_pos hx]at hstp|rw[if_neg hx]at hstp);exact congrArg (Value.int .i64) (by rw[hstp];push_cast;omega)))).cons (F.g 2 _ rfl)).cons (F.g 1 _ rfl)),H.tl,by omega⟩
  refine wp_skip (hK10 _ _ ?_);refine jB ?_;refine j7 F rfl (jF rfl (F.e rfl) jD (jd (jK (by omega) (by omega)))) ?_;intro A F;refine zd ?_;intro A F;refine wpList_nil ?_;exact hJ6 ((j+1)) _ _ (by omega) ⟨((((((F.nil.cons (vK (F.g 9 _ rfl) (by simp))).cons (F.g 8 _ rfl)).cons (vK (F.g 7 _ rfl) (by rw[ha9]))).cons (vK (F.g 3 _ rfl) (by have hx:=hb16;simp only[dE9,decide_eq_false_iff_not]at hx;(first|rw[if_pos hx]at hstp|rw[if_neg hx]at hstp);exact congrArg (Value.int .i64) (by rw[hstp];push_cast;omega)))).cons (F.g 2 _ rfl)).cons (F.g 1 _ rfl)),H.tl,by omega⟩
 have ht17:decide (j<p.filters.length)=false:=decide_eq_false hlt;have hje:j=p.filters.length:=by omega
 have hse:qZ p.kind (p.filters.take j)=qZ p.kind p.filters:=by rw[hje,List.take_length]
 refine sg λK18 hK18=>?_;refine zb (vB (i:=j) (j:=p.filters.length)) ?_;intro A F;replace F:=F.hd (congrArg Value.bool ht17);refine nn (hK18 _ _) ?_;refine wp_seq_k λK19 hK19=>?_;refine wp_cond_false (F.e rfl) ?_;refine wp_exit ?_;refine hK4 _ _ ?_;refine sg λK20 hK20=>?_
 iterate 2 (refine zd ?_;intro A F)
 refine nn (hK20 _ _) ?_;refine jH ?_;refine (show bodyPost _ Tryz.f42 RR Exit.ret _ _ from zr ?_);exact ⟨by rw[hse],H.k⟩
end Go.Proofs.YtkochkhfbhjicaaGreatDoor
