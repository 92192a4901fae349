import Derived.Test.YtnehnjklgglliaaGreatDoorYFW
import Derived.Test.YtnehnjklgglliaaGreatDoorYFK
import Derived.Test.YtnehnjklgglliaaGreatDoorYFT
import Derived.Test.YtnehnjklgglliaaGreatDoorYFY
namespace Go.Proofs.YtnehnjklgglliaaGreatDoor
set_option maxHeartbeats 4000000
open Go.RowKit
set_option linter.unusedVariables false
set_option linter.unusedSimpArgs false
set_option maxRecDepth 100000
theorem jNx:FN Tryz.prog 21:=jc Tryz.func21 (by kernel_rfl) rfl
theorem jL5:FN Tryz.prog 57:=jc Tryz.func57 (by kernel_rfl) rfl
structure Sm (v:Int) (p:Pk):Prop where
 ri:Ri v p
 s:(jPj v p.props).length≤19000
 w:(jPj v p.willProps).length≤19000
 f:(jKt p.kind p.filters).length≤9100
 sum:p.client.size+p.willTopic.size+p.willLoad.size+p.user.size+p.pass.size+p.topic.size+p.load.size+p.codes.length≤3000
 okp:v=5→∃ n,xJ p.props 0=some n
 okw:v=5→∃ n,xJ p.willProps 0=some n
theorem jCq (b:Bool) (n:Nat) (w:World) :
  Calls Tryz.prog 57 #[.bool b,.int .i64 n] w λe w'=>e=.returned (.int .i64 (j95 b n:Int))∧Kept No w w':=by
 let RR:Ending→World→Prop:=λe w'=>e=.returned (.int .i64 (j95 b n:Int))∧Kept No w w'
 go_enter Tryz.func57,Tryz.ntmps57
 generalize hA:({tmps:=_,defers:=[]}:Act)=A;have F:Fr A 7 [(1,(.int .i64 ((n:Int)))),(0,(.bool b))]:=by rw[← hA];exact (Fr.cons (i:=1) (v:=(.int .i64 ((n:Int)))) (Fr.cons (i:=0) (v:=(.bool b)) (Fr.nil0 rfl rfl) rfl) rfl)
 clear hA;have H:=Hp.start w;refine sg λK1 hK1=>?_;refine zd ?_;intro A F;refine nn (hK1 _ _) ?_;refine wp_seq_k λK2 hK2=>?_;refine sg λK3 hK3=>?_;refine zd ?_;intro A F;refine nn (hK3 _ _) ?_;refine zc (λhb4=>?_) (λhb4=>?_)
 ·skip
  refine sg λK5 hK5=>?_
  iterate 2 (refine zd ?_;intro A F)
  refine nn (hK5 _ _) ?_;refine j9 ?_;refine (show bodyPost _ Tryz.f57 RR Exit.ret _ _ from zr ?_);exact ri (by simp[j95,hb4])
 refine wp_skip (hK2 _ _ ?_);refine sg λK6 hK6=>?_;refine zd ?_;intro A F;refine nn (hK6 _ _) ?_;refine j9 ?_;refine (show bodyPost _ Tryz.f57 RR Exit.ret _ _ from zr ?_);exact ri (by simp[j95,hb4])
theorem jBq (p:Pk) (s:Sl) (w:World) (hF:Fit p) :
  Calls Tryz.prog 21 #[p.val s] w λe w'=>e=.returned (.int .i64 (z6 p:Int))∧Kept No w w':=by
 have h1:=jCp p.retain 1;have h2:=jCp p.dup 8;have hq:=hF.qos;let RR:Ending→World→Prop:=λe w'=>e=.returned (.int .i64 (z6 p:Int))∧Kept No w w'
 go_enter Tryz.func21,Tryz.ntmps21
 generalize hA:({tmps:=_,defers:=[]}:Act)=A;have F:Fr A 23 [(0,(Pk.val p s))]:=by rw[← hA];exact (Fr.cons (i:=0) (v:=(Pk.val p s)) (Fr.nil0 rfl rfl) rfl)
 clear hA;have H:=Hp.start w;refine sg λK1 hK1=>?_;refine ja (c:=(Pk.cells p s)) (t:=34) F H rfl (qO rfl (F.e rfl) (qP _ _)) ?_;clear F A;intro b2 W A hk hN H9 F;clear H;have H:=H9;clear H9;clear hk hN;refine zd ?_;intro A F;refine nn (hK1 _ _) ?_;refine wp_seq_k λK3 hK3=>?_;refine sg λK4 hK4=>?_
 iterate 2 (refine zd ?_;intro A F)
 refine nn (hK4 _ _) ?_;refine wp_block ?_;refine sg λK5 hK5=>?_;refine zb (jG) ?_;intro A F;refine zd ?_;intro A F;refine nn (hK5 _ _) ?_;refine zc (λhb6=>?_) (λhb6=>?_)
 ·skip
  refine wp_seq_k λK7 hK7=>?_;refine wp_region_held_drew (S:=λwx=>Hp _ wx _) (by kernel_rfl) H.drew (λH9=>?_);clear H;have H:=H9;clear H9;generalize World.drew _=W at *;refine td 0 ?_;intro A F;refine td 1 ?_;intro A F;refine td 3 ?_;intro A F;refine td 4 ?_;intro A F;refine jR (v:=(.int .i64 ((p.qos:Int)))) (i:=5) F rfl rfl (by kernel_rfl) (λ_ _ _ h=>h) (H) (λwz H=>(q9 rfl (F.e rfl) (j48 ((p.qos:Int)) _ (by omega) (by have:=hF.qos;have:=hF.wq;omega)))) ?_;intro A F;refine jR (i:=6) F rfl rfl (by kernel_rfl) (λ_ _ _ h=>h) (H) (λwz H=>(jF rfl jA (F.e rfl) (jN0 (jH (by omega) (by omega))))) ?_;intro A F;refine td 8 ?_;intro A F;refine td 9 ?_;intro A F;refine jf (i:=2) (by kernel_rfl) (qW (i:=2) F rfl rfl (j5 rfl rfl (j4 (F.e rfl) (j4 jA j8)) jL5) (jCq p.retain 1 _) (λ_ hk=>(H.kept hk)) ?_);clear F A;intro W A hk _ F;replace H:=H.kept hk;clear hk;refine jR (i:=7) F rfl rfl (by kernel_rfl) (λ_ _ _ h=>h) (H) (λwz H=>(jF rfl (F.e rfl) (F.e rfl) (jw (jH (by omega) (by omega))))) ?_;intro A F;refine jf (i:=10) (by kernel_rfl) (qW (i:=10) F rfl rfl (j5 rfl rfl (j4 (F.e rfl) (j4 jA j8)) jL5) (jCq p.dup 8 _) (λ_ hk=>(H.kept hk)) ?_);clear F A;intro W A hk _ F;replace H:=H.kept hk;clear hk;refine jR (i:=11) F rfl rfl (by kernel_rfl) (λ_ _ _ h=>h) (H) (λwz H=>(jF rfl (F.e rfl) (F.e rfl) (jw (jH (by omega) (by omega))))) ?_;intro A F;refine td 12 ?_;intro A F;refine wpAnyH_done (by kernel_rfl) ?_ _;refine hK7 _ _ ?_;refine j9 ?_;refine (show bodyPost _ Tryz.f21 RR Exit.ret _ _ from zr ?_);exact ri (by have:=hb6;simp only[dE9,decide_eq_false_iff_not,oE9,Bool.or_eq_false_iff]at *;unfold z6;(repeat' split)<;>first|rfl|(push_cast;omega)|omega|(exfalso;omega))
 refine wp_seq_k λK10 hK10=>?_;refine sg λK11 hK11=>?_;refine zb (jG) ?_;intro A F;refine zd ?_;intro A F;refine nn (hK11 _ _) ?_;refine zc (λhb12=>?_) (λhb12=>?_)
 ·skip
  refine wp_skip (hK10 _ _ ?_);refine wp_cond_true ((F.e rfl).trans (congrArg Value.bool hb12)) ?_;refine sg λK13 hK13=>?_;refine zd ?_;intro A F;refine nn (hK13 _ _) ?_;refine j9 ?_;refine (show bodyPost _ Tryz.f21 RR Exit.ret _ _ from zr ?_);exact ri (by have:=hb6;have:=hb12;simp only[dE9,decide_eq_false_iff_not,oE9,Bool.or_eq_false_iff]at *;unfold z6;(repeat' split)<;>first|rfl|(push_cast;omega)|omega|(exfalso;omega))
 refine sg λK14 hK14=>?_;refine zb (jG) ?_;intro A F;refine zd ?_;intro A F;refine nn (hK14 _ _) ?_;refine zc (λhb15=>?_) (λhb15=>?_)
 ·skip
  refine wp_skip (hK10 _ _ ?_);refine wp_cond_true ((F.e rfl).trans (congrArg Value.bool hb15)) ?_;refine sg λK16 hK16=>?_;refine zd ?_;intro A F;refine nn (hK16 _ _) ?_;refine j9 ?_;refine (show bodyPost _ Tryz.f21 RR Exit.ret _ _ from zr ?_);exact ri (by have:=hb6;have:=hb12;have:=hb15;simp only[dE9,decide_eq_false_iff_not,oE9,Bool.or_eq_false_iff]at *;unfold z6;(repeat' split)<;>first|rfl|(push_cast;omega)|omega|(exfalso;omega))
 refine jC ?_;refine zb (jG) ?_;intro A F;refine zd ?_;intro A F;refine nn (hK10 _ _) ?_;refine zc (λhb17=>?_) (λhb17=>?_)
 ·skip
  refine sg λK18 hK18=>?_;refine zd ?_;intro A F;refine nn (hK18 _ _) ?_;refine j9 ?_;refine (show bodyPost _ Tryz.f21 RR Exit.ret _ _ from zr ?_);exact ri (by have:=hb6;have:=hb12;have:=hb15;have:=hb17;simp only[dE9,decide_eq_false_iff_not,oE9,Bool.or_eq_false_iff]at *;unfold z6;(repeat' split)<;>first|rfl|(push_cast;omega)|omega|(exfalso;omega))
 refine wp_skip (hK3 _ _ ?_);refine sg λK19 hK19=>?_;refine zd ?_;intro A F;refine nn (hK19 _ _) ?_;refine j9 ?_;refine (show bodyPost _ Tryz.f21 RR Exit.ret _ _ from zr ?_);exact ri (by have:=hb6;have:=hb12;have:=hb15;have:=hb17;simp only[dE9,decide_eq_false_iff_not,oE9,Bool.or_eq_false_iff]at *;unfold z6;(repeat' split)<;>first|rfl|(push_cast;omega)|omega|(exfalso;omega))
end Go.Proofs.YtnehnjklgglliaaGreatDoor
