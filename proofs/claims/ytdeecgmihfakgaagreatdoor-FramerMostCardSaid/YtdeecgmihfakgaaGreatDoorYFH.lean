import Derived.Test.YtdeecgmihfakgaaGreatDoorYFG
import Derived.Test.YtdeecgmihfakgaaGreatDoorYFV
import Derived.Test.YtdeecgmihfakgaaGreatDoorYFD
import Derived.Test.YtdeecgmihfakgaaGreatDoorYF2
import Derived.Test.YtdeecgmihfakgaaGreatDoorYFF
namespace Go.Proofs.YtdeecgmihfakgaaGreatDoor
open Go.RowKit
set_option linter.unusedVariables false
set_option linter.unusedSimpArgs false
set_option maxRecDepth 100000
theorem willRight_any (p:Pk) (s:Sl) (w:World) (hp:p.At s w) (hF:Fit p) (hT:Tabs w) :
  Calls Tryz.prog 184 #[p.val s] w fun e w'=>e=.returned (.bool (willOkB p))∧Kept No w w':=by
 let RR:Ending→World→Prop:=fun e w'=>e=.returned (.bool (willOkB p))∧Kept No w w'
 go_enter Tryz.func184,Tryz.ntmps184
 generalize hA:({ tmps:=_,defers:=[] }:Act)=A;have F:Fr A 17 [(0,(Pk.val p s))]:=by rw[← hA];exact (Fr.cons (i:=0) (v:=(Pk.val p s)) (Fr.nil0 rfl rfl) rfl)
 clear hA;have H:=Hp.start w;refine wp_seq_k (fun K1 hK1=>gx_region ?_);refine hz_new (c:=(Pk.cells p s)) (t:=33) F H rfl (ex_box rfl (F.e rfl) (gx_box _ _)) ?_;clear F A;intro b2 W A hk hN H9 F;clear H;have H:=H9;clear H9;clear hk hN;refine zd ?_;intro A F;refine wpList_nil (hK1 _ _ ?_);refine wp_seq_k (fun K3 hK3=>gx_region ?_)
 iterate 2 (refine zd ?_;intro A F)
 refine zb (rn_leqN (i:=p.willQoS) (j:=2)) ?_;intro A F;refine zd ?_;intro A F
 iterate 2 (refine zg ?_;intro A F)
 refine hz_callg F H rfl (hw_t F rfl rfl rfl) (fun hG=>(ex_call rfl rfl (gx_l1 (F.o rfl hG) gx_l0) fn_186)) (fun hG=>name_any p.willTopic _ (by have:=hF.r.client;have:=hF.r.user;have:=hF.r.topic;have:=hF.r.willTopic;omega) (hT.kept H.k)) ?_;clear F H A;intro W A hk H F;clear hk;refine hz_do F rfl (ex_pickA rfl (F.e rfl) (fun hx=>(F.o rfl hx)) rfl) ?_;intro A F;refine zd ?_;intro A F
 iterate 2 (refine zg ?_;intro A F)
 refine hz_g F rfl (hw_t F rfl rfl rfl) (fun hG=>(ex_len rfl (gx_l1 (F.o rfl hG) gx_l0) (rn_lenstr Tryz.underlying9))) ?_;intro A F;refine hz_g F rfl (hw_t F rfl rfl rfl) (fun hG=>(ex_bin rfl (F.o rfl hG) gx_evc (rn_leqN (i:=p.willLoad.size) (j:=65535)))) ?_;intro A F;refine hz_do F rfl (ex_pickA rfl (F.e rfl) (fun hx=>(F.o rfl hx)) rfl) ?_;intro A F;refine zd ?_;intro A F;refine wpList_nil (hK3 _ _ ?_);refine gx_ret ?_;refine (show bodyPost _ Tryz.f184 RR Exit.ret _ _ from zr ?_);exact rb (by first|rfl|(simp only[willOkB,Bool.and_assoc,Bool.or_assoc,Bool.and_true,Bool.true_and,Bool.and_false,Bool.false_and]<;>rfl)|(simp[willOkB];done)|(simp only[willOkB];grind))
theorem connectRight_any (v:Int) (p:Pk) (s:Sl) (w:World) (hp:p.At s w) (hF:Fit p) (hT:Tabs w) :
  Calls Tryz.prog 155 #[.int .i64 v,p.val s] w fun e w'=>e=.returned (.bool (connectB v p))∧Kept No w w':=by
 have hcl:decide (0 < p.client.size) = !decide (p.client=⟨#[]⟩):=by
  by_cases h:p.client.size=0
  ·rw[empty_of h];rfl
  ·have h2:p.client≠⟨#[]⟩:=fun e=>h (by rw[e];rfl)
   simp[h2];omega
 have hpl:decide (p.pass.size≤65535) = !decide (65535 < p.pass.size):=by
  rw[Bool.eq_iff_iff];simp
 let RR:Ending→World→Prop:=fun e w'=>e=.returned (.bool (connectB v p))∧Kept No w w'
 go_enter Tryz.func155,Tryz.ntmps155
 generalize hA:({ tmps:=_,defers:=[] }:Act)=A;have F:Fr A 46 [(1,(Pk.val p s)),(0,(.int .i64 v))]:=by rw[← hA];exact (Fr.cons (i:=1) (v:=(Pk.val p s)) (Fr.cons (i:=0) (v:=(.int .i64 v)) (Fr.nil0 rfl rfl) rfl) rfl)
 clear hA;have H:=Hp.start w;refine wp_seq_k (fun K1 hK1=>gx_region ?_);refine hz_new (c:=(Pk.cells p s)) (t:=33) F H rfl (ex_box rfl (F.e rfl) (gx_box _ _)) ?_;clear F A;intro b2 W A hk hN H9 F;clear H;have H:=H9;clear H9;clear hk hN;refine zd ?_;intro A F;refine wpList_nil (hK1 _ _ ?_);refine wp_seq_k (fun K3 hK3=>?_);refine wp_seq_k (fun K4 hK4=>gx_region ?_)
 iterate 2 (refine zd ?_;intro A F)
 refine hz_callk F H rfl (ex_call rfl rfl (gx_l1 (F.e rfl) gx_l0) fn_183) (right_any p.client _ (by have:=hF.r.client;have:=hF.r.user;have:=hF.r.topic;have:=hF.r.willTopic;omega) (hT.kept H.k)) ?_;clear F H A;intro W A hk H F;clear hk
 iterate 2 (refine zd ?_;intro A F)
 iterate 2 (refine zg ?_;intro A F)
 refine hz_callg F H rfl (hw_f F rfl rfl rfl) (fun hG=>(ex_call rfl rfl (gx_l1 (F.o rfl hG) gx_l0) fn_183)) (fun hG=>right_any p.user _ (by have:=hF.r.client;have:=hF.r.user;have:=hF.r.topic;have:=hF.r.willTopic;omega) (hT.kept H.k)) ?_;clear F H A;intro W A hk H F;clear hk;refine zg ?_;intro A F;refine hz_do F rfl (ex_pickO rfl (F.e rfl) (fun hx=>(F.o rfl (gnt hx))) rfl) ?_;intro A F;refine zd ?_;intro A F
 iterate 2 (refine zg ?_;intro A F)
 refine hz_g F rfl (hw_f F rfl rfl rfl) (fun hG=>(ex_len rfl (gx_l1 (F.o rfl hG) gx_l0) (rn_lenstr Tryz.underlying9))) ?_;intro A F;refine hz_g F rfl (hw_f F rfl rfl rfl) (fun hG=>(ex_bin rfl (F.o rfl hG) gx_evc (rn_gtrN (i:=p.pass.size) (j:=65535)))) ?_;intro A F;refine hz_do F rfl (ex_pickO rfl (F.e rfl) (fun hx=>(F.o rfl (gnt hx))) rfl) ?_;intro A F;refine wpList_nil (hK4 _ _ ?_);refine zc (fun hb7=>?_) (fun hb7=>?_)
 ·skip
  replace F:=(((F.nil.cons (F.g 4 _ rfl)).cons (F.g 3 _ rfl)).cons (F.g 0 _ rfl))
  refine wp_seq_k (fun K8 hK8=>gx_region ?_);refine zd ?_;intro A F;refine wpList_nil (hK8 _ _ ?_);refine gx_ret ?_;refine (show bodyPost _ Tryz.f155 RR Exit.ret _ _ from zr ?_);exact rb (by first|rfl|(simp only[connectB,hcl,hpl,hb7,Bool.and_assoc,Bool.or_assoc,Bool.and_true,Bool.true_and,Bool.and_false,Bool.false_and]<;>rfl)|(simp[connectB,hcl,hpl,hb7];done)|(simp only[connectB,hcl,hpl,hb7];grind))
 replace F:=(((F.nil.cons (F.g 4 _ rfl)).cons (F.g 3 _ rfl)).cons (F.g 0 _ rfl))
 refine wp_skip (hK3 _ _ ?_);refine wp_seq_k (fun K9 hK9=>?_);refine wp_seq_k (fun K10 hK10=>gx_region ?_)
 iterate 3 (refine zd ?_;intro A F)
 refine hz_g F rfl (hw_t F rfl rfl rfl) (fun hG=>(ex_load rfl (F.e rfl) (gl_agg ((Pk.cells p s)) rfl (ga_33 _) (gs_33 _) (fun i=>H.cs 0 rfl i)))) ?_;intro A F;refine hz_callg F H rfl (hw_t F rfl rfl rfl) (fun hG=>(ex_call rfl rfl (gx_l1 (F.o rfl hG) gx_l0) fn_184)) (fun hG=>willRight_any p s _ (hp.kept H.k) hF (hT.kept H.k)) ?_;clear F H A;intro W A hk H F;clear hk;refine zg ?_;intro A F;refine hz_do F rfl (ex_pickA rfl (F.e rfl) (fun hx=>(F.o rfl hx)) rfl) ?_;intro A F;refine wpList_nil (hK10 _ _ ?_);refine zc (fun hb12=>?_) (fun hb12=>?_)
 ·skip
  refine wp_seq_k (fun K13 hK13=>gx_region ?_);refine zd ?_;intro A F;refine wpList_nil (hK13 _ _ ?_);refine gx_ret ?_;refine (show bodyPost _ Tryz.f155 RR Exit.ret _ _ from zr ?_);exact rb (by first|rfl|(simp only[connectB,hcl,hpl,hb7,hb12,Bool.and_assoc,Bool.or_assoc,Bool.and_true,Bool.true_and,Bool.and_false,Bool.false_and]<;>rfl)|(simp[connectB,hcl,hpl,hb7,hb12];done)|(simp only[connectB,hcl,hpl,hb7,hb12];grind))
 refine wp_skip (hK9 _ _ ?_);refine wp_seq_k (fun K14 hK14=>?_);refine wp_seq_k (fun K15 hK15=>gx_region ?_);refine zd ?_;intro A F;refine zb (rn_eql) ?_;intro A F;refine wpList_nil (hK15 _ _ ?_);refine zc (fun hb16=>?_) (fun hb16=>?_)
 ·skip
  refine wp_seq_k (fun K17 hK17=>gx_region ?_);refine zd ?_;intro A F;refine wpList_nil (hK17 _ _ ?_);refine gx_ret ?_;refine (show bodyPost _ Tryz.f155 RR Exit.ret _ _ from zr ?_);exact rb (by first|rfl|(simp only[connectB,hcl,hpl,hb7,hb12,hb16,Bool.and_assoc,Bool.or_assoc,Bool.and_true,Bool.true_and,Bool.and_false,Bool.false_and]<;>rfl)|(simp[connectB,hcl,hpl,hb7,hb12,hb16];done)|(simp only[connectB,hcl,hpl,hb7,hb12,hb16];grind))
 refine wp_skip (hK14 _ _ ?_);refine wp_seq_k (fun K18 hK18=>gx_region ?_)
 iterate 3 (refine zd ?_;intro A F)
 iterate 3 (refine zg ?_;intro A F)
 refine hz_do F rfl (ex_pickO rfl (F.e rfl) (fun hx=>(F.o rfl (gnt hx))) rfl) ?_;intro A F;refine zd ?_;intro A F
 iterate 5 (refine zg ?_;intro A F)
 refine hz_g F rfl (hw_of F rfl rfl rfl) (fun hG=>(ex_bin rfl (F.o rfl hG) gx_evc (rn_sneq))) ?_;intro A F;refine zg ?_;intro A F;refine hz_do F rfl (ex_pickA rfl (F.e rfl) (fun hx=>(F.o rfl hx)) rfl) ?_;intro A F;refine zd ?_;intro A F;refine wpList_nil (hK18 _ _ ?_);refine gx_ret ?_;refine (show bodyPost _ Tryz.f155 RR Exit.ret _ _ from zr ?_);exact rb (by first|rfl|(simp only[connectB,hcl,hpl,hb7,hb12,hb16,Bool.and_assoc,Bool.or_assoc,Bool.and_true,Bool.true_and,Bool.and_false,Bool.false_and]<;>rfl)|(simp[connectB,hcl,hpl,hb7,hb12,hb16];done)|(simp only[connectB,hcl,hpl,hb7,hb12,hb16];grind))
theorem codeKnown_any (v:Int) (p:Pk) (s:Sl) (w:World) (hp:p.At s w) (hF:Fit p) (hT:Tabs w) :
  Calls Tryz.prog 156 #[.int .i64 v,p.val s] w fun e w'=>e=.returned (.bool (ke v p.kind p.code))∧Kept No w w':=by
 let RR:Ending→World→Prop:=fun e w'=>e=.returned (.bool (ke v p.kind p.code))∧Kept No w w'
 go_enter Tryz.func156,Tryz.ntmps156
 generalize hA:({ tmps:=_,defers:=[] }:Act)=A;have F:Fr A 11 [(1,(Pk.val p s)),(0,(.int .i64 v))]:=by rw[← hA];exact (Fr.cons (i:=1) (v:=(Pk.val p s)) (Fr.cons (i:=0) (v:=(.int .i64 v)) (Fr.nil0 rfl rfl) rfl) rfl)
 clear hA;have H:=Hp.start w;refine wp_seq_k (fun K1 hK1=>gx_region ?_);refine hz_new (c:=(Pk.cells p s)) (t:=33) F H rfl (ex_box rfl (F.e rfl) (gx_box _ _)) ?_;clear F A;intro b2 W A hk hN H9 F;clear H;have H:=H9;clear H9;clear hk hN;refine zd ?_;intro A F;refine wpList_nil (hK1 _ _ ?_);refine wp_seq_k (fun K3 hK3=>gx_region ?_)
 iterate 5 (refine zd ?_;intro A F)
 refine hz_callk F H rfl (ex_call rfl rfl (gx_l1 (F.e rfl) (gx_l1 (F.e rfl) (gx_l1 (F.e rfl) gx_l0))) fn_185) (known_any v p.kind p.code _ hF.code) ?_;clear F H A;intro W A hk H F;clear hk;refine zd ?_;intro A F;refine wpList_nil (hK3 _ _ ?_);refine gx_ret ?_;refine (show bodyPost _ Tryz.f156 RR Exit.ret _ _ from zr ?_);exact rb (by first|rfl|(simp only[ke,Bool.and_assoc,Bool.or_assoc,Bool.and_true,Bool.true_and,Bool.and_false,Bool.false_and]<;>rfl)|(simp[ke];done)|(simp only[ke];grind))
theorem sharedV_is (s:ByteArray):∃ s1 s2,sharedV s=.tuple #[.string s1,.string s2,.bool (sharedB s)]:=by
 unfold sharedV;cases sharedB s with
 | true=>exact ⟨_,_,rfl⟩
 | false=>exact ⟨_,_,rfl⟩
theorem optRight_any (v k:Int) (f:Fi) (w:World) (ho:f.opt < 256) (ht:f.text.size≤140737488351232) (hT:Tabs w) :
  Calls Tryz.prog 188 #[.int .i64 v,.int .i64 k,f.val] w fun e w'=>e=.returned (.bool (optB v k f))∧Kept No w w':=by
 rw[← optC_eq v k f ho];let RR:Ending→World→Prop:=fun e w'=>e=.returned (.bool (optC v k f))∧Kept No w w'
 go_enter Tryz.func188,Tryz.ntmps188
 generalize hA:({ tmps:=_,defers:=[] }:Act)=A;have F:Fr A 50 [(2,(.agg #[(.string f.text),(.int .u8 ((f.opt:Int)))])),(1,(.int .i64 k)),(0,(.int .i64 v))]:=by rw[← hA];exact (Fr.cons (i:=2) (v:=(.agg #[(.string f.text),(.int .u8 ((f.opt:Int)))])) (Fr.cons (i:=1) (v:=(.int .i64 k)) (Fr.cons (i:=0) (v:=(.int .i64 v)) (Fr.nil0 rfl rfl) rfl) rfl) rfl)
 clear hA;have H:=Hp.start w;refine wp_seq_k (fun K1 hK1=>gx_region ?_);refine hz_new (c:=#[(.string f.text),(.int .u8 ((f.opt:Int)))]) (t:=102) F H rfl (ex_box rfl (F.e rfl) (gx_box _ _)) ?_;clear F A;intro b2 W A hk hN H9 F;clear H;have H:=H9;clear H9;clear hk hN;refine zd ?_;intro A F;refine wpList_nil (hK1 _ _ ?_);refine wp_seq_k (fun K3 hK3=>?_);refine wp_seq_k (fun K4 hK4=>gx_region ?_);refine zd ?_;intro A F;refine zb (rn_eql) ?_;intro A F;refine wpList_nil (hK4 _ _ ?_);refine zc (fun hb5=>?_) (fun hb5=>?_)
 ·skip
  refine wp_seq_k (fun K6 hK6=>gx_region ?_)
  iterate 2 (refine zd ?_;intro A F)
  refine zb (rn_eqlN (i:=f.opt) (j:=0)) ?_;intro A F;refine zd ?_;intro A F;refine wpList_nil (hK6 _ _ ?_);refine gx_ret ?_;refine (show bodyPost _ Tryz.f188 RR Exit.ret _ _ from zr ?_);exact rb (by first|rfl|(simp only[optC,hb5,Bool.and_assoc,Bool.or_assoc,Bool.and_true,Bool.true_and,Bool.and_false,Bool.false_and]<;>rfl)|(simp[optC,hb5];done)|(simp only[optC,hb5];grind))
 refine wp_skip (hK3 _ _ ?_);refine wp_seq_k (fun K7 hK7=>?_);refine wp_seq_k (fun K8 hK8=>gx_region ?_)
 iterate 2 (refine zd ?_;intro A F)
 refine hz_do F rfl (ex_bin rfl (F.e rfl) gx_evc (rn_and8 (m:=f.opt) (n:=3) (by omega) (by decide))) ?_;intro A F;refine zb (rn_gtrN (i:=((f.opt &&& 3))) (j:=2)) ?_;intro A F;refine wpList_nil (hK8 _ _ ?_);refine zc (fun hb9=>?_) (fun hb9=>?_)
 ·skip
  refine wp_seq_k (fun K10 hK10=>gx_region ?_);refine zd ?_;intro A F;refine wpList_nil (hK10 _ _ ?_);refine gx_ret ?_;refine (show bodyPost _ Tryz.f188 RR Exit.ret _ _ from zr ?_);exact rb (by first|rfl|(simp only[optC,hb5,hb9,Bool.and_assoc,Bool.or_assoc,Bool.and_true,Bool.true_and,Bool.and_false,Bool.false_and]<;>rfl)|(simp[optC,hb5,hb9];done)|(simp only[optC,hb5,hb9];grind))
 refine wp_skip (hK7 _ _ ?_);refine wp_seq_k (fun K11 hK11=>?_);refine wp_seq_k (fun K12 hK12=>gx_region ?_);refine zd ?_;intro A F;refine zb (rn_eql) ?_;intro A F;refine wpList_nil (hK12 _ _ ?_);refine zc (fun hb13=>?_) (fun hb13=>?_)
 ·skip
  refine wp_seq_k (fun K14 hK14=>gx_region ?_)
  iterate 2 (refine zd ?_;intro A F)
  refine hz_do F rfl (ex_bin rfl (F.e rfl) gx_evc (rn_andNot8 (m:=f.opt) (n:=3) (by omega) (by decide))) ?_;intro A F;refine zb (rn_eqlN (i:=((f.opt &&& 252))) (j:=0)) ?_;intro A F;refine zd ?_;intro A F;refine wpList_nil (hK14 _ _ ?_);refine gx_ret ?_;refine (show bodyPost _ Tryz.f188 RR Exit.ret _ _ from zr ?_);exact rb (by first|rfl|(simp only[optC,hb5,hb9,hb13,Bool.and_assoc,Bool.or_assoc,Bool.and_true,Bool.true_and,Bool.and_false,Bool.false_and]<;>rfl)|(simp[optC,hb5,hb9,hb13];done)|(simp only[optC,hb5,hb9,hb13];grind))
 refine wp_skip (hK11 _ _ ?_);refine wp_seq_k (fun K15 hK15=>?_);refine wp_seq_k (fun K16 hK16=>gx_region ?_)
 iterate 2 (refine zd ?_;intro A F)
 refine hz_do F rfl (ex_bin rfl (F.e rfl) gx_evc (rn_and8 (m:=f.opt) (n:=48) (by omega) (by decide))) ?_;intro A F;refine zb (rn_eqlN (i:=((f.opt &&& 48))) (j:=48)) ?_;intro A F;refine zd ?_;intro A F
 iterate 2 (refine zg ?_;intro A F)
 refine hz_g F rfl (hw_f F rfl rfl rfl) (fun hG=>(ex_bin rfl (F.o rfl hG) gx_evc (rn_and8 (m:=f.opt) (n:=192) (by omega) (by decide)))) ?_;intro A F;refine hz_g F rfl (hw_f F rfl rfl rfl) (fun hG=>(ex_bin rfl (F.o rfl hG) gx_evc (rn_neqN (i:=((f.opt &&& 192))) (j:=0)))) ?_;intro A F;refine hz_do F rfl (ex_pickO rfl (F.e rfl) (fun hx=>(F.o rfl (gnt hx))) rfl) ?_;intro A F;refine wpList_nil (hK16 _ _ ?_);refine zc (fun hb17=>?_) (fun hb17=>?_)
 ·skip
  replace F:=((F.nil.cons (F.g 6 _ rfl)).cons (F.g 5 _ rfl))
  refine wp_seq_k (fun K18 hK18=>gx_region ?_);refine zd ?_;intro A F;refine wpList_nil (hK18 _ _ ?_);refine gx_ret ?_;refine (show bodyPost _ Tryz.f188 RR Exit.ret _ _ from zr ?_);exact rb (by first|rfl|(simp only[optC,hb5,hb9,hb13,hb17,Bool.and_assoc,Bool.or_assoc,Bool.and_true,Bool.true_and,Bool.and_false,Bool.false_and]<;>rfl)|(simp[optC,hb5,hb9,hb13,hb17];done)|(simp only[optC,hb5,hb9,hb13,hb17];grind))
 replace F:=((F.nil.cons (F.g 6 _ rfl)).cons (F.g 5 _ rfl))
 refine wp_skip (hK15 _ _ ?_);refine wp_seq_k (fun K19 hK19=>gx_region ?_)
 iterate 2 (refine zd ?_;intro A F)
 refine hz_call (R:=fun vv ww=>∃ s1 s2,vv=.tuple #[.string s1,.string s2,.bool (sharedB f.text)]) F H rfl (ex_call rfl rfl (gx_l1 (F.e rfl) gx_l0) fn_207) ((shared_any f.text _ (by omega) (hT.kept H.k)).mono fun e9 ww h9=>by obtain ⟨s1,s2,hs⟩:=sharedV_is f.text;exact ⟨_,h9.1,⟨s1,s2,hs⟩,h9.2⟩) ?_;clear F H A;intro vv W A hR hk H F;obtain ⟨s1,s2,rfl⟩:=hR;clear hk
 iterate 7 (refine zd ?_;intro A F)
 refine wpList_nil (hK19 _ _ ?_);refine wp_seq_k (fun K21 hK21=>gx_region ?_)
 iterate 3 (refine zd ?_;intro A F)
 iterate 2 (refine zg ?_;intro A F)
 refine hz_g F rfl (hw_f F rfl rfl rfl) (fun hG=>(ex_bin rfl (F.o rfl hG) gx_evc (rn_and8 (m:=f.opt) (n:=4) (by omega) (by decide)))) ?_;intro A F;refine hz_g F rfl (hw_f F rfl rfl rfl) (fun hG=>(ex_bin rfl (F.o rfl hG) gx_evc (rn_eqlN (i:=((f.opt &&& 4))) (j:=0)))) ?_;intro A F;refine hz_do F rfl (ex_pickO rfl (F.e rfl) (fun hx=>(F.o rfl (gnt hx))) rfl) ?_;intro A F;refine zd ?_;intro A F;refine wpList_nil (hK21 _ _ ?_);refine gx_ret ?_;refine (show bodyPost _ Tryz.f188 RR Exit.ret _ _ from zr ?_);exact rb (by first|rfl|(simp only[optC,hb5,hb9,hb13,hb17,Bool.and_assoc,Bool.or_assoc,Bool.and_true,Bool.true_and,Bool.and_false,Bool.false_and]<;>rfl)|(simp[optC,hb5,hb9,hb13,hb17];done)|(simp only[optC,hb5,hb9,hb13,hb17];grind))
theorem filtersRight_any (v:Int) (p:Pk) (s:Sl) (w:World) (hp:p.At s w) (hF:Fit p) (hT:Tabs w) :
  Calls Tryz.prog 158 #[.int .i64 v,p.val s] w fun e w'=>e=.returned (.bool (filtersB v p))∧Kept No w w':=by
 have hl1:decide (1≤p.filters.length) = !decide (p.filters.length=0):=nat_le1 _;have hl2:decide (p.filters.length≤1024) = !decide (1024 < p.filters.length):=nat_le _ _;have hm:=hF.few.hf;let RR:Ending→World→Prop:=fun e w'=>e=.returned (.bool (filtersB v p))∧Kept No w w'
 go_enter Tryz.func158,Tryz.ntmps158
 generalize hA:({ tmps:=_,defers:=[] }:Act)=A;have F:Fr A 37 [(1,(Pk.val p s)),(0,(.int .i64 v))]:=by rw[← hA];exact (Fr.cons (i:=1) (v:=(Pk.val p s)) (Fr.cons (i:=0) (v:=(.int .i64 v)) (Fr.nil0 rfl rfl) rfl) rfl)
 clear hA;have H:=Hp.start w;refine wp_seq_k (fun K1 hK1=>gx_region ?_);refine hz_new (c:=(Pk.cells p s)) (t:=33) F H rfl (ex_box rfl (F.e rfl) (gx_box _ _)) ?_;clear F A;intro b2 W A hk hN H9 F;clear H;have H:=H9;clear H9;clear hk hN;refine zd ?_;intro A F;refine wpList_nil (hK1 _ _ ?_);refine wp_seq_k (fun K3 hK3=>?_);refine wp_seq_k (fun K4 hK4=>gx_region ?_)
 iterate 2 (refine zd ?_;intro A F)
 refine hz_do F rfl (ex_len rfl (gx_l1 (F.e rfl) gx_l0) (rn_lens Tryz.underlying31)) ?_;intro A F;refine zb (rn_eqlN (i:=p.filters.length) (j:=0)) ?_;intro A F;refine zd ?_;intro A F
 iterate 2 (refine zg ?_;intro A F)
 refine hz_g F rfl (hw_f F rfl rfl rfl) (fun hG=>(ex_len rfl (gx_l1 (F.o rfl hG) gx_l0) (rn_lens Tryz.underlying31))) ?_;intro A F;refine hz_g F rfl (hw_f F rfl rfl rfl) (fun hG=>(ex_bin rfl (F.o rfl hG) gx_evc (rn_gtrN (i:=p.filters.length) (j:=1024)))) ?_;intro A F;refine hz_do F rfl (ex_pickO rfl (F.e rfl) (fun hx=>(F.o rfl (gnt hx))) rfl) ?_;intro A F;refine wpList_nil (hK4 _ _ ?_);refine zc (fun hb5=>?_) (fun hb5=>?_)
 ·skip
  refine wp_seq_k (fun K6 hK6=>gx_region ?_);refine zd ?_;intro A F;refine wpList_nil (hK6 _ _ ?_);refine gx_ret ?_;refine (show bodyPost _ Tryz.f158 RR Exit.ret _ _ from zr ?_);exact ⟨by simp only[filtersB,hl1,hl2];(have:=hb5;revert this;cases decide (p.filters.length=0)<;>cases decide (1024 < p.filters.length)<;>simp),H.k⟩
 refine wp_skip (hK3 _ _ ?_);refine wp_seq_k (fun K7 hK7=>?_);refine wp_seq_k (fun K8 hK8=>gx_region ?_)
 iterate 2 (refine zd ?_;intro A F)
 refine hz_do F rfl (ex_len rfl (gx_l1 (F.e rfl) gx_l0) (rn_lens Tryz.underlying31)) ?_;intro A F;refine zd ?_;intro A F;refine wpList_nil (hK8 _ _ ?_);refine wp_block ?_;refine hz_loop (fun (j:Nat) A W=>Fr A 37 [(0,(.int .i64 v)),(3,(.pointer (some ⟨b2,0,none⟩))),(18,(.slice s.fa p.filters.length s.fc)),(19,(.int .i64 ((p.filters.length:Int)))),(20,(.int .i64 ((j:Int))))]∧Hp w W [⟨b2,33,(Pk.cells p s)⟩]∧(j≤p.filters.length∧(p.filters.take j).all (fun f=>filterB f.text&&optB v p.kind f)=true)) (fun j=>p.filters.length - j) 0 ⟨(((((F.nil.cons (gx_is (F.g 20 _ rfl) (by rfl))).cons (F.g 19 _ rfl)).cons (F.g 18 _ rfl)).cons (F.g 3 _ rfl)).cons (F.g 0 _ rfl)),H,⟨by omega,by simp⟩⟩ (fun j A W hI J9 hJ9=>?_);clear F H;obtain ⟨F,H,hj,hall⟩:=hI
 by_cases hlt:j < p.filters.length
 ·skip
  have ht10:decide (j < p.filters.length)=true:=decide_eq_true hlt;obtain ⟨b9,off9,ha9,hbb9,q0,q1⟩:=(hp.kept H.k).hf.filt hlt;rw[ha9]at F;obtain ⟨f9,hF9⟩:∃ f9,f9=p.filters[j]:=⟨_,rfl⟩
  rw[← hF9]at q0 q1;have hFo:f9.opt < 256:=hF9▸hF.opt _ (List.getElem_mem hlt);have hFt:f9.text.size≤140737488351232:=hF9▸hF.r.tf _ (List.getElem_mem hlt);refine wp_seq_k (fun K11 hK11=>gx_region ?_);refine zb (rn_lssN (i:=j) (j:=p.filters.length)) ?_;intro A F;replace F:=F.hd (congrArg Value.bool ht10);refine wpList_nil (hK11 _ _ ?_);refine wp_seq_k (fun K12 hK12=>?_);refine wp_cond_true (F.e rfl) ?_;refine wp_skip (hK12 _ _ ?_);refine wp_seq_k (fun K13 hK13=>?_);refine wp_block ?_;refine wp_seq_k (fun K14 hK14=>gx_region ?_);refine hz_do F rfl (ex_idxaddr rfl (F.e rfl) (F.e rfl) (rn_idx Tryz.underlying31 (gs_102 _) hlt)) ?_;intro A F;refine hz_do F rfl (ex_load rfl (F.e rfl) (gl_agg2 (ga_102 _) (gs_102 _) q0 q1)) ?_;intro A F;refine hz_new (c:=#[(.string ⟨#[]⟩),(.int .u8 0)]) (t:=102) F H rfl (ex_alloc rfl (al_102 _)) ?_;clear F A;intro b15 W A hk hN H9 F;clear H;have H:=H9;clear H9;clear hk hN;obtain ⟨W9,hr,hB,hk⟩:=gx_storeAgg (P:=Tryz.prog) (S:=102) (c:=#[(.string f9.text),(.int .u8 ((f9.opt:Int)))]) _ (H.b.at_ (j:=0) rfl).1 (gs_102 _) rfl (by simp[Value.oneCell']);refine hz_st (ex_store rfl (F.e rfl) (F.e rfl) hr) ?_;clear hr;replace H:Hp _ _ [_,_]:=Hp.turn [] H hk hB;clear hk hB;refine wpList_nil (hK14 _ _ ?_);refine wp_seq_k (fun K16 hK16=>gx_region ?_)
  iterate 2 (refine zd ?_;intro A F)
  refine hz_callk F H rfl (ex_call rfl rfl (gx_l1 (F.e rfl) gx_l0) fn_187) (filter_any f9.text _ (by omega) (hT.kept H.k)) ?_;clear F H A;intro W A hk H F;clear hk
  iterate 2 (refine zd ?_;intro A F)
  iterate 3 (refine zg ?_;intro A F)
  refine hz_g F rfl (hw_f F rfl rfl rfl) (fun hG=>(ex_load rfl (F.e rfl) (gl_agg (#[(.string f9.text),(.int .u8 ((f9.opt:Int)))]) rfl (ga_102 _) (gs_102 _) (fun i=>H.cs 0 rfl i)))) ?_;intro A F;refine hz_callg F H rfl (hw_f F rfl rfl rfl) (fun hG=>(ex_call rfl rfl (gx_l1 (F.o rfl hG) (gx_l1 (F.o rfl hG) (gx_l1 (F.o rfl hG) gx_l0))) fn_188)) (fun hG=>optRight_any v p.kind f9 _ hFo hFt (hT.kept H.k)) ?_;clear F H A;intro W A hk H F;clear hk;refine zg ?_;intro A F;refine hz_do F rfl (ex_pickO rfl (F.e rfl) (fun hx=>(F.o rfl (gnt hx))) rfl) ?_;intro A F;refine wpList_nil (hK16 _ _ ?_);refine zc (fun hb19=>?_) (fun hb19=>?_)
  ·skip
   refine wp_seq_k (fun K20 hK20=>gx_region ?_);refine zd ?_;intro A F;refine wpList_nil (hK20 _ _ ?_);refine gx_ret ?_;refine (show bodyPost _ Tryz.f158 RR Exit.ret _ _ from zr ?_);exact ⟨by rw[show filtersB v p=false from by unfold filtersB;rw[all_fail hlt (by rw[← hF9];have:=hb19;revert this;cases filterB f9.text<;>cases optB v p.kind f9<;>simp)];simp],H.k⟩
  refine wp_skip (hK13 _ _ ?_);refine gx_region ?_;refine hz_do F rfl (ex_bin rfl (F.e rfl) gx_evc (rn_add (gx_wrap_i64 (by omega) (by omega)))) ?_;intro A F;refine zd ?_;intro A F;refine wpList_nil ?_;exact hJ9 ((j+1)) _ _ (by omega) ⟨(((((F.nil.cons (gx_is (F.g 20 _ rfl) (by simp))).cons (F.g 19 _ rfl)).cons (gx_is (F.g 18 _ rfl) (by rw[ha9]))).cons (F.g 3 _ rfl)).cons (F.g 0 _ rfl)),H.tl,⟨by omega,all_step hlt hall (by rw[← hF9];have:=hb19;revert this;cases filterB f9.text<;>cases optB v p.kind f9<;>simp)⟩⟩
 have ht21:decide (j < p.filters.length)=false:=decide_eq_false hlt;refine wp_seq_k (fun K22 hK22=>gx_region ?_);refine zb (rn_lssN (i:=j) (j:=p.filters.length)) ?_;intro A F;replace F:=F.hd (congrArg Value.bool ht21);refine wpList_nil (hK22 _ _ ?_);refine wp_seq_k (fun K23 hK23=>?_);refine wp_cond_false (F.e rfl) ?_;refine wp_exit ?_;refine hK7 _ _ ?_;refine wp_seq_k (fun K24 hK24=>gx_region ?_);refine zd ?_;intro A F;refine wpList_nil (hK24 _ _ ?_);refine gx_ret ?_;refine (show bodyPost _ Tryz.f158 RR Exit.ret _ _ from zr ?_);exact ⟨by simp only[filtersB,hl1,hl2,all_end hlt hall];(first|rfl|(have:=hb5;revert this;cases decide (p.filters.length=0)<;>cases decide (1024 < p.filters.length)<;>simp)),H.k⟩
theorem codes_42 {v:Int} {p:Pk} (h:(decide (v=4)&&decide (p.kind=11))=true):codesB v p=decide (p.codes.length=0):=by
 simp only[Bool.and_eq_true,decide_eq_true_eq]at h;unfold codesB;rw[if_pos h]
theorem codes_no {v:Int} {p:Pk} (h:(decide (v=4)&&decide (p.kind=11))=false) (k:(decide (p.codes.length=0)||decide (1024 < p.codes.length))=true):codesB v p=false:=by
 have h':¬ (v=4∧p.kind=11):=by intro ⟨a,b⟩;rw[decide_eq_true a,decide_eq_true b]at h;cases h
 unfold codesB;rw[if_neg h'];simp only[Bool.or_eq_true,decide_eq_true_eq]at k;rcases k with k|k
 ·rw[decide_eq_false (by omega:¬ 1≤p.codes.length)];rfl
 ·rw[decide_eq_false (by omega:¬ p.codes.length≤1024)];simp
theorem codes_all {v:Int} {p:Pk} (h:(decide (v=4)&&decide (p.kind=11))=false) (k:(decide (p.codes.length=0)||decide (1024 < p.codes.length))=false):codesB v p=p.codes.all (fun c=>ke v p.kind c.toNat):=by
 have h':¬ (v=4∧p.kind=11):=by intro ⟨a,b⟩;rw[decide_eq_true a,decide_eq_true b]at h;cases h
 unfold codesB;rw[if_neg h'];simp only[Bool.or_eq_false_iff,decide_eq_false_iff_not]at k;rw[decide_eq_true (by omega:1≤p.codes.length),decide_eq_true (by omega:p.codes.length≤1024)];rfl
theorem codesRight_any (v:Int) (p:Pk) (s:Sl) (w:World) (hp:p.At s w) (hF:Fit p) (hT:Tabs w) :
  Calls Tryz.prog 159 #[.int .i64 v,p.val s] w fun e w'=>e=.returned (.bool (codesB v p))∧Kept No w w':=by
 have hm:=hF.few.hc;let RR:Ending→World→Prop:=fun e w'=>e=.returned (.bool (codesB v p))∧Kept No w w'
 go_enter Tryz.func159,Tryz.ntmps159
 generalize hA:({ tmps:=_,defers:=[] }:Act)=A;have F:Fr A 42 [(1,(Pk.val p s)),(0,(.int .i64 v))]:=by rw[← hA];exact (Fr.cons (i:=1) (v:=(Pk.val p s)) (Fr.cons (i:=0) (v:=(.int .i64 v)) (Fr.nil0 rfl rfl) rfl) rfl)
 clear hA;have H:=Hp.start w;refine wp_seq_k (fun K1 hK1=>gx_region ?_);refine hz_new (c:=(Pk.cells p s)) (t:=33) F H rfl (ex_box rfl (F.e rfl) (gx_box _ _)) ?_;clear F A;intro b2 W A hk hN H9 F;clear H;have H:=H9;clear H9;clear hk hN;refine zd ?_;intro A F;refine wpList_nil (hK1 _ _ ?_);refine wp_seq_k (fun K3 hK3=>?_);refine wp_seq_k (fun K4 hK4=>gx_region ?_);refine zd ?_;intro A F;refine zb (rn_eql) ?_;intro A F;refine zd ?_;intro A F
 iterate 2 (refine zg ?_;intro A F)
 refine hz_g F rfl (hw_t F rfl rfl rfl) (fun hG=>(ex_bin rfl (F.o rfl hG) gx_evc (rn_eql))) ?_;intro A F;refine hz_do F rfl (ex_pickA rfl (F.e rfl) (fun hx=>(F.o rfl hx)) rfl) ?_;intro A F;refine wpList_nil (hK4 _ _ ?_);refine zc (fun hb5=>?_) (fun hb5=>?_)
 ·skip
  refine wp_seq_k (fun K6 hK6=>gx_region ?_)
  iterate 2 (refine zd ?_;intro A F)
  refine hz_do F rfl (ex_len rfl (gx_l1 (F.e rfl) gx_l0) (rn_lens Tryz.underlying25)) ?_;intro A F;refine zb (rn_eqlN (i:=p.codes.length) (j:=0)) ?_;intro A F;refine zd ?_;intro A F;refine wpList_nil (hK6 _ _ ?_);refine gx_ret ?_;refine (show bodyPost _ Tryz.f159 RR Exit.ret _ _ from zr ?_);exact ⟨by rw[codes_42 hb5],H.k⟩
 refine wp_skip (hK3 _ _ ?_);refine wp_seq_k (fun K7 hK7=>?_);refine wp_seq_k (fun K8 hK8=>gx_region ?_)
 iterate 2 (refine zd ?_;intro A F)
 refine hz_do F rfl (ex_len rfl (gx_l1 (F.e rfl) gx_l0) (rn_lens Tryz.underlying25)) ?_;intro A F;refine zb (rn_eqlN (i:=p.codes.length) (j:=0)) ?_;intro A F;refine zd ?_;intro A F
 iterate 2 (refine zg ?_;intro A F)
 refine hz_g F rfl (hw_f F rfl rfl rfl) (fun hG=>(ex_len rfl (gx_l1 (F.o rfl hG) gx_l0) (rn_lens Tryz.underlying25))) ?_;intro A F;refine hz_g F rfl (hw_f F rfl rfl rfl) (fun hG=>(ex_bin rfl (F.o rfl hG) gx_evc (rn_gtrN (i:=p.codes.length) (j:=1024)))) ?_;intro A F;refine hz_do F rfl (ex_pickO rfl (F.e rfl) (fun hx=>(F.o rfl (gnt hx))) rfl) ?_;intro A F;refine wpList_nil (hK8 _ _ ?_);refine zc (fun hb9=>?_) (fun hb9=>?_)
 ·skip
  replace F:=(((F.nil.cons (F.g 4 _ rfl)).cons (F.g 3 _ rfl)).cons (F.g 0 _ rfl))
  refine wp_seq_k (fun K10 hK10=>gx_region ?_);refine zd ?_;intro A F;refine wpList_nil (hK10 _ _ ?_);refine gx_ret ?_;refine (show bodyPost _ Tryz.f159 RR Exit.ret _ _ from zr ?_);exact ⟨by rw[codes_no hb5 hb9],H.k⟩
 replace F:=(((F.nil.cons (F.g 4 _ rfl)).cons (F.g 3 _ rfl)).cons (F.g 0 _ rfl))
 refine wp_skip (hK7 _ _ ?_);refine wp_seq_k (fun K11 hK11=>?_);refine wp_seq_k (fun K12 hK12=>gx_region ?_)
 iterate 2 (refine zd ?_;intro A F)
 refine hz_do F rfl (ex_len rfl (gx_l1 (F.e rfl) gx_l0) (rn_lens Tryz.underlying25)) ?_;intro A F;refine zd ?_;intro A F;refine wpList_nil (hK12 _ _ ?_);refine wp_block ?_;refine hz_loop (fun (j:Nat) A W=>Fr A 42 [(0,(.int .i64 v)),(3,(.pointer (some ⟨b2,0,none⟩))),(29,(.slice s.ca p.codes.length s.cc)),(30,(.int .i64 ((p.codes.length:Int)))),(31,(.int .i64 ((j:Int))))]∧Hp w W [⟨b2,33,(Pk.cells p s)⟩]∧(j≤p.codes.length∧(p.codes.take j).all (fun c=>ke v p.kind c.toNat)=true)) (fun j=>p.codes.length - j) 0 ⟨(((((F.nil.cons (gx_is (F.g 31 _ rfl) (by rfl))).cons (F.g 30 _ rfl)).cons (F.g 29 _ rfl)).cons (F.g 3 _ rfl)).cons (F.g 0 _ rfl)),H,⟨by omega,by simp⟩⟩ (fun j A W hI J13 hJ13=>?_);clear F H;obtain ⟨F,H,hj,hall⟩:=hI
 by_cases hlt:j < p.codes.length
 ·skip
  have ht14:decide (j < p.codes.length)=true:=decide_eq_true hlt;obtain ⟨b9,off9,ha9,hbb9,q0⟩:=(hp.kept H.k).hc.byte hlt;rw[ha9]at F;obtain ⟨f9,hF9⟩:∃ f9,f9=p.codes[j]:=⟨_,rfl⟩
  rw[← hF9]at q0;have hc8:f9.toNat < 256:=f9.toNat_lt;refine wp_seq_k (fun K15 hK15=>gx_region ?_);refine zb (rn_lssN (i:=j) (j:=p.codes.length)) ?_;intro A F;replace F:=F.hd (congrArg Value.bool ht14);refine wpList_nil (hK15 _ _ ?_);refine wp_seq_k (fun K16 hK16=>?_);refine wp_cond_true (F.e rfl) ?_;refine wp_skip (hK16 _ _ ?_);refine wp_seq_k (fun K17 hK17=>?_);refine wp_block ?_;refine wp_seq_k (fun K18 hK18=>gx_region ?_);refine hz_do F rfl (ex_idxaddr rfl (F.e rfl) (F.e rfl) (rn_idx Tryz.underlying25 (gs1_5 _) hlt)) ?_;intro A F;refine hz_do F rfl (ex_load rfl (F.e rfl) (gl_one (ag_5 _) q0)) ?_;intro A F;refine zd ?_;intro A F;refine wpList_nil (hK18 _ _ ?_);refine wp_seq_k (fun K19 hK19=>gx_region ?_)
  iterate 4 (refine zd ?_;intro A F)
  refine hz_callk F H rfl (ex_call rfl rfl (gx_l1 (F.e rfl) (gx_l1 (F.e rfl) (gx_l1 (F.e rfl) gx_l0))) fn_185) (known_any v p.kind f9.toNat _ hc8) ?_;clear F H A;intro W A hk H F;clear hk;refine zd ?_;intro A F;refine wpList_nil (hK19 _ _ ?_);refine zc (fun hb21=>?_) (fun hb21=>?_)
  ·skip
   refine wp_seq_k (fun K22 hK22=>gx_region ?_);refine zd ?_;intro A F;refine wpList_nil (hK22 _ _ ?_);refine gx_ret ?_;refine (show bodyPost _ Tryz.f159 RR Exit.ret _ _ from zr ?_);exact ⟨by rw[codes_all hb5 hb9,all_fail hlt (by rw[← hF9];exact gnf hb21)],H.k⟩
  refine wp_skip (hK17 _ _ ?_);refine gx_region ?_;refine hz_do F rfl (ex_bin rfl (F.e rfl) gx_evc (rn_add (gx_wrap_i64 (by omega) (by omega)))) ?_;intro A F;refine zd ?_;intro A F;refine wpList_nil ?_;exact hJ13 ((j+1)) _ _ (by omega) ⟨(((((F.nil.cons (gx_is (F.g 31 _ rfl) (by simp))).cons (F.g 30 _ rfl)).cons (gx_is (F.g 29 _ rfl) (by rw[ha9]))).cons (F.g 3 _ rfl)).cons (F.g 0 _ rfl)),H,⟨by omega,all_step hlt hall (by rw[← hF9];exact gnz hb21)⟩⟩
 have ht23:decide (j < p.codes.length)=false:=decide_eq_false hlt;refine wp_seq_k (fun K24 hK24=>gx_region ?_);refine zb (rn_lssN (i:=j) (j:=p.codes.length)) ?_;intro A F;replace F:=F.hd (congrArg Value.bool ht23);refine wpList_nil (hK24 _ _ ?_);refine wp_seq_k (fun K25 hK25=>?_);refine wp_cond_false (F.e rfl) ?_;refine wp_exit ?_;refine hK11 _ _ ?_;refine wp_seq_k (fun K26 hK26=>gx_region ?_);refine zd ?_;intro A F;refine wpList_nil (hK26 _ _ ?_);refine gx_ret ?_;refine (show bodyPost _ Tryz.f159 RR Exit.ret _ _ from zr ?_);exact ⟨by rw[codes_all hb5 hb9,all_end hlt hall],H.k⟩
theorem filtersSize_any (p:Pk) (s:Sl) (w:World) (hp:p.At s w) (hF:Fit p) (hS:∀ f∈p.filters,f.text.size≤65535) :
  Calls Tryz.prog 64 #[p.val s] w fun e w'=>e=.returned (.int .i64 (filtersN p.kind p.filters:Int))∧Kept No w w':=by
 have hm:=hF.few.hf;let RR:Ending→World→Prop:=fun e w'=>e=.returned (.int .i64 (filtersN p.kind p.filters:Int))∧Kept No w w'
 go_enter Tryz.func64,Tryz.ntmps64
 generalize hA:({ tmps:=_,defers:=[] }:Act)=A;have F:Fr A 25 [(0,(Pk.val p s))]:=by rw[← hA];exact (Fr.cons (i:=0) (v:=(Pk.val p s)) (Fr.nil0 rfl rfl) rfl)
 clear hA;have H:=Hp.start w;refine wp_seq_k (fun K1 hK1=>gx_region ?_);refine hz_new (c:=(Pk.cells p s)) (t:=33) F H rfl (ex_box rfl (F.e rfl) (gx_box _ _)) ?_;clear F A;intro b2 W A hk hN H9 F;clear H;have H:=H9;clear H9;clear hk hN;refine zd ?_;intro A F;refine wpList_nil (hK1 _ _ ?_);refine wp_seq_k (fun K3 hK3=>gx_region ?_);refine zd ?_;intro A F;refine wpList_nil (hK3 _ _ ?_);refine wp_seq_k (fun K4 hK4=>?_);refine wp_seq_k (fun K5 hK5=>gx_region ?_)
 iterate 2 (refine zd ?_;intro A F)
 refine hz_do F rfl (ex_len rfl (gx_l1 (F.e rfl) gx_l0) (rn_lens Tryz.underlying31)) ?_;intro A F;refine zd ?_;intro A F;refine wpList_nil (hK5 _ _ ?_);refine wp_block ?_;refine hz_loop (fun (j:Nat) A W=>Fr A 25 [(1,(.pointer (some ⟨b2,0,none⟩))),(2,(.int .i64 0)),(3,(.int .i64 ((filtersN p.kind (p.filters.take j):Int)))),(7,(.slice s.fa p.filters.length s.fc)),(8,(.int .i64 ((p.filters.length:Int)))),(9,(.int .i64 ((j:Int))))]∧Hp w W [⟨b2,33,(Pk.cells p s)⟩]∧j≤p.filters.length) (fun j=>p.filters.length - j) 0 ⟨((((((F.nil.cons (gx_is (F.g 9 _ rfl) (by rfl))).cons (F.g 8 _ rfl)).cons (F.g 7 _ rfl)).cons (gx_is (F.g 3 _ rfl) (by simp[filtersN]))).cons (F.g 2 _ rfl)).cons (F.g 1 _ rfl)),H,by omega⟩ (fun j A W hI J6 hJ6=>?_);clear F H;obtain ⟨F,H,hj⟩:=hI
 by_cases hlt:j < p.filters.length
 ·skip
  have ht7:decide (j < p.filters.length)=true:=decide_eq_true hlt;obtain ⟨b9,off9,ha9,hbb9,q0,q1⟩:=(hp.kept H.k).hf.filt hlt;rw[ha9]at F;obtain ⟨f9,hF9⟩:∃ f9,f9=p.filters[j]:=⟨_,rfl⟩
  rw[← hF9]at q0 q1;have hFo:f9.opt < 256:=hF9▸hF.opt _ (List.getElem_mem hlt);have hFt:f9.text.size≤140737488351232:=hF9▸hF.r.tf _ (List.getElem_mem hlt);have hFs:f9.text.size≤65535:=hF9▸hS _ (List.getElem_mem hlt);have hstp:=filtersN_step p.kind hlt;rw[← hF9]at hstp;have hsb:=filtersN_le p.kind (p.filters.take j) (fun f hf=>hS f (List.mem_of_mem_take hf));have htl:(p.filters.take j).length≤j:=List.length_take_le _ _;refine wp_seq_k (fun K8 hK8=>gx_region ?_);refine zb (rn_lssN (i:=j) (j:=p.filters.length)) ?_;intro A F;replace F:=F.hd (congrArg Value.bool ht7);refine wpList_nil (hK8 _ _ ?_);refine wp_seq_k (fun K9 hK9=>?_);refine wp_cond_true (F.e rfl) ?_;refine wp_skip (hK9 _ _ ?_);refine wp_seq_k (fun K10 hK10=>?_);refine wp_block ?_;refine wp_seq_k (fun K11 hK11=>gx_region ?_);refine hz_do F rfl (ex_idxaddr rfl (F.e rfl) (F.e rfl) (rn_idx Tryz.underlying31 (gs_102 _) hlt)) ?_;intro A F;refine hz_do F rfl (ex_load rfl (F.e rfl) (gl_agg2 (ga_102 _) (gs_102 _) q0 q1)) ?_;intro A F;refine hz_new (c:=#[(.string ⟨#[]⟩),(.int .u8 0)]) (t:=102) F H rfl (ex_alloc rfl (al_102 _)) ?_;clear F A;intro b12 W A hk hN H9 F;clear H;have H:=H9;clear H9;clear hk hN;obtain ⟨W9,hr,hB,hk⟩:=gx_storeAgg (P:=Tryz.prog) (S:=102) (c:=#[(.string f9.text),(.int .u8 ((f9.opt:Int)))]) _ (H.b.at_ (j:=0) rfl).1 (gs_102 _) rfl (by simp[Value.oneCell']);refine hz_st (ex_store rfl (F.e rfl) (F.e rfl) hr) ?_;clear hr;replace H:Hp _ _ [_,_]:=Hp.turn [] H hk hB;clear hk hB;refine wpList_nil (hK11 _ _ ?_);refine wp_seq_k (fun K13 hK13=>gx_region ?_)
  iterate 3 (refine zd ?_;intro A F)
  refine hz_callk F H rfl (ex_call rfl rfl (gx_l1 (F.e rfl) gx_l0) fn_61) (pbin_any f9.text _ (by omega)) ?_;clear F H A;intro W A hk H F;clear hk;refine hz_do F rfl (ex_bin rfl (F.e rfl) (F.e rfl) (rn_add (gx_wrap_i64 (by omega) (by omega)))) ?_;intro A F;refine zd ?_;intro A F;refine wpList_nil (hK13 _ _ ?_);refine wp_seq_k (fun K15 hK15=>gx_region ?_)
  iterate 2 (refine zd ?_;intro A F)
  refine zb (rn_eql) ?_;intro A F;refine wpList_nil (hK15 _ _ ?_);refine zc (fun hb16=>?_) (fun hb16=>?_)
  ·skip
   refine gx_region ?_;refine zd ?_;intro A F;refine hz_do F rfl (ex_bin rfl (F.e rfl) gx_evc (rn_add (gx_wrap_i64 (by omega) (by omega)))) ?_;intro A F;refine zd ?_;intro A F;refine wpList_nil (hK10 _ _ ?_);refine gx_region ?_;refine hz_do F rfl (ex_bin rfl (F.e rfl) gx_evc (rn_add (gx_wrap_i64 (by omega) (by omega)))) ?_;intro A F;refine zd ?_;intro A F;refine wpList_nil ?_;exact hJ6 ((j+1)) _ _ (by omega) ⟨((((((F.nil.cons (gx_is (F.g 9 _ rfl) (by simp))).cons (F.g 8 _ rfl)).cons (gx_is (F.g 7 _ rfl) (by rw[ha9]))).cons (gx_is (F.g 3 _ rfl) (by have hx:=hb16;simp only[decide_eq_true_eq,decide_eq_false_iff_not]at hx;(first|rw[if_pos hx]at hstp|rw[if_neg hx]at hstp);exact congrArg (Value.int .i64) (by rw[hstp];push_cast;omega)))).cons (F.g 2 _ rfl)).cons (F.g 1 _ rfl)),H.tl,by omega⟩
  refine wp_skip (hK10 _ _ ?_);refine gx_region ?_;refine hz_do F rfl (ex_bin rfl (F.e rfl) gx_evc (rn_add (gx_wrap_i64 (by omega) (by omega)))) ?_;intro A F;refine zd ?_;intro A F;refine wpList_nil ?_;exact hJ6 ((j+1)) _ _ (by omega) ⟨((((((F.nil.cons (gx_is (F.g 9 _ rfl) (by simp))).cons (F.g 8 _ rfl)).cons (gx_is (F.g 7 _ rfl) (by rw[ha9]))).cons (gx_is (F.g 3 _ rfl) (by have hx:=hb16;simp only[decide_eq_true_eq,decide_eq_false_iff_not]at hx;(first|rw[if_pos hx]at hstp|rw[if_neg hx]at hstp);exact congrArg (Value.int .i64) (by rw[hstp];push_cast;omega)))).cons (F.g 2 _ rfl)).cons (F.g 1 _ rfl)),H.tl,by omega⟩
 have ht17:decide (j < p.filters.length)=false:=decide_eq_false hlt;have hje:j=p.filters.length:=by omega
 have hse:filtersN p.kind (p.filters.take j)=filtersN p.kind p.filters:=by rw[hje,List.take_length]
 refine wp_seq_k (fun K18 hK18=>gx_region ?_);refine zb (rn_lssN (i:=j) (j:=p.filters.length)) ?_;intro A F;replace F:=F.hd (congrArg Value.bool ht17);refine wpList_nil (hK18 _ _ ?_);refine wp_seq_k (fun K19 hK19=>?_);refine wp_cond_false (F.e rfl) ?_;refine wp_exit ?_;refine hK4 _ _ ?_;refine wp_seq_k (fun K20 hK20=>gx_region ?_)
 iterate 2 (refine zd ?_;intro A F)
 refine wpList_nil (hK20 _ _ ?_);refine gx_ret ?_;refine (show bodyPost _ Tryz.f64 RR Exit.ret _ _ from zr ?_);exact ⟨by rw[hse],H.k⟩
end Go.Proofs.YtdeecgmihfakgaaGreatDoor
