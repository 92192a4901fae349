import Derived.Test.YtohmcfmcbibbcaaGreatDoorYH7
namespace Go.Proofs.YtohmcfmcbibbcaaGreatDoor
open Go.RowKit
set_option linter.unusedVariables false
set_option linter.unusedSimpArgs false
set_option maxRecDepth 100000
set_option maxHeartbeats 8000000
section
variable {c:World} {v:Int}
theorem beh_kind (v:Int) (p:Pk):behB v p=if p.kind=1 then connB v p else if p.kind=2 then by1 (bitN p.present 1)++by1 p.code++secB v p.props else if p.kind=3 then publB v p else if p.kind=4∨p.kind=5∨p.kind=6∨p.kind=7 then by2 p.id++shortB v p else if p.kind=8∨p.kind=10 then by2 p.id++secB v p.props++filtB p.kind p.filters else if p.kind=9∨p.kind=11 then by2 p.id++secB v p.props++p.codes else if p.kind=14∨p.kind=15 then shortB v p else []:=rfl
theorem fo_fields (p:Pk) (s:Sl) (hT:Tabs c) (hp:p.At s c) (hn:s.ca=none→s.cc=0) (hF:Fit p) (hR:Ri v p):Fo 31 [p.val s] c v (behB v p):=fun b a cp l hl=>by
 have hid:=hF.id;have hcd:=hF.code;have hb1:bitN p.present 1≤1:=by unfold bitN;split<;>omega
 have c1:=ck_when (c:=c) p.present 1;have l1:(by1 (bitN p.present 1)).length=1:=rfl;have l2:(by1 p.code).length=1:=rfl;have l3:(by2 p.id).length=2:=rfl;have h1:=hR.k1;have h2:=hR.k2;have key:∀ k:Int,p.kind=k→behB v p=behB v { p with kind:=k }:=fun k h=>by subst h;rfl
 refine Tr.inb Tryz.func31 ?_;refine go ?_;refine vA fun b0=>?_
 refine go ?_
 by_cases k1:p.kind=1
 ·have e:behB v p=connB v p:=by rw[beh_kind,if_pos k1]
  rw[e]at hl ⊢;refine go ?_;refine vt11b (fo_connect p s hT hp hF hR _ _ _ l (by omega)) fun y1 h1=>?_
  refine go ?_;exact ved (vbr0 (M2:=[]) (R2:=[]) y1 h1)
 by_cases k2:p.kind=2
 ·have e:behB v p=by1 (bitN p.present 1)++by1 p.code++secB v p.props:=by rw[beh_kind,if_neg k1,if_pos k2]
  rw[e,List.length_append,List.length_append]at hl;rw[e];refine go ?_;refine vt11b (fo_one (bitN p.present 1) (by omega) _ _ _ l (by omega)) fun y1 h1=>?_
  have g1:y1.l.length=l.length+1:=by rw[h1,List.length_append,l1]
  refine go ?_;refine vt11b (fo_one p.code (by omega) _ _ _ y1.l (by omega)) fun y2 h2=>?_
  have g2:y2.l.length=y1.l.length+1:=by rw[h2,List.length_append,l2]
  refine go ?_;refine vt11b (fo_sec hR.hv hT (n:=s.pc) hp.hp hF.few.hp hF.wf.p _ _ _ y2.l (by omega)) fun y3 h3=>?_
  refine go ?_;exact ved (vbr0 (M2:=[]) (R2:=[]) y3 (by rw[h3,h2,h1];simp only[List.append_assoc]))
 by_cases k3:p.kind=3
 ·have e:behB v p=publB v p:=by rw[beh_kind,if_neg k1,if_neg k2,if_pos k3]
  rw[e]at hl ⊢;refine go ?_;refine vt11b (fo_publish p s hT hp hF hR _ _ _ l (by omega)) fun y1 h1=>?_
  refine go ?_;exact ved (vbr0 (M2:=[]) (R2:=[]) y1 h1)
 by_cases k4:p.kind=4∨p.kind=5∨p.kind=6∨p.kind=7
 ·have e:behB v p=by2 p.id++shortB v p:=by rw[beh_kind,if_neg k1,if_neg k2,if_neg k3,if_pos k4]
  rw[e,List.length_append]at hl;rw[e]
  repeat' first|refine go ?_|refine vc (fun _=>?_) fun _=>?_|fail
  all_goals
   refine vt11b (fo_two p.id (by omega) _ _ _ l (by omega)) fun y1 h1=>?_
   have g1:y1.l.length=l.length+2:=by rw[h1,List.length_append,l3]
   refine go ?_;refine vt11b (fo_short p s hT hp hF hR.hv _ _ _ y1.l (by omega)) fun y2 h2=>?_
   refine go ?_;exact ved (vbr0 (M2:=[]) (R2:=[]) y2 (by rw[h2,h1];simp only[List.append_assoc]))
 by_cases k8:p.kind=8∨p.kind=10
 ·have e:behB v p=by2 p.id++secB v p.props++filtB p.kind p.filters:=by rw[beh_kind,if_neg k1,if_neg k2,if_neg k3,if_neg k4,if_pos k8]
  rw[e,List.length_append,List.length_append]at hl;rw[e]
  repeat' first|refine go ?_|refine vc (fun _=>?_) fun _=>?_|fail
  all_goals
   refine vt11b (fo_two p.id (by omega) _ _ _ l (by omega)) fun y1 h1=>?_
   have g1:y1.l.length=l.length+2:=by rw[h1,List.length_append,l3]
   refine go ?_;refine vt11b (fo_sec hR.hv hT (n:=s.pc) hp.hp hF.few.hp hF.wf.p _ _ _ y1.l (by omega)) fun y2 h2=>?_
   have g2:y2.l.length=y1.l.length+(secB v p.props).length:=by rw[h2,List.length_append]
   refine go ?_;refine vt11b (fo_filters p s hp hF hR _ _ _ y2.l (by omega)) fun y3 h3=>?_
   refine go ?_;exact ved (vbr0 (M2:=[]) (R2:=[]) y3 (by rw[h3,h2,h1];simp only[List.append_assoc]))
 by_cases k9:p.kind=9∨p.kind=11
 ·have e:behB v p=by2 p.id++secB v p.props++p.codes:=by rw[beh_kind,if_neg k1,if_neg k2,if_neg k3,if_neg k4,if_neg k8,if_pos k9]
  rw[e,List.length_append,List.length_append]at hl;rw[e]
  repeat' first|refine go ?_|refine vc (fun _=>?_) fun _=>?_|fail
  all_goals
   refine vt11b (fo_two p.id (by omega) _ _ _ l (by omega)) fun y1 h1=>?_
   have g1:y1.l.length=l.length+2:=by rw[h1,List.length_append,l3]
   refine go ?_;refine vt11b (fo_sec hR.hv hT (n:=s.pc) hp.hp hF.few.hp hF.wf.p _ _ _ y1.l (by omega)) fun y2 h2=>?_
   have g2:y2.l.length=y1.l.length+(secB v p.props).length:=by rw[h2,List.length_append]
   refine go ?_;refine vt11b (fo_lay p.codes hp.hc hn _ _ _ y2.l (by omega)) fun y3 h3=>?_
   refine go ?_;exact ved (vbr0 (M2:=[]) (R2:=[]) y3 (by rw[h3,h2,h1];simp only[List.append_assoc]))
 by_cases k14:p.kind=14∨p.kind=15
 ·have e:behB v p=shortB v p:=by rw[beh_kind,if_neg k1,if_neg k2,if_neg k3,if_neg k4,if_neg k8,if_neg k9,if_pos k14]
  rw[e]at hl ⊢
  repeat' first|refine go ?_|refine vc (fun _=>?_) fun _=>?_|fail
  all_goals
   refine vt11b (fo_short p s hT hp hF hR.hv _ _ _ l (by omega)) fun y2 h2=>?_
   refine go ?_;exact ved (vbr0 (M2:=[]) (R2:=[]) y2 h2)
 ·have e:behB v p=[]:=by rw[beh_kind,if_neg k1,if_neg k2,if_neg k3,if_neg k4,if_neg k8,if_neg k9,if_neg k14]
  rw[e]
  repeat' first|refine go ?_|refine vc (fun _=>?_) fun _=>?_|fail
  exact ved (vbr0 (M2:=[]) (R2:=[]) ⟨a,cp,l⟩ (by simp))
def encL (v:Int) (p:Pk):List UInt8:=if rightP v p=true then encB v p else []
def eN (v:Int) (p:Pk):Nat:=if rightP v p=true then 0 else 1
theorem tn_Encode (hT:Tabs c) (v:Int) (p:Pk) (s:Sl) (hp:p.At s c) (hn:s.ca=none→s.cc=0) (hF:Fit p):Tn Tryz.prog 9 [.int .i64 v,p.val s] c (fun y:Option Addr × Nat=>.tuple #[.slice y.1 (encL v p).length y.2,.int .i64 (eN v p)]) (fun y c'=>Own9 c' 5 y.1 (encL v p).length y.2 (B8 (encL v p))):=by
 have c1:=ck_Size hT v p s hp hF;cases hR:rightP v p with
 | false =>
  have e1:sizeN v p=0:=by unfold sizeN;rw[hR];rfl
  have e2:encL v p=[]:=by unfold encL;rw[hR];rfl
  have e3:eN v p=1:=by unfold eN;rw[hR];rfl
  rw[e1]at c1;rw[e2,e3];refine Tn.in Tryz.func9 ?_;refine go ?_;refine vA fun b0=>?_
  refine go ?_;exact vrn2 ((none,0),c) ⟨Le.refl c,.nil _ _,fun _=>rfl,Nat.le_refl _,by simp[maxLen],fun h=>absurd rfl h⟩
 | true =>
  have hRi:=right_ri hR;have hr:=hRi.rest;have hv:=varL_le (restN v p);have e1:sizeN v p=1+(varL (restN v p)).length+restN v p:=by unfold sizeN;rw[hR];rfl
  have e2:encL v p=by1 (16 * p.kind.toNat+flagsN p)++varL (restN v p)++behB v p:=by unfold encL encB;rw[hR,behB_len v p hF.wf];rfl
  have e3:eN v p=0:=by unfold eN;rw[hR];rfl
  have h3:=filtersN_le p.kind p.filters hRi.filt;have h4:=hRi.nf;have k1:=hRi.k1;have k2:=hRi.k2;have f1:=flagsN_lt hRi;have c2:=ck_Rest hT v p s hp hF (by omega);have c3:=ck_Flags (c:=c) v p s hRi;have g0:=behB_len v p hF.wf;rw[e1]at c1;refine Tn.in Tryz.func9 ?_;refine go ?_;refine vA fun b0=>?_
  refine go ?_;refine vmk (k:=1) fun a0 q0=>?_
  refine go ?_;refine vA fun b=>?_
  refine go ?_;refine vh [1] ?_;refine go ?_;refine vqe (v':=.int .u8 (16 * p.kind.toNat+flagsN p:Nat)) (by congr 1;omega) ?_;refine vqt11 (fo_one (16 * p.kind.toNat+flagsN p) (by omega) _ _ _ [] (by simp[by1])) fun y1 h1=>?_
  have g1:y1.l.length=1:=by rw[h1];rfl
  refine go ?_;refine vt11 (fo_number (restN v p) hr _ _ _ y1.l (by omega)) fun y2 h2=>?_
  have g2:y2.l.length≤5:=by rw[h2,List.length_append];omega
  refine go ?_;refine vt11 (fo_fields p s hT hp hn hF hRi _ _ _ y2.l (by omega)) fun y3 h3=>?_
  have g3:y3.l=encL v p:=by rw[h3,h2,h1,e2];simp
  refine go ?_;refine vef9 fun c' hl ho=>?_
  rw[← g3,e3];exact vrn2 ((y3.a,y3.cp),c') ⟨hl,ho⟩
end
end Go.Proofs.YtohmcfmcbibbcaaGreatDoor
